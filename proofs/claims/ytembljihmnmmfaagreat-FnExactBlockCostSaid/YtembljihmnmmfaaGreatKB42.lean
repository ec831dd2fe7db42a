/- Texts of the proof, merged. -/
import Derived.Test.YtembljihmnmmfaaGreatKB22
import Derived.Test.YtembljihmnmmfaaGreatKB34
import Derived.Test.YtembljihmnmmfaaGreatKB35
namespace Go.Proofs.YtembljihmnmmfaaGreat
set_option linter.unusedVariables false
set_option linter.unusedSimpArgs false
open Go.RowKit
theorem Vl {l:List Nat} (hl:l≠[]) (hb:Byt l) {O:List Nat} (h:QO l O∨O=Qm l):ZA O=true∧Byt O∧O.length≤256∧1≤O.length∧(∀ x,x∈O↔x∈l)∧Qm O=Qm l:=by
 have hm:∀ x,x∈O↔x∈l:=by
  rcases h with h | h
  ·exact h.2
  ·intro x;rw [h];exact ZN hb
 have hn:O.Nodup:=by
  rcases h with h | h
  ·exact zu h
  ·rw [h];exact ZB l
 have hB:Byt O:=fun x hx=>hb x ((hm x).1 hx)
 have hne:O≠[]:=by
  obtain ⟨x,hx⟩:=List.exists_mem_of_ne_nil l hl
  intro e
  have:=(hm x).2 hx
  rw [e] at this
  cases this
 have hu:Qm O=Qm l:=by
  rcases h with h | h
  ·exact AJk hb h
  ·rw [h];exact (Jd (Xk l)).2 (ZL l)
 refine ⟨(Xw _).2 ⟨hne,hn⟩,hB,QK hB hn,?_,hm,hu⟩
 cases O with
 | nil=>exact absurd rfl hne
 | cons x r=>simp
theorem Ja {s:ByteArray} (h:0<s.size):Qb s≠[]:=by
 intro e
 have:=Qf s
 rw [e] at this
 simp at this
 omega
theorem qF {s:ByteArray} (h:0<s.size∧s.size≤600) {O:List Nat} (hO:QO (Qb s) O∨O=Qm (Qb s)):rOk (rkS s O) (O.length:Int)=true∧(rkS s O).length=s.size:=by
 obtain ⟨h1,h2,h3,h4,h5,_⟩:=Vl (Ja h.1) (QA s) hO
 have hk:rkOk (Qb (lstZ s)) O=true:=by
  rw [XD,Qf,xh s h]
  refine ⟨h.2,h1,fun b hb=>?_⟩
  rw [ALt s h] at hb
  exact (h5 b).2 ((vd _).mem_iff.1 hb)
 have e:rkS s O=(Qb (lstZ s)).map fun b=>(O.idxOf b:Int):=by
  unfold rkS rkL rkTo
  rw [if_pos hk,List.take_length]
 have hl:(rkS s O).length=s.size:=by rw [e,List.length_map,Qf,xh s h]
 refine ⟨?_,hl⟩
 rw [Jc,hl]
 refine ⟨by omega,by omega,h.2,fun x hx=>?_⟩
 rw [e] at hx
 obtain ⟨b,hb,rfl⟩:=List.mem_map.1 hx
 have:=List.idxOf_lt_length_of_mem (((XD _ _).1 hk).2.2 b hb)
 omega
theorem jA {L:List Int} {n:Nat} (h:rOk L n=true):∀ m:Int,m=1∨m=2→rowB (stgR L m (n:Int)) ((n+2:Nat):Int)=true∧1≤(stgR L m (n:Int)).length:=by
 obtain ⟨D,k,rfl,hk,hm1,hm2,hL6,hLm⟩:=Za h
 obtain rfl:n=k:=by omega
 have key:∀ E:List Nat,E.length≤600→(∀ x∈E,x<n)→rowB (ZP (ints E) (n:Int)) ((n+2:Nat):Int)=true∧1≤(ZP (ints E) (n:Int)).length:=by
  intro E hE hx
  have hr:rOk (ints E) n=true:=by
   rw [Jc,Qj]
   refine ⟨by omega,by omega,hE,fun x hx2=>?_⟩
   obtain ⟨y,hy,rfl⟩:=List.mem_map.1 hx2
   have:=hx y hy
   omega
  rw [VJ hr]
  refine ⟨AWy (by omega) (by omega) (by rw [Qj,List.length_append];have:=Jw E 0;simp;omega) (fun x hx2=>?_),by rw [Qj,List.length_append];simp⟩
  obtain ⟨d,hd,rfl⟩:=List.mem_map.1 hx2
  rcases List.mem_append.1 hd with hd | hd
  ·have:=qN n E 0 hx d hd;omega
  ·rw [List.mem_singleton.1 hd];omega
 intro m hm
 rcases hm with rfl | rfl
 ·have e:stgR (ints D) 1 (n:Int)=ZP (mtfZ (ints D) n) n:=by simp [stgR]
  rw [e,JS h]
  exact key _ (by rw [Xc];exact hL6) (AEi hLm)
 ·have e:stgR (ints D) 2 (n:Int)=ZP (sbrZ (ints D) n) n:=by simp [stgR]
  rw [e,Vc h]
  exact key _ (by rw [Xc];exact hL6) (ARg hLm)
theorem qp {s:ByteArray} (h:0<s.size∧s.size≤600):∃ f:Nat,fstZ s=(f:Int)∧f≤600:=by
 have h1:=AKy s
 have h2:0≤fstZ s:=by unfold fstZ;rw [if_pos h];omega
 exact ⟨(fstZ s).toNat,by omega,by omega⟩
theorem qa {s:ByteArray} (h:0<s.size):JK (Qm (Qb s))=true:=by
 rw [Xy]
 refine ⟨?_,(Jd (Xk _)).2 (ZL _)⟩
 obtain ⟨x,hx⟩:=List.exists_mem_of_ne_nil _ (Ja h)
 intro e
 have:=(ZN (QA s)).2 hx
 rw [e] at this
 cases this
end Go.Proofs.YtembljihmnmmfaaGreat
