/- Texts of the proof, merged. -/
import Derived.Test.YtembljihmnmmfaaGreatKE22
import Derived.Test.YtembljihmnmmfaaGreatKE34
import Derived.Test.YtembljihmnmmfaaGreatKE35
namespace Go.Proofs.YtembljihmnmmfaaGreat
set_option linter.unusedVariables false
set_option linter.unusedSimpArgs false
open Go.RowKit
theorem qA {l:List Nat} (hl:l≠[]) (hb:Byt l) {O:List Nat} (h:QT l O∨O=Qm l):ZJ O=true∧Byt O∧O.length≤256∧1≤O.length∧(∀ x,x∈O↔x∈l)∧Qm O=Qm l:=by
 have hm:∀ x,x∈O↔x∈l:=by
  rcases h with h | h
  ·exact h.2
  ·intro x;rw [h];exact ZT hb
 have hn:O.Nodup:=by
  rcases h with h | h
  ·exact zF h
  ·rw [h];exact ZF l
 have hB:Byt O:=fun x hx=>hb x ((hm x).1 hx)
 have hne:O≠[]:=by
  obtain ⟨x,hx⟩:=List.exists_mem_of_ne_nil l hl
  intro e
  have:=(hm x).2 hx
  rw [e] at this
  cases this
 have hu:Qm O=Qm l:=by
  rcases h with h | h
  ·exact AIj hb h
  ·rw [h];exact (Jc (Xm l)).2 (ZU l)
 refine ⟨(Xw _).2 ⟨hne,hn⟩,hB,QO hB hn,?_,hm,hu⟩
 cases O with
 | nil=>exact absurd rfl hne
 | cons x r=>simp
theorem Jn {s:ByteArray} (h:0<s.size):Qb s≠[]:=by
 intro e
 have:=Qi s
 rw [e] at this
 simp at this
 omega
theorem qG {s:ByteArray} (h:0<s.size∧s.size≤600) {O:List Nat} (hO:QT (Qb s) O∨O=Qm (Qb s)):rOk (rkS s O) (O.length:Int)=true∧(rkS s O).length=s.size:=by
 obtain ⟨h1,h2,h3,h4,h5,_⟩:=qA (Jn h.1) (QF s) hO
 have hk:rkOk (Qb (lstZ s)) O=true:=by
  rw [XB,Qi,xm s h]
  refine ⟨h.2,h1,fun b hb=>?_⟩
  rw [AOh s h] at hb
  exact (h5 b).2 ((vj _).mem_iff.1 hb)
 have e:rkS s O=(Qb (lstZ s)).map fun b=>(O.idxOf b:Int):=by
  unfold rkS rkL rkTo
  rw [if_pos hk,List.take_length]
 have hl:(rkS s O).length=s.size:=by rw [e,List.length_map,Qi,xm s h]
 refine ⟨?_,hl⟩
 rw [Je,hl]
 refine ⟨by omega,by omega,h.2,fun x hx=>?_⟩
 rw [e] at hx
 obtain ⟨b,hb,rfl⟩:=List.mem_map.1 hx
 have:=List.idxOf_lt_length_of_mem (((XB _ _).1 hk).2.2 b hb)
 omega
theorem jx {L:List Int} {n:Nat} (h:rOk L n=true):∀ m:Int,m=1∨m=2→rowB (stgR L m (n:Int)) ((n+2:Nat):Int)=true∧1≤(stgR L m (n:Int)).length:=by
 obtain ⟨D,k,rfl,hk,hm1,hm2,hL6,hLm⟩:=Zn h
 obtain rfl:n=k:=by omega
 have key:∀ E:List Nat,E.length≤600→(∀ x∈E,x<n)→rowB (ZV (ints E) (n:Int)) ((n+2:Nat):Int)=true∧1≤(ZV (ints E) (n:Int)).length:=by
  intro E hE hx
  have hr:rOk (ints E) n=true:=by
   rw [Je,Ql]
   refine ⟨by omega,by omega,hE,fun x hx2=>?_⟩
   obtain ⟨y,hy,rfl⟩:=List.mem_map.1 hx2
   have:=hx y hy
   omega
  rw [VP hr]
  refine ⟨AYe (by omega) (by omega) (by rw [Ql,List.length_append];have:=JB E 0;simp;omega) (fun x hx2=>?_),by rw [Ql,List.length_append];simp⟩
  obtain ⟨d,hd,rfl⟩:=List.mem_map.1 hx2
  rcases List.mem_append.1 hd with hd | hd
  ·have:=zr n E 0 hx d hd;omega
  ·rw [List.mem_singleton.1 hd];omega
 intro m hm
 rcases hm with rfl | rfl
 ·have e:stgR (ints D) 1 (n:Int)=ZV (mtfZ (ints D) n) n:=by simp [stgR]
  rw [e,Yb h]
  exact key _ (by rw [Xj];exact hL6) (AEq hLm)
 ·have e:stgR (ints D) 2 (n:Int)=ZV (sbrZ (ints D) n) n:=by simp [stgR]
  rw [e,Vv h]
  exact key _ (by rw [Xj];exact hL6) (ARt hLm)
theorem qj {s:ByteArray} (h:0<s.size∧s.size≤600):∃ f:Nat,fstZ s=(f:Int)∧f≤600:=by
 have h1:=AMw s
 have h2:0≤fstZ s:=by unfold fstZ;rw [if_pos h];omega
 exact ⟨(fstZ s).toNat,by omega,by omega⟩
theorem qF {s:ByteArray} (h:0<s.size):JJ (Qm (Qb s))=true:=by
 rw [Xz]
 refine ⟨?_,(Jc (Xm _)).2 (ZU _)⟩
 obtain ⟨x,hx⟩:=List.exists_mem_of_ne_nil _ (Jn h)
 intro e
 have:=(ZT (QF s)).2 hx
 rw [e] at this
 cases this
end Go.Proofs.YtembljihmnmmfaaGreat
