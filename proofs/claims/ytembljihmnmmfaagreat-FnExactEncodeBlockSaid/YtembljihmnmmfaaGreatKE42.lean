/- Texts of the proof, merged. -/
import Derived.Test.YtembljihmnmmfaaGreatKE22
import Derived.Test.YtembljihmnmmfaaGreatKE34
import Derived.Test.YtembljihmnmmfaaGreatKE35
namespace Go.Proofs.YtembljihmnmmfaaGreat
set_option linter.unusedVariables false
set_option linter.unusedSimpArgs false
open Go.RowKit
theorem qC {l:List Nat} (hl:l≠[]) (hb:Byt l) {O:List Nat} (h:QT l O∨O=Qm l):ZK O=true∧Byt O∧O.length≤256∧1≤O.length∧(∀ x,x∈O↔x∈l)∧Qm O=Qm l:=by
 have hm:∀ x,x∈O↔x∈l:=by
  rcases h with h | h
  ·exact h.2
  ·intro x;rw [h];exact ZU hb
 have hn:O.Nodup:=by
  rcases h with h | h
  ·exact zN h
  ·rw [h];exact ZF l
 have hB:Byt O:=fun x hx=>hb x ((hm x).1 hx)
 have hne:O≠[]:=by
  obtain ⟨x,hx⟩:=List.exists_mem_of_ne_nil l hl
  intro e
  have:=(hm x).2 hx
  rw [e] at this
  cases this
 have hu:Qm O=Qm l:=by
  rcases h with h | h
  ·exact AIr hb h
  ·rw [h];exact (Jd (Xn l)).2 (ZT l)
 refine ⟨(Xz _).2 ⟨hne,hn⟩,hB,QO hB hn,?_,hm,hu⟩
 cases O with
 | nil=>exact absurd rfl hne
 | cons x r=>simp
theorem Js {s:ByteArray} (h:0<s.size):Qb s≠[]:=by
 intro e
 have:=Qi s
 rw [e] at this
 simp at this
 omega
theorem qG {s:ByteArray} (h:0<s.size∧s.size≤600) {O:List Nat} (hO:QT (Qb s) O∨O=Qm (Qb s)):rOk (rkS s O) (O.length:Int)=true∧(rkS s O).length=s.size:=by
 obtain ⟨h1,h2,h3,h4,h5,_⟩:=qC (Js h.1) (QF s) hO
 have hk:rkOk (Qb (lstZ s)) O=true:=by
  rw [XH,Qi,xm s h]
  refine ⟨h.2,h1,fun b hb=>?_⟩
  rw [AOd s h] at hb
  exact (h5 b).2 ((yB _).mem_iff.1 hb)
 have e:rkS s O=(Qb (lstZ s)).map fun b=>(O.idxOf b:Int):=by
  unfold rkS rkL rkTo
  rw [if_pos hk,List.take_length]
 have hl:(rkS s O).length=s.size:=by rw [e,List.length_map,Qi,xm s h]
 refine ⟨?_,hl⟩
 rw [Jc,hl]
 refine ⟨by omega,by omega,h.2,fun x hx=>?_⟩
 rw [e] at hx
 obtain ⟨b,hb,rfl⟩:=List.mem_map.1 hx
 have:=List.idxOf_lt_length_of_mem (((XH _ _).1 hk).2.2 b hb)
 omega
theorem jG {L:List Int} {n:Nat} (h:rOk L n=true):∀ m:Int,m=1∨m=2→rowB (stgR L m (n:Int)) ((n+2:Nat):Int)=true∧1≤(stgR L m (n:Int)).length:=by
 obtain ⟨D,k,rfl,hk,hm1,hm2,hL6,hLm⟩:=Zn h
 obtain rfl:n=k:=by omega
 have key:∀ E:List Nat,E.length≤600→(∀ x∈E,x<n)→rowB (ZV (ints E) (n:Int)) ((n+2:Nat):Int)=true∧1≤(ZV (ints E) (n:Int)).length:=by
  intro E hE hx
  have hr:rOk (ints E) n=true:=by
   rw [Jc,Ql]
   refine ⟨by omega,by omega,hE,fun x hx2=>?_⟩
   obtain ⟨y,hy,rfl⟩:=List.mem_map.1 hx2
   have:=hx y hy
   omega
  rw [VI hr]
  refine ⟨AZu (by omega) (by omega) (by rw [Ql,List.length_append];have:=JF E 0;simp;omega) (fun x hx2=>?_),by rw [Ql,List.length_append];simp⟩
  obtain ⟨d,hd,rfl⟩:=List.mem_map.1 hx2
  rcases List.mem_append.1 hd with hd | hd
  ·have:=zg n E 0 hx d hd;omega
  ·rw [List.mem_singleton.1 hd];omega
 intro m hm
 rcases hm with rfl | rfl
 ·have e:stgR (ints D) 1 (n:Int)=ZV (mtfZ (ints D) n) n:=by simp [stgR]
  rw [e,Yg h]
  exact key _ (by rw [Xi];exact hL6) (ADz hLm)
 ·have e:stgR (ints D) 2 (n:Int)=ZV (sbrZ (ints D) n) n:=by simp [stgR]
  rw [e,Vn h]
  exact key _ (by rw [Xi];exact hL6) (APc hLm)
theorem qw {s:ByteArray} (h:0<s.size∧s.size≤600):∃ f:Nat,fstZ s=(f:Int)∧f≤600:=by
 have h1:=AOn s
 have h2:0≤fstZ s:=by unfold fstZ;rw [if_pos h];omega
 exact ⟨(fstZ s).toNat,by omega,by omega⟩
theorem qo {s:ByteArray} (h:0<s.size):JR (Qm (Qb s))=true:=by
 rw [Xw]
 refine ⟨?_,(Jd (Xn _)).2 (ZT _)⟩
 obtain ⟨x,hx⟩:=List.exists_mem_of_ne_nil _ (Js h)
 intro e
 have:=(ZU (QF s)).2 hx
 rw [e] at this
 cases this
end Go.Proofs.YtembljihmnmmfaaGreat
