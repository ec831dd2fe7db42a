/- Texts of the proof, merged. -/
import Derived.Lib.Bytealg
import Derived.Lib.Index
import Derived.Test.YtembljihmnmmfaaGreatKB2
import Derived.Deep.QuietTactic
import Derived.BigQuiet
import Derived.RegionTactic
import Derived.ChangeAlike
import Derived.Test.YtembljihmnmmfaaGreatKB22
import Derived.Test.YtembljihmnmmfaaGreatKB16
import Derived.Test.YtembljihmnmmfaaGreatKB12
namespace Go.Proofs.YtembljihmnmmfaaGreat
set_option linter.unusedVariables false
set_option linter.unusedSimpArgs false
def lF (n:Nat) (f:Nat→Nat):List Nat:=(List.range n).map f
theorem AZi (n:Nat) (f:Nat→Nat):(lF n f).length=n:=by unfold lF;simp
theorem AZo (n:Nat) (f:Nat→Nat) (k:Nat) (h:k<n):(lF n f).getD k 0=f k:=by
 unfold lF
 rw [List.getD_eq_getElem?_getD,List.getElem?_map,List.getElem?_range h]
 rfl
theorem AWr {n:Nat} {f:Nat→Nat} (h:Trn 0 n idF f):(lF n f).Perm (List.range n):=by
 obtain ⟨s,h1,h2,h3,h4⟩:=h
 have hi:∀ i j,f i=f j→i=j:=fun i j e=>h4 i j (by rw [h1,h1] at e;exact e)
 have hn:(lF n f).Nodup:=by
  unfold lF
  rw [List.nodup_iff_pairwise_ne,List.pairwise_map]
  exact List.nodup_range.imp fun hne e=>hne (hi _ _ e)
 have hs:∀ x∈lF n f,x<n:=fun x hx=>by
  obtain ⟨k,hk,rfl⟩:=List.mem_map.1 hx
  rw [h1]
  exact (h3 k (Nat.zero_le k) (List.mem_range.1 hk)).2
 rw [List.perm_ext_iff_of_nodup hn List.nodup_range]
 intro x
 rw [List.mem_range]
 refine ⟨hs x,fun hx=>?_⟩
 apply Decidable.byContradiction
 intro hc
 have:=Vd (l:=x::lF n f) (m:=List.range n) (List.nodup_cons.2 ⟨hc,hn⟩) (fun b hb=>by
  rw [List.mem_range]
  rcases List.mem_cons.1 hb with rfl | hb
  ·exact hx
  ·exact hs b hb)
 rw [List.length_cons,AZi,List.length_range] at this
 omega
theorem AYp {R:Nat→Nat→Prop} {n:Nat} {f:Nat→Nat} (h:So R f 0 n):(lF n f).Pairwise R:=by
 unfold lF
 rw [List.pairwise_map]
 have:(List.range n).Pairwise (fun a b=>a<b∧b<n):=by
  rw [List.pairwise_iff_getElem]
  intro i j hi hj hij
  rw [List.getElem_range,List.getElem_range]
  rw [List.length_range] at hj
  exact ⟨hij,hj⟩
 exact this.imp fun hab=>h _ _ (Nat.zero_le _) hab.1 hab.2
theorem ASr {S:List Nat} {f:Nat→Nat} (h:Trn 0 S.length idF f) (s:So (rlt S) f 0 S.length):lF S.length f=rotO S:=vZ ⟨AWr h,AYp s⟩
theorem cmpB (a b:List UInt8):(Lib.compareBytes a b<0↔a.map UInt8.toNat<b.map UInt8.toNat)∧(Lib.compareBytes a b=0↔a=b):=by
 induction a generalizing b with
 | nil=>cases b <;> simp [Lib.compareBytes]
 | cons x a ih =>
   cases b with
   | nil=>simp [Lib.compareBytes]
   | cons y b =>
     obtain ⟨i1,i2⟩:=ih b
     have hlt:x<y↔x.toNat<y.toNat:=UInt8.lt_iff_toNat_lt
     have hgt:y<x↔y.toNat<x.toNat:=UInt8.lt_iff_toNat_lt
     have heq:x=y↔x.toNat=y.toNat:=⟨fun e=>by rw [e],fun e=>UInt8.toNat_inj.1 e⟩
     rw [List.map_cons,List.map_cons,List.cons_lt_cons_iff]
     unfold Lib.compareBytes
     by_cases h1:x<y
     ·have h1n:=hlt.1 h1
      rw [if_pos h1]
      refine ⟨⟨fun _=>.inl h1n,fun _=>by omega⟩,⟨fun e=>by omega,fun e=>?_⟩⟩
      injection e with e1 e2
      rw [heq] at e1
      omega
     ·rw [if_neg h1]
      by_cases h2:y<x
      ·have h2n:=hgt.1 h2
       rw [if_pos h2]
       refine ⟨⟨fun e=>by omega,fun e=>by rcases e with e | e <;> omega⟩,⟨fun e=>by omega,fun e=>?_⟩⟩
       injection e with e1 e2
       rw [heq] at e1
       omega
      ·rw [if_neg h2]
       have h3:x.toNat=y.toNat:=by
        have a1:=mt hlt.2 h1
        have a2:=mt hgt.2 h2
        omega
       refine ⟨⟨fun e=>.inr ⟨h3,i1.1 e⟩,fun e=>?_⟩,⟨fun e=>?_,fun e=>?_⟩⟩
       ·rcases e with e | e
        ·omega
        ·exact i1.2 e.2
       ·rw [heq.2 h3,i2.1 e]
       ·injection e with e1 e2
        exact i2.2 e2
def rotU (s:ByteArray) (i:Nat):List UInt8:=((s++s).extract i (i+s.size)).data.toList
theorem YE (s:ByteArray) (i:Nat) (h:i≤s.size):(rotU s i).map UInt8.toNat=rotL (Qb s) i:=by
 unfold rotU rotL Qb
 simp only [ByteArray.data_append,ByteArray.data_extract,Array.toList_append,Array.toList_extract,List.map_append]
 have hl:s.data.toList.length=s.size:=by simp
 rw [List.extract_eq_take_drop,List.map_take,List.map_drop,Array.toList_append,List.map_append,List.drop_append_of_le_length (by simp;exact h),List.take_append,List.length_drop,List.length_map,hl,
  List.take_of_length_le (by simp),show i+s.size-i-(s.size-i)=i by omega]
def cfR (s:ByteArray) (x y:Nat):Int:=if Lib.compareBytes (rotU s x) (rotU s y)=0 then (y:Int)-(x:Int) else Lib.compareBytes (rotU s x) (rotU s y)
theorem ACl {a b:List UInt8} (h:a.map UInt8.toNat=b.map UInt8.toNat):a=b:=by
 have:=congrArg (List.map UInt8.ofNat) h
 have e:(UInt8.ofNat ∘ UInt8.toNat)=id:=by funext x;simp
 rwa [List.map_map,List.map_map,e,List.map_id,List.map_id] at this
theorem AXo (s:ByteArray):Cmp (cfR s) (rlt (Qb s)) s.size where
 lt:=fun x y h1 h2 h=>by
  have e1:=YE s x (by omega)
  have e2:=YE s y (by omega)
  obtain ⟨c1,c2⟩:=cmpB (rotU s y) (rotU s x)
  unfold cfR at h
  unfold rlt
  rw [←e1,←e2]
  split at h
  ·rename_i h3
   exact .inr ⟨by rw [c2.1 h3],h1⟩
  ·exact .inl (c1.1 h)
 ge:=fun x y h1 h2 h=>by
  have e1:=YE s x (by omega)
  have e2:=YE s y (by omega)
  obtain ⟨c1,c2⟩:=cmpB (rotU s y) (rotU s x)
  unfold cfR at h
  rcases AAt (Qb s) (i:=x) (j:=y) (by omega) with h3 | h3
  ·exact h3
  ·exfalso
   split at h
   ·omega
   ·rename_i h4
    unfold rlt at h3
    rw [←e1,←e2] at h3
    rcases h3 with h3 | ⟨h3,_⟩
    ·exact h (c1.2 h3)
    ·exact h4 (c2.2 (ACl h3))
 tr:=fun x y z _ _ _ h1 h2=>zr h1 h2
theorem ANg (n:Nat):((List.range n).map fun a=>(a+n-1) % n).Perm (List.range n):=by
 rcases Nat.eq_zero_or_pos n with rfl | hn
 ·exact List.Perm.refl _
 have key:∀ a,a<n→(a+n-1) % n=if a=0 then n-1 else a-1:=by
  intro a ha
  by_cases h:a=0
  ·subst h;rw [if_pos rfl,Nat.zero_add];exact Nat.mod_eq_of_lt (by omega)
  ·rw [if_neg h,show a+n-1=a-1+n by omega,Nat.add_mod_right];exact Nat.mod_eq_of_lt (by omega)
 have hnd:((List.range n).map fun a=>(a+n-1) % n).Nodup:=by
  rw [List.nodup_iff_pairwise_ne,List.pairwise_map]
  refine List.Pairwise.imp_of_mem ?_ (List.nodup_iff_pairwise_ne.1 (List.nodup_range (n:=n)))
  intro a b ha hb hne e
  rw [List.mem_range] at ha hb
  rw [key a ha,key b hb] at e
  split at e <;> split at e <;> omega
 rw [List.perm_ext_iff_of_nodup hnd List.nodup_range]
 intro x
 rw [List.mem_range,List.mem_map]
 constructor
 ·rintro ⟨a,_,rfl⟩;exact Nat.mod_lt _ hn
 ·intro hx
  refine ⟨(x+1) % n,List.mem_range.2 (Nat.mod_lt _ hn),?_⟩
  rw [key _ (Nat.mod_lt _ hn)]
  by_cases h:x+1=n
  ·rw [h,Nat.mod_self,if_pos rfl];omega
  ·rw [Nat.mod_eq_of_lt (by omega),if_neg (by omega)];omega
theorem AWn (S:List Nat) (h:0<S.length):fstN S<S.length∧(rotO S).getD (fstN S) 0=0:=by
 have hm:0∈rotO S:=(Jn S).1.mem_iff.2 (List.mem_range.2 h)
 have h1:fstN S<(rotO S).length:=List.idxOf_lt_length_of_mem hm
 refine ⟨by rwa [XF] at h1,?_⟩
 rw [List.getD_eq_getElem?_getD,List.getElem?_eq_getElem h1]
 exact List.getElem_idxOf h1
theorem vd (S:List Nat):(QU S).Perm S:=by
 have p1:=(Jn S).1.map (fun r=>S.getD ((r+S.length-1) % S.length) 0)
 have p2:=(ANg S.length).map (fun a=>S.getD a 0)
 rw [List.map_map] at p2
 have e:(List.range S.length).map (fun a=>S.getD a 0)=S:=by
  apply List.ext_getElem (by simp)
  intro i h1 h2
  rw [List.getElem_map,List.getElem_range,List.getD_eq_getElem?_getD,List.getElem?_eq_getElem h2]
  rfl
 rw [e] at p2
 exact p1.trans p2
theorem ASc (s:ByteArray):Byt (QU (Qb s)):=fun b hb=>QA s b ((vd _).mem_iff.1 hb)
theorem xh (s:ByteArray) (h:0<s.size∧s.size≤600):(lstZ s).size=s.size:=by
 unfold lstZ;rw [if_pos h,QB,zN,Qf]
theorem ALt (s:ByteArray) (h:0<s.size∧s.size≤600):Qb (lstZ s)=QU (Qb s):=by
 unfold lstZ;rw [if_pos h,QI (ASc s)]
theorem AKy (s:ByteArray):-1≤fstZ s∧fstZ s≤600:=by
 unfold fstZ
 split
 ·rename_i h
  have:=(AWn (Qb s) (by rw [Qf];exact h.1)).1
  rw [Qf] at this
  omega
 ·omega
theorem xr (s:ByteArray):(lstZ s).size≤600:=by
 by_cases h:0<s.size∧s.size≤600
 ·rw [xh s h];exact h.2
 ·unfold lstZ;rw [if_neg h];decide
end Go.Proofs.YtembljihmnmmfaaGreat
