/- Texts of the proof, merged. -/
import Derived.Test.YtembljihmnmmfaaGreatKB5
import Derived.Test.YtembljihmnmmfaaGreatKB24
namespace Go.Proofs.YtembljihmnmmfaaGreat
set_option linter.unusedVariables false
set_option linter.unusedSimpArgs false
open Go.RowKit Go.ChangeShapes Go.WideShapes Go.ChangeAt
structure ByRows (V:List Value) (w w':World):Prop where
 os:w'.os=w.os
 tape:w'.tape=w.tape
 output:w'.output=w.output
 size:w.heap.size≤w'.heap.size
 block:∀ i,i<w.heap.size→(∀ v∈V,v.ownBlock≠some i)→w'.heap[i]? = w.heap[i]?
theorem ByRows.refl (V:List Value) (w:World):ByRows V w w:=⟨rfl,rfl,rfl,Nat.le_refl _,fun _ _ _=>rfl⟩
theorem ByRows.grown {V:List Value} {a b c:World} {v:Value} (h:ByRows V a b) (hg:b.grownBy c v.ownBlock) (hv:v∈V):ByRows V a c :=
 ⟨hg.os.trans h.os,hg.tape.trans h.tape,hg.output.trans h.output,Nat.le_trans h.size hg.size,fun i hi hn=>(hg.block i (Nat.lt_of_lt_of_le hi h.size) (fun e=>hn v hv e.symm)).trans (h.block i hi hn)⟩
structure OwnT (w:World) (lo hi:Nat) (v:Value) (V:List Value) (T:List (List Int)):Prop where
 own:w.ownsRow lo 99 1 v T.length V
 rows:Zz w lo V T
 top:yA v lo hi
 rng:∀ u∈V,yA u lo hi
 apart:∀ i j,i<j→j<T.length→(V.getD i undef).ownBlock=none∨(V.getD i undef).ownBlock≠(V.getD j undef).ownBlock
theorem AOd {V:List Value} {j:Nat} (h:j<V.length):V.getD j undef∈V:=by
 have e:V.getD j undef=V[j]:=by simp [List.getD_eq_getElem?_getD,h]
 rw [e];exact List.getElem_mem h
theorem ARc {V:List Value} {x:Value} (h:x∈V):∃ k,k<V.length∧V.getD k undef=x:=by
 obtain ⟨k,hk,e⟩:=List.getElem_of_mem h
 exact ⟨k,hk,by simp [List.getD_eq_getElem?_getD,hk,e]⟩
theorem OwnT.below {w w':World} {lo hi:Nat} {v:Value} {V:List Value} {T:List (List Int)} (h:OwnT w lo hi v V T) (hb:Below w.heap.size w w'):OwnT w' lo hi v V T :=
 ⟨Ql h.own hb,h.rows.below hb,h.top,h.rng,h.apart⟩
theorem OwnT.nil (w:World) (lo hi:Nat):OwnT w lo hi (.slice none 0 0) [] [] :=
 ⟨World.ownsRow_nil _ _ _ _,Zz.nil _ _,(fun k hk=>by simp [Value.ownBlock] at hk),(fun u hu=>by cases hu),fun i j _ hj=>by cases hj⟩
theorem OwnT.kept {w w':World} {lo hi:Nat} {v u:Value} {V:List Value} {T:List (List Int)} (h:OwnT w lo hi v V T) (hg:w.grownBy w' u.ownBlock) (h1:v.ownBlock=none∨v.ownBlock≠u.ownBlock) (h2:∀ x∈V,x.ownBlock=none∨x.ownBlock≠u.ownBlock):OwnT w' lo hi v V T:=by
 have one:∀ {x:Value} {n size:Nat} {e:TypeId} {xs:List Value},w.ownsRow lo e size x n xs→(x.ownBlock=none∨x.ownBlock≠u.ownBlock)→w'.ownsRow lo e size x n xs:=fun hx hne=>hx.kept hg hne
 exact ⟨one h.own h1,⟨h.rows.1,fun j hj=>one (h.rows.2 j hj) (h2 _ (AOd (by rw [h.rows.1];exact hj)))⟩,h.top,h.rng,h.apart⟩
theorem OwnT.cell {w:World} {lo hi n c i:Nat} {a:Option Addr} {V:List Value} {T:List (List Int)} (h:OwnT w lo hi (.slice a n c) V T) (hi2:i<T.length):∃ g b m,a=some ⟨g,0,none⟩∧w.cell? ⟨g,i,none⟩=some (.slice b (T.getD i []).length m)∧V.getD i undef=.slice b (T.getD i []).length m∧g<w.heap.size:=by
 obtain ⟨b,m,hb⟩:=AFr (h.rows.2 i hi2)
 rcases h.own.2 with ⟨_,h0⟩ | ⟨g,cap,cur,hv,hg,hcur,_⟩
 ·omega
 ·simp only [Value.slice.injEq] at hv
  obtain ⟨rfl,rfl,rfl⟩:=hv
  refine ⟨g,b,m,rfl,?_,hb,(Array.getElem?_eq_some_iff.1 hcur).1⟩
  rw [h.own.cellAt i (by omega),←hb]
  rw [List.getD_eq_getElem?_getD,List.getElem?_eq_getElem (by rw [h.rows.1];exact hi2)];rfl
def FitT (T:List (List Int)):Prop:=∀ i,i<T.length→(T.getD i []).length≤1048576∧∀ x∈T.getD i [],-9223372036854775808≤x∧x≤9223372036854775807
theorem OwnT.tabs {w:World} {lo hi n c:Nat} {a:Option Addr} {V:List Value} {T:List (List Int)} (h:OwnT w lo hi (.slice a n c) V T) (hf:FitT T) (hl:T.length≤1048576):Tabs w w.heap.size a T:=by
 have e:n=T.length:=by
  rcases h.own.2 with ⟨hv,h0⟩ | ⟨g,cap,cur,hv,_⟩
  ·simp only [Value.slice.injEq] at hv;omega
  ·simp only [Value.slice.injEq] at hv;exact hv.2.1
 subst e
 exact XS h.own h.rows (by omega) (fun i hi=>⟨by have:=(hf i hi).1;omega,(hf i hi).2⟩)
theorem OwnT.form {w:World} {lo hi:Nat} {v:Value} {V:List Value} {T:List (List Int)} (h:OwnT w lo hi v V T):∃ a c,v=.slice a T.length c∧T.length≤c:=by
 obtain ⟨a,c,rfl⟩:=AFr h.own
 exact ⟨a,c,rfl,Xu h.own⟩
theorem Tabs.range {w:World} {B:Nat} {a:Option Addr} {T:List (List Int)} (h:Tabs w B a T) (hl:∀ i,i<T.length→(T.getD i []).length≤1048576):FitT T:=fun i hi=>by
 obtain ⟨b,off,a2,c2,_,_,_,_,hz⟩:=h.at hi
 exact ⟨hl i hi,hz.2.1⟩
def APm (w:World) (a:Option Addr) (len cap:Nat) (R:Nat→Option Addr × Nat × Nat × List Int):Prop :=
 (a=none∧len=0∧cap=0)∨∃ x:Addr,a=some x∧len≤cap∧cap≤maxLen∧∀ i,i<len→w.cell? (x.add i)=some (.slice (R i).1 (R i).2.1 (R i).2.2.1)∧AMy .i64 w (R i).1 (R i).2.1 (R i).2.2.1 (R i).2.2.2
def sumR (R:Nat→Option Addr × Nat × Nat × List Int):Nat→Nat
 | 0=>0
 | i+1=>sumR R i+(R i).2.1
theorem ARr (R:Nat→Option Addr × Nat × Nat × List Int):∀ {i j:Nat},i≤j→sumR R i≤sumR R j:=by
 intro i j h
 induction h with
 | refl=>exact Nat.le_refl _
 | step h ih=>exact Nat.le_trans ih (by show _≤sumR R _+_;omega)
theorem APm.cell {w:World} {a:Option Addr} {len cap:Nat} {R:Nat→Option Addr × Nat × Nat × List Int} (h:APm w a len cap R) {i:Nat} (hi:i<len):∃ b off,a=some ⟨b,off,none⟩∧b<w.heap.size∧w.cell? ⟨b,off+i,none⟩=some (.slice (R i).1 (R i).2.1 (R i).2.2.1)∧AMy .i64 w (R i).1 (R i).2.1 (R i).2.2.1 (R i).2.2.2:=by
 rcases h with ⟨_,rfl,_⟩ | ⟨x,rfl,h1,h2,hc⟩
 ·omega
 ·have h0:=(hc 0 (by omega)).1
  obtain ⟨b,off,spot⟩:=x
  have hspot:spot=none:=by simpa [Addr.add] using World.cell?_spot h0
  subst hspot
  refine ⟨b,off,rfl,by simpa [Addr.add] using AKm h0,?_,(hc i hi).2⟩
  have:=(hc i hi).1
  by_cases e:i=0
  ·subst e;simpa [Addr.add] using this
  ·simpa [Addr.add,e] using this
theorem APm.tabs {w:World} {a:Option Addr} {len cap:Nat} {R:Nat→Option Addr × Nat × Nat × List Int} (h:APm w a len cap R) (hs:len+sumR R len≤1048576):∃ T:List (List Int),T.length=len∧Tabs w w.heap.size a T∧(∀ i,i<len→(T.getD i []).length=(R i).2.1):=by
 have hone:∀ i,i<len→(R i).2.1≤1048576:=fun i hi=>by
  have:=ARr R (i:=i+1) (j:=len) hi
  have e:sumR R (i+1)=sumR R i+(R i).2.1:=rfl
  omega
 have each:∀ i,∃ y:List Int,i<len→y.length=(R i).2.1∧Ints w w.heap.size (R i).1 y:=fun i=>by
  by_cases hi:i<len
  ·obtain ⟨_,_,_,_,_,hr⟩:=h.cell hi
   obtain ⟨y,h1,h2⟩:=Ints.ofRowE hr (hone i hi)
   exact ⟨y,fun _=>⟨h1,h2⟩⟩
  ·exact ⟨[],fun h=>absurd h hi⟩
 obtain ⟨Y,hY⟩:∃ Y:Nat→List Int,∀ i,i<len→(Y i).length=(R i).2.1∧Ints w w.heap.size (R i).1 (Y i):=⟨fun i=>Classical.choose (each i),fun i hi=>Classical.choose_spec (each i) hi⟩
 have hg:∀ i,i<len→((List.range len).map Y).getD i []=Y i:=fun i hi=>by simp [List.getD_eq_getElem?_getD,hi]
 refine ⟨(List.range len).map Y,by simp,⟨by simp;omega,fun h0=>?_⟩,fun i hi=>by rw [hg i hi];exact (hY i hi).1⟩
 simp at h0
 obtain ⟨b,off,e,hb,_,_⟩:=h.cell (i:=0) h0
 refine ⟨b,off,e,hb,fun i hi=>?_⟩
 simp at hi
 obtain ⟨b',off',e',_,hc,hr⟩:=h.cell hi
 rw [e] at e'
 simp only [Option.some.injEq,Addr.mk.injEq] at e'
 obtain ⟨rfl,rfl,_⟩:=e'
 refine ⟨_,hc,?_⟩
 rw [hg i hi]
 refine ⟨_,_,by rw [(hY i hi).1],?_,(hY i hi).2⟩
 rw [(hY i hi).1]
 rcases hr with ⟨_,h2,h3,_⟩ | ⟨_,_,h2,_⟩ <;> omega
theorem AQe {x y:Value} (h:x.ownBlock=none∨x.ownBlock≠y.ownBlock):y.ownBlock=none∨y.ownBlock≠x.ownBlock:=by
 cases e:y.ownBlock with
 | none=>exact .inl rfl
 | some k =>
   refine .inr fun e2=>?_
   rcases h with h | h
   ·rw [h] at e2;cases e2
   ·exact h (by rw [←e2,e])
theorem OwnT.set {w w':World} {lo hi i:Nat} {v:Value} {V:List Value} {T:List (List Int)} {z:List Int} (h:OwnT w lo hi v V T) (hi2:i<T.length) (ho:w'.ownsRow lo 3 1 (V.getD i undef) z.length (Qo z)) (hg:w.grownBy w' (V.getD i undef).ownBlock):OwnT w' lo hi v V (T.set i z):=by
 refine ⟨?_,⟨by rw [List.length_set];exact h.rows.1,fun j hj=>?_⟩,h.top,h.rng,fun a b hab hb=>h.apart a b hab (by rw [List.length_set] at hb;exact hb)⟩
 ·rw [List.length_set]
  refine Xo h.own hg fun g h1 e=>?_
  exact XZ h.own (h.rows.2 i hi2) (by decide) h1 e
 ·rw [List.length_set] at hj
  by_cases e:j=i
  ·subst e
   have e2:(T.set j z).getD j []=z:=by simp [List.getD_eq_getElem?_getD,hj]
   rw [e2];exact ho
  ·have e2:(T.set i z).getD j []=T.getD j []:=by simp [List.getD_eq_getElem?_getD,List.getElem?_set,Ne.symm e]
   rw [e2]
   refine (h.rows.2 j hj).kept hg ?_
   rcases Nat.lt_or_ge j i with hl | hl
   ·exact h.apart j i hl hi2
   ·exact AQe (h.apart i j (by omega) hj)
end Go.Proofs.YtembljihmnmmfaaGreat
namespace Go.Proofs.YtembljihmnmmfaaGreat
set_option linter.unusedVariables false
set_option linter.unusedSimpArgs false
open Go.RowKit
theorem AVr {S:List Int} {n:Int} (h:rowB S n=true):n=((n.toNat:Nat):Int)∧1≤n.toNat∧n.toNat≤260∧S.length≤2000:=by
 obtain ⟨⟨h1,h2⟩,h3,_⟩:=(XR S n).1 h
 omega
theorem jV {S:List Int} {n k:Nat} (hk1:1≤k) (hk:k≤4) (hS:S.length≤2000):(sel2 S n k).length=grp S.length∧(sel2 S n k).length≤1048576∧∀ x∈sel2 S n k,-9223372036854775808≤x∧x≤9223372036854775807:=by
 have hl:=XC S n k 2
 rw [Xd] at hl
 have:=AGx S.length
 refine ⟨hl,by omega,fun x hx=>?_⟩
 have:=YB (S:=S) (n:=n) hk1 2 x (by rw [Xd];exact hx)
 omega
theorem AWy {L:List Int} {n:Int} (h1:1≤n) (h2:n≤260) (hl:L.length≤2000) (h:∀ x∈L,0≤x∧x<n):rowB L n=true:=by
 rw [XR]
 exact ⟨⟨h1,h2⟩,hl,fun k hk=>h _ (XA hk)⟩
theorem xC {S:List Int} {n k:Nat} (h1:1≤n) (h2:n≤260) (hS:S.length≤2000) (i:Nat) (hi:i<k):lOk ((tab2 S n k).getD i [])=true:=by
 unfold tab2
 rw [jN S _ n k i hi]
 exact AQu (yV h1 h2 hS)
theorem AZm {S:List Int} {n k:Nat} (h1:1≤n) (h2:n≤260) (hS:S.length≤2000) (hk1:1≤k) (hk:k≤4):tbOk (tab2 S n k) n=true:=by
 have hl:(tab2 S n k).length=k:=Zc _ _ _ _
 rw [Xl,hl]
 refine ⟨⟨hk1,hk⟩,fun i hi=>⟨?_,xC h1 h2 hS i hi⟩⟩
 have:=(YN (S:=S) (G:=sel2 S n k) h1 h2 hS i hi).1
 show (((tabL S (sel2 S n k) n k).getD i []).length:Int)=n
 rw [this]
theorem AFz {S:List Int} {n k:Nat} (hrow:rowB S n=true) (hk1:1≤k) (hk:k≤4):cdOk S (tab2 S n k) (sel2 S n k)=true:=by
 obtain ⟨e1,hn1,hn2,hS⟩:=AVr hrow
 have hn1':1≤n:=by omega
 have hn2':n≤260:=by omega
 have hl:(tab2 S n k).length=k:=Zc _ _ _ _
 have hN:tbN (tab2 S n k)=n:=(YN (S:=S) (G:=sel2 S n k) hn1' hn2' hS 0 (by omega)).1
 have hsl:(sel2 S n k).length=grp S.length:=by rw [←Xd];exact XC S n k 2
 rw [qP,hN,hl]
 refine ⟨AZm hn1' hn2' hS hk1 hk,hrow,hsl,?_⟩
 rw [QZ,hsl]
 refine ⟨by unfold grp;omega,fun g hg=>?_⟩
 have:=YB (S:=S) (n:=n) (k:=k) hk1 2 ((sel2 S n k).getD g 0) (by rw [Xd];exact XA (by rw [hsl];exact hg))
 omega
end Go.Proofs.YtembljihmnmmfaaGreat
