/- Texts of the proof, merged. -/
import Derived.BigQuiet
import Derived.Deep.RegionHeld3
import Derived.Deep.QuietTactic
import Derived.Test.YtembljihmnmmfaaGreatKB17
import Derived.Test.YtembljihmnmmfaaGreatKB16
import Derived.Test.YtembljihmnmmfaaGreatKB7
import Derived.Test.YtembljihmnmmfaaGreatKB6
import Derived.Test.YtembljihmnmmfaaGreatKB3
import Derived.Test.YtembljihmnmmfaaGreatKB2
import Derived.Maps.AppendAt
import Derived.RegionTactic
import Derived.ChangeAlike
import Derived.Deep.LoopGhost
namespace Go.Proofs.YtembljihmnmmfaaGreat
set_option maxHeartbeats 4000000
set_option maxRecDepth 100000
set_option linter.unusedVariables false
set_option linter.unusedSimpArgs false
open Go.RowKit
def xG (w:World) (B:Nat) (v:Value) (z:List Int):Prop:=∃ a c,v=.slice a z.length c∧z.length≤c∧Ints w B a z
def Tabs (w:World) (B:Nat) (a:Option Addr) (T:List (List Int)):Prop :=
 T.length≤140737488355328∧(0<T.length→∃ b off,a=some ⟨b,off,none⟩∧b<B∧∀ i,i<T.length→∃ v,w.cell? ⟨b,off+i,none⟩=some v∧xG w B v (T.getD i []))
theorem xG.below {w w':World} {B:Nat} {v:Value} {z:List Int} (h:xG w B v z) (hb:Below B w w'):xG w' B v z:=by
 obtain ⟨a,c,e,hc,hz⟩:=h
 exact ⟨a,c,e,hc,hz.below hb⟩
theorem xG.mono {w:World} {B B':Nat} {v:Value} {z:List Int} (h:xG w B v z) (hB:B≤B'):xG w B' v z:=by
 obtain ⟨a,c,e,hc,hz⟩:=h
 exact ⟨a,c,e,hc,hz.mono hB⟩
theorem Tabs.below {w w':World} {B:Nat} {a:Option Addr} {T:List (List Int)} (h:Tabs w B a T) (hb:Below B w w'):Tabs w' B a T :=
 ⟨h.1,fun h0=>by
  obtain ⟨b,off,e,hB,hc⟩:=h.2 h0
  refine ⟨b,off,e,hB,fun i hi=>?_⟩
  obtain ⟨v,hv,hz⟩:=hc i hi
  exact ⟨v,(hb.cell (p:=⟨b,off+i,none⟩) hB).trans hv,hz.below hb⟩⟩
theorem Tabs.mono {w:World} {B B':Nat} {a:Option Addr} {T:List (List Int)} (h:Tabs w B a T) (hB:B≤B'):Tabs w B' a T :=
 ⟨h.1,fun h0=>by
  obtain ⟨b,off,e,hb,hc⟩:=h.2 h0
  refine ⟨b,off,e,by omega,fun i hi=>?_⟩
  obtain ⟨v,hv,hz⟩:=hc i hi
  exact ⟨v,hv,hz.mono hB⟩⟩
theorem Tabs.at {w:World} {B:Nat} {a:Option Addr} {T:List (List Int)} (h:Tabs w B a T) {i:Nat} (hi:i<T.length):∃ b off a2 c2,a=some ⟨b,off,none⟩∧b<B∧w.cell? ⟨b,off+i,none⟩=some (.slice a2 (T.getD i []).length c2)∧(T.getD i []).length≤c2∧Ints w B a2 (T.getD i []):=by
 obtain ⟨b,off,e,hb,hc⟩:=h.2 (by omega)
 obtain ⟨v,hv,a2,c2,rfl,h1,h2⟩:=hc i hi
 exact ⟨b,off,a2,c2,e,hb,hv,h1,h2⟩
def yI (S:List Int) (T:List (List Int)) (n:Nat):Prop:=(∀ i,i<T.length→(T.getD i []).length=n∧yT (T.getD i []))∧(∀ k,k<S.length→0≤S.getD k 0∧S.getD k 0<(n:Int))∧S.length≤2000
theorem AEo {S:List Int} {T:List (List Int)} {n:Nat} (hT:yI S T n) {a a2:Option Addr} {cap cap2 B g i:Nat} {w:World} (hz:Ints w B a S) (hi:i<T.length) (hz2:Ints w B a2 (T.getD i [])) (hg:g≤2000) (W:World) (hW:W.heap=w.heap) :
 Calls Tryz.prog 135 #[.slice a S.length cap,.int .i64 g,.slice a2 n cap2] W fun e w'=>e=.returned (.int .i64 (bitG S (T.getD i []) g))∧W=w':=by
 obtain ⟨h1,h2⟩:=hT.1 i hi
 have hk:∀ p:Addr,p.block<B→W.cell? p=w.cell? p:=fun p _=>by unfold World.cell?;rw [hW]
 have:=AIu a a2 cap cap2 B g S (T.getD i []) W (hz.keep hk) (hz2.keep hk) (by rw [h1];exact hT.2.1) hT.2.2 h2 hg
 rw [h1] at this
 exact this.mono fun e w' h=>⟨h.1,h.2.symm⟩
theorem AQj (S:List Int) (T:List (List Int)) (g k:Nat) (h:1≤k):bstN S T g (k+1)=if bitG S (T.getD k []) g<bitG S (T.getD (bstN S T g k) []) g then k else bstN S T g k:=by
 obtain ⟨k,rfl⟩:∃ j,k=j+1:=⟨k-1,by omega⟩
 rfl
theorem ACg (a at2:Option Addr) (cap capT B n:Nat) (S:List Int) (T:List (List Int)) (w:World) (hz:Ints w B a S) (hT:Tabs w B at2 T) (hOk:yI S T n) (h1:1≤T.length) (hTl:T.length≤1000) (hB:B≤w.heap.size) (hct:T.length≤capT) :
 Calls Tryz.prog 109 #[.slice a S.length cap,.slice at2 T.length capT] w fun e w'=>∃ v,e=.returned v∧w'.ownsRow w.heap.size 3 1 v (grp S.length) (Qe (chN S T))∧Below w.heap.size w w':=by
 obtain ⟨i0,hi,hz0,hz1,hz2⟩:=info_parts Tryz.infoInt
 have hSl:=hOk.2.2
 have KG:=Qa (fun W=>Yt S.length W (by omega))
 have HCH:Hid (chN S T=(List.range (grp S.length)).map fun g=>bstN S T g T.length):=Qa rfl
 have HGL:Hid (grp S.length≤S.length):=Qa (AGx _)
 obtain ⟨N,hN⟩:∃ N,S.length=N:=⟨_,rfl⟩
 obtain ⟨M,hM⟩:∃ M,T.length=M:=⟨_,rfl⟩
 have HZ:=Qa hz
 have HT:=Qa hT
 have HOK:=Qa hOk
 have HN:=Qa hN
 have HM:=Qa hM
 rw [hN] at KG HGL hSl ⊢
 rw [hM] at h1 hct hTl ⊢
 rw [hN,hM] at HCH
 clear hz hT hOk hN hM
 obtain ⟨q,hq⟩:∃ q,grp N=q:=⟨_,rfl⟩
 rw [hq] at KG HGL HCH ⊢
 have hqN:=HGL.out
 clear hq HGL
 go_enter Tryz.func109,Tryz.ntmps109
 go_wp2
 go_loopw [5,6,7,8] (fun vo sg _ _ wr=>∃ (g:Nat),g≤q∧sg=.int .i64 g∧wr.ownsRow w.heap.size 3 1 vo g (Qe ((List.range g).map fun g=>bstN S T g M))∧Below w.heap.size w wr) (fun _ sg _ _ _=>q-(intOf sg).toNat)
 case atStart=>exact ⟨0,by omega,rfl,World.ownsRow_nil _ _ _ _,Below.refl _ _⟩
 case round =>
  obtain ⟨g,hg,rfl,hown,hbl⟩:=hrel
  have hsz:=hbl.size
  go_wp2_with fail
  refine (KG.out _).mono ?_
  rintro e w1 ⟨rfl,rfl⟩
  by_cases hlt:g<q
  ·have HZr:=Qa (HZ.out.below (hbl.mono hB))
   have HTr:=Qa (HT.out.below (hbl.mono hB))
   have HB1:Hid (∀ k,1≤k→k≤M→bstN S T g k<M):=Qa (fun k hk1 hk2=>by have:=xv S T g k (by omega);omega)
   have HO:=Qa hown
   have HBL:=Qa hbl
   clear hown hbl
   go_wp2
   go_loopw [7,8] (fun sb sk wx=>∃ (k:Nat),1≤k∧k≤M∧sk=.int .i64 k∧sb=.int .i64 (bstN S T g k)∧∃ d,wx=wr.drewN d) (fun _ sk _=>M-(intOf sk).toNat)
   case atStart=>exact ⟨1,by omega,h1,rfl,rfl,0,rfl⟩
   case round =>
    obtain ⟨k,hk1,hkM,rfl,rfl,d,rfl⟩:=hrel
    have hbM:=HB1.out k hk1 hkM
    obtain ⟨b,hb⟩:∃ b,bstN S T g k=b:=⟨_,rfl⟩
    have HBS:Hid (bstN S T g (k+1)=if bitG S (T.getD k []) g<bitG S (T.getD b []) g then k else b):=Qa (by rw [←hb];exact AQj S T g k hk1)
    have HBK:=Qa hb
    rw [hb] at hbM ⊢
    clear hb
    by_cases hkl:k<M
    ·obtain ⟨tb,to,at3,ct3,e3,htb,ck,hck,zk⟩:=HTr.out.at (i:=k) (by rw [HM.out];exact hkl)
     obtain ⟨tb2,to2,at4,ct4,e4,htb2,cb,hcb,zb⟩:=HTr.out.at (i:=b) (by rw [HM.out];exact hbM)
     rw [e3] at e4
     injection e4 with e4
     injection e4 with e5 e6
     subst e5 e6 e3
     have K1:=Qa (fun W hW=>AEo HOK.out (cap:=cap) (cap2:=ct3) (g:=g) HZr.out (by rw [HM.out];exact hkl) zk (by omega) W hW)
     have K2:=Qa (fun W hW=>AEo HOK.out (cap:=cap) (cap2:=ct4) (g:=g) HZr.out (by rw [HM.out];exact hbM) zb (by omega) W hW)
     have l1:=(HOK.out.1 k (by rw [HM.out];exact hkl)).1
     have l2:=(HOK.out.1 b (by rw [HM.out];exact hbM)).1
     rw [l1] at ck hck
     rw [l2] at cb hcb
     rw [HN.out] at K1 K2
     have f1:(wr.drewN d).cell? ⟨tb,to+k,none⟩=some (.slice at3 n ct3):=ck
     have f2:(wr.drewN d).cell? ⟨tb,to+b,none⟩=some (.slice at4 n ct4):=cb
     clear zk zb l1 l2 ck cb htb htb2
     obtain ⟨x,hx⟩:∃ x,bitG S (T.getD k []) g=x:=⟨_,rfl⟩
     obtain ⟨y,hy⟩:∃ y,bitG S (T.getD b []) g=y:=⟨_,rfl⟩
     rw [hx] at K1 HBS
     rw [hy] at K2 HBS
     clear hx hy
     by_cases hxy:x<y
     ·have HN2:Hid (bstN S T g (k+1)=k):=Qa (by rw [HBS.out,if_pos hxy])
      go_wp2
      go_region_held3 (fun w'=>w'.cell? ⟨tb,to+k,none⟩=some (.slice at3 n ct3)∧w'.cell? ⟨tb,to+b,none⟩=some (.slice at4 n ct4)) (exact ⟨f1,f2⟩) (first | (go_at_call 135;first | ((with_reducible refine (K1.out _ ?hW).mono ?_);(case hW=>rfl);rintro e wX ⟨rfl,rfl⟩) | ((with_reducible refine (K2.out _ ?hW).mono ?_);(case hW=>rfl);rintro e wX ⟨rfl,rfl⟩)))
      go_wp2
      go_roundw
      case rel=>exact ⟨k+1,by omega,by omega,by go_num,by rw [HN2.out],_,rfl⟩
      case measure=>simp [intOf];omega
     ·have HN2:Hid (bstN S T g (k+1)=b):=Qa (by rw [HBS.out,if_neg hxy])
      go_wp2
      go_region_held3 (fun w'=>w'.cell? ⟨tb,to+k,none⟩=some (.slice at3 n ct3)∧w'.cell? ⟨tb,to+b,none⟩=some (.slice at4 n ct4)) (exact ⟨f1,f2⟩) (first | (go_at_call 135;first | ((with_reducible refine (K1.out _ ?hW).mono ?_);(case hW=>rfl);rintro e wX ⟨rfl,rfl⟩) | ((with_reducible refine (K2.out _ ?hW).mono ?_);(case hW=>rfl);rintro e wX ⟨rfl,rfl⟩)))
      go_wp2
      go_roundw
      case rel=>exact ⟨k+1,by omega,by omega,by go_num,by rw [HN2.out],_,rfl⟩
      case measure=>simp [intOf];omega
    ·obtain rfl:k=M:=by omega
     have HL2:Hid ((List.range (g+1)).map (fun g=>bstN S T g k)=(List.range g).map (fun g=>bstN S T g k)++[b]):=Qa (by rw [List.range_succ,List.map_append,←HBK.out];rfl)
     have hown:(wr.drewN d).ownsRow w.heap.size 3 1 _ g (Qe ((List.range g).map fun g=>bstN S T g k)):=HO.out
     have hbl:Below w.heap.size w (wr.drewN d):=⟨HBL.out.os,HBL.out.tape,HBL.out.output,HBL.out.size,HBL.out.block⟩
     have hsz:w.heap.size≤(wr.drewN d).heap.size:=hbl.size
     go_wp2_with (at_builtin;refine wpList_append_own _ rfl _ _ 24 rfl w.heap.size 3 i0 (.int .i64 0) 1 8 Tryz.underlying24 hi hz0 hz1 hz2 rfl (by decide) _ _ _ rfl (hown.alloc _) ⟨(wr.drewN d).heap.size,0,none⟩ 1 1 [.int .i64 (b:Int)] rfl rfl ?c1 ?c2 ?c3 ?c4 ?c5 ?_)
     case c1=>exact cell_one_new _ _ _
     case c2=>exact fun u hu=>by simp at hu;subst hu;rfl
     case c3=>unfold maxLen;omega
     case c4=>omega
     case c5=>first | omega | (simp;omega)
     intro v5 w5 hown5 hgrow _
     have hb5:=Zf hbl hsz hown hgrow
     have hown6:w5.ownsRow w.heap.size 3 1 v5 (g+1) (Qe ((List.range (g+1)).map (fun g=>bstN S T g k))):=by rw [HL2.out,QX];exact hown5
     have HO5:=Qa hown6
     clear hown hown5 hown6 hgrow hbl
     go_wp2
     go_roundw
     case rel=>exact ⟨g+1,by omega,by go_num,HO5.out,hb5⟩
     case measure=>simp [intOf];omega
  ·obtain rfl:g=q:=by omega
   go_wp2
   go_ret
   exact ⟨_,rfl,by rw [HCH.out];exact hown,hbl⟩
theorem Tryz.infoTable:(Tryz.prog.info? 99).map (fun i=>(i.zero,i.size,i.bytes))=some (some (.agg #[.slice none 0 0]),1,24):=by kernel_rfl
def Zz (w:World) (base:Nat) (V:List Value) (T:List (List Int)):Prop:=V.length=T.length∧∀ j,j<T.length→w.ownsRow base 3 1 (V.getD j undef) (T.getD j []).length (Qo (T.getD j []))
theorem Zz.nil (w:World) (base:Nat):Zz w base [] []:=⟨rfl,fun j h=>by simp at h⟩
theorem Zz.below {w w':World} {base:Nat} {V:List Value} {T:List (List Int)} (h:Zz w base V T) (hb:Below w.heap.size w w'):Zz w' base V T :=
 ⟨h.1,fun j hj=>Ql (h.2 j hj) hb⟩
theorem Zz.snoc {w:World} {base:Nat} {V:List Value} {T:List (List Int)} {v:Value} {z:List Int} (h:Zz w base V T) (hv:w.ownsRow base 3 1 v z.length (Qo z)):Zz w base (V++[v]) (T++[z]):=by
 refine ⟨by rw [List.length_append,List.length_append,h.1];rfl,fun j hj=>?_⟩
 by_cases e:j<T.length
 ·have e1:(V++[v]).getD j undef=V.getD j undef:=by rw [List.getD_eq_getElem?_getD,List.getElem?_append_left (by rw [h.1];exact e),←List.getD_eq_getElem?_getD]
  have e2:(T++[z]).getD j []=T.getD j []:=by rw [List.getD_eq_getElem?_getD,List.getElem?_append_left e,←List.getD_eq_getElem?_getD]
  rw [e1,e2]
  exact h.2 j e
 ·have ej:j=T.length:=by rw [List.length_append,List.length_singleton] at hj;omega
  have e1:(V++[v]).getD j undef=v:=by rw [ej,←h.1,List.getD_eq_getElem?_getD,List.getElem?_append_right (Nat.le_refl _),Nat.sub_self];rfl
  have e2:(T++[z]).getD j []=z:=by rw [ej,List.getD_eq_getElem?_getD,List.getElem?_append_right (Nat.le_refl _),Nat.sub_self];rfl
  rw [e1,e2]
  exact hv
theorem Xo {w w':World} {base size n:Nat} {e:TypeId} {v:Value} {xs:List Value} {row:Option Nat} (h:w.ownsRow base e size v n xs) (hg:w.grownBy w' row) (hne:∀ g,v.ownBlock=some g→row≠some g):w'.ownsRow base e size v n xs:=by
 refine ⟨h.1,h.2.imp id ?_⟩
 rintro ⟨g,cap,cur,rfl,hb,hc,hr⟩
 have hlt:g<w.heap.size:=(Array.getElem?_eq_some_iff.1 hc).1
 exact ⟨g,cap,cur,rfl,hb,(hg.block g hlt (fun e=>hne g rfl e.symm)).trans hc,hr⟩
theorem Zz.grown {w w':World} {base b2 n:Nat} {V xs:List Value} {T:List (List Int)} {vo:Value} (h:Zz w base V T) (hown:w.ownsRow b2 99 1 vo n xs) (hg:w.grownBy w' vo.ownBlock):Zz w' base V T :=
 ⟨h.1,fun j hj=>Xo (h.2 j hj) hg (fun g h1=>XZ (h.2 j hj) hown (by decide) h1)⟩
def JG (V:List Value):Prop:=∀ i j,i<j→j<V.length→(V.getD i undef).ownBlock=none∨(V.getD i undef).ownBlock≠(V.getD j undef).ownBlock
theorem JG.nil:JG []:=fun i j _ h=>by cases h
theorem JG.snoc {V:List Value} {v:Value} (h:JG V) (hne:∀ j,j<V.length→(V.getD j undef).ownBlock=none∨(V.getD j undef).ownBlock≠v.ownBlock):JG (V++[v]):=by
 intro i j hij hj
 rw [List.length_append,List.length_singleton] at hj
 have e1:(V++[v]).getD i undef=V.getD i undef:=by rw [List.getD_eq_getElem?_getD,List.getElem?_append_left (by omega),←List.getD_eq_getElem?_getD]
 rw [e1]
 by_cases e:j<V.length
 ·have e2:(V++[v]).getD j undef=V.getD j undef:=by rw [List.getD_eq_getElem?_getD,List.getElem?_append_left e,←List.getD_eq_getElem?_getD]
  rw [e2]
  exact h i j hij e
 ·have e2:(V++[v]).getD j undef=v:=by
   have:j=V.length:=by omega
   subst this
   rw [List.getD_eq_getElem?_getD,List.getElem?_append_right (Nat.le_refl _),Nat.sub_self];rfl
  rw [e2]
  exact hne i (by omega)
theorem VQ {w w':World} {b1 s1 s2 n1 n2:Nat} {e1 e2:TypeId} {v1 v2:Value} {xs ys:List Value} (h:w.ownsRow b1 e1 s1 v1 n1 xs) (h':w'.ownsRow w.heap.size e2 s2 v2 n2 ys):v1.ownBlock=none∨v1.ownBlock≠v2.ownBlock:=by
 cases e:v1.ownBlock with
 | none=>exact .inl rfl
 | some g =>
   refine .inr fun e2=>?_
   have:=(h.lt g e).2
   have:=(h'.lt g e2.symm).1
   omega
theorem ASe (S G:List Int) (t n:Nat):nats n (frqN S G t S.length)=Qo (frqL S G t n):=by
 unfold nats Qo frqL
 rw [List.map_map]
 rfl
theorem yV {S G:List Int} {t n:Nat} (h1:1≤n) (h2:n≤260) (hS:S.length≤2000):Ji (frqL S G t n) (20:Nat):=by
 refine ⟨(Xs _).2 ⟨by rw [Xn];exact h1,by rw [Xn];exact h2,fun k hk=>?_⟩,by decide,by decide,?_⟩
 ·rw [Xn] at hk
  have:=xz S G t S.length k
  unfold frqL
  rw [List.getD_eq_getElem?_getD,List.getElem?_map,List.getElem?_range hk]
  show 0≤(frqN S G t S.length k:Int)∧_
  constructor
  ·omega
  ·show (frqN S G t S.length k:Int)≤1000000
   omega
 ·rw [Xn]
  have:(2:Nat)^((20:Nat):Int).toNat=1048576:=by decide
  rw [this]
  omega
theorem ZT {w:World} {base base':Nat} {e:TypeId} {size:Nat} {v:Value} {n:Nat} {xs:List Value} (h:w.ownsRow base e size v n xs) (hb:base'≤base):w.ownsRow base' e size v n xs :=
 ⟨h.1,h.2.imp id fun ⟨g,cap,cur,a,b,c⟩=>⟨g,cap,cur,a,Nat.le_trans hb b,c⟩⟩
theorem APo (S G:List Int) (n t:Nat):tabL S G n (t+1)=tabL S G n t++[Zj (frqL S G t n) 20]:=by unfold tabL;rw [List.range_succ,List.map_append];rfl
theorem ADb (a a2:Option Addr) (cap cap2 B n k:Nat) (S G:List Int) (w:World) (hz:Ints w B a S) (hz2:Ints w B a2 G) (hB:B≤w.heap.size) (h1:1≤n) (h2:n≤260) (hSl:S.length≤2000) (hS:∀ i,i<S.length→0≤S.getD i 0∧S.getD i 0<(n:Int)) (hG:G.length=grp S.length) (hk:k≤4) :
 Calls Tryz.prog 110 #[.slice a S.length cap,.int .i64 n,.int .i64 k,.slice a2 G.length cap2] w fun e w'=>∃ v V,e=.returned v∧w'.ownsRow w.heap.size 99 1 v k V∧Zz w' w.heap.size V (tabL S G n k)∧JG V∧Below w.heap.size w w':=by
 obtain ⟨i0,hi,hz0,hz1,hz2'⟩:=info_parts Tryz.infoInt
 obtain ⟨j0,ji,jz0,jz1,jz2⟩:=info_parts Tryz.infoTable
 have HON:=Qa (fun t=>yV (S:=S) (G:=G) (t:=t) h1 h2 hSl)
 have HGI:Hid (∀ i,i<S.length→i / 10<G.length):=Qa (fun i hi=>by rw [hG];exact APw hi)
 have HST:=Qa (zw S G)
 have HLE:=Qa (xz S G)
 obtain ⟨N,hN⟩:∃ N,S.length=N:=⟨_,rfl⟩
 obtain ⟨M,hM⟩:∃ M,G.length=M:=⟨_,rfl⟩
 have HZ:=Qa hz
 have HZ2:=Qa hz2
 have HS:=Qa hS
 have HN:=Qa hN
 have HM:=Qa hM
 rw [hN] at HGI HS hSl ⊢
 rw [hM] at HGI ⊢
 clear hz hz2 hS hG hN hM
 go_enter Tryz.func110,Tryz.ntmps110
 go_wp2
 go_loopw [9,10,11,12,13,14] (fun vo st _ _ _ _ wr=>∃ (t:Nat) (V:List Value),t≤k∧st=.int .i64 t∧wr.ownsRow w.heap.size 99 1 vo t V∧Hid (Zz wr w.heap.size V (tabL S G n t)∧JG V)∧Below w.heap.size w wr) (fun _ st _ _ _ _ _=>k-(intOf st).toNat)
 case atStart=>exact ⟨0,[],by omega,rfl,World.ownsRow_nil _ _ _ _,Qa ⟨Zz.nil _ _,JG.nil⟩,Below.refl _ _⟩
 case round =>
  obtain ⟨t,V,ht,rfl,hown,HR,hbl⟩:=hrel
  obtain ⟨u,hu⟩:∃ u,u=wr:=⟨_,rfl⟩
  subst hu
  by_cases hlt:t<k
  ·have hsz:=hbl.size
   have HO:=Qa hown
   have HBL:=Qa hbl
   clear hown hbl
   go_wp2_with (at_make;refine wpList_make_full _ rfl _ _ 24 rfl u.heap.size 3 i0 (.int .i64 0) 1 Tryz.underlying24 hi hz0 hz1 .i64 .i64 _ _ n rfl rfl rfl rfl ?cb1 ?cb2 ?cb3 ?_)
   case cb1=>rw [hz2'];omega
   case cb2=>unfold maxLen;omega
   case cb3=>exact Nat.le_refl _
   intro w2 hown hgrow
   have hb2:=ZQ hgrow
   rw [Zl] at hown
   clear hgrow
   go_wp2
   go_loopw [12] (fun si wx=>∃ (i:Nat),i≤N∧si=.int .i64 i∧wx.ownsRow u.heap.size 3 1 (.slice (some ⟨u.heap.size,0,none⟩) n n) n (nats n (frqN S G t i))∧Below u.heap.size u wx) (fun si _=>N-(intOf si).toNat)
   case atStart=>exact ⟨0,by omega,rfl,hown,hb2⟩
   case round =>
    clear hown hb2
    obtain ⟨i,hi2,rfl,hown,hbx⟩:=hrel
    by_cases hil:i<N
    ·have hx0:=(HS.out i hil).1
     have hx1:=(HS.out i hil).2
     obtain ⟨x,hx⟩:∃ x:Nat,S.getD i 0=(x:Int):=⟨(S.getD i 0).toNat,by omega⟩
     rw [hx] at hx0 hx1
     have hxn:x<n:=by omega
     have hgi:=HGI.out i hil
     obtain ⟨b,off,e1,hb,hcell⟩:=(HZ.out.below ((HBL.out.mono hB).trans (hbx.mono (Nat.le_trans hB hsz)))).2.2 (by rw [HN.out];omega)
     obtain ⟨b2,off2,e2,hb3,hcell2⟩:=(HZ2.out.below ((HBL.out.mono hB).trans (hbx.mono (Nat.le_trans hB hsz)))).2.2 (by rw [HM.out];omega)
     have c1:=hcell i (by rw [HN.out];exact hil)
     have c2:=hcell2 (i / 10) (by rw [HM.out];exact hgi)
     rw [hx] at c1
     have hry:=HZ2.out.range (i / 10)
     have HIN:Hid (∀ s,inT S G t s i=(decide (G.getD (i / 10) 0=(t:Int)) && decide ((x:Int)=(s:Int)))):=Qa (fun s=>by unfold inT;rw [hx])
     obtain ⟨y,hy⟩:∃ y,G.getD (i / 10) 0=y:=⟨_,rfl⟩
     rw [hy] at c2 hry HIN
     have hq:(i:Int).tdiv 10=((i / 10:Nat):Int):=by rw [Int.tdiv_eq_ediv_of_nonneg (by omega)];omega
     have hq2:(i:Int) / 10=((i / 10:Nat):Int):=by omega
     clear hcell hcell2 hx hy
     subst e1 e2
     obtain ⟨p,hp⟩:∃ p,i / 10=p:=⟨_,rfl⟩
     rw [hp] at c2 hgi hq hq2
     clear hp
     have hle:=HLE.out t i x
     by_cases hyt:y=(t:Int)
     ·subst hyt
      have d0:=hown.cellAt x (by omega)
      rw [Qw _ _ _ hxn] at d0
      have f0:=hown.frozenAt x
      have hownN:=(hown.stored x (.int .i64 ((frqN S G t i x:Int)+1))).1
      have HE:Hid ((nats n (frqN S G t i)).set x (.int .i64 ((frqN S G t i x:Int)+1))=nats n (frqN S G t (i+1))):=Qa (by
       have e0:((frqN S G t i x:Int)+1)=((frqN S G t i x+1:Nat):Int):=by omega
       rw [e0,Zb]
       refine Qu fun s _=>?_
       rw [HST.out,HIN.out]
       by_cases e:s=x
       ·subst e;simp
       ·have e':¬ (x:Int)=(s:Int):=by omega
        simp [e,e'])
      rw [HE.out] at hownN
      have hblN:=hbx.setCell (p:=⟨u.heap.size,x,none⟩) (Nat.le_refl _) (.int .i64 ((frqN S G t i x:Int)+1))
      have HON2:=Qa hownN
      have HBN2:=Qa hblN
      have hxI:(x:Int)<(n:Int):=by omega
      clear hown hbx hownN hblN
      obtain ⟨z,hz⟩:∃ z,frqN S G t i x=z:=⟨_,rfl⟩
      rw [hz] at d0 hle HON2 HBN2
      clear hz
      go_wp2
      go_roundw
      case rel=>exact ⟨i+1,by omega,by go_num,HON2.out,HBN2.out⟩
      case measure=>simp [intOf];omega
     ·have HE:Hid (nats n (frqN S G t i)=nats n (frqN S G t (i+1))):=Qa (by
       refine Qu fun s _=>?_
       rw [HST.out,HIN.out,decide_eq_false hyt]
       simp)
      have HON2:=Qa hown
      rw [HE.out] at HON2
      go_wp2
      go_roundw
      case rel=>exact ⟨i+1,by omega,by go_num,HON2.out,hbx⟩
      case measure=>simp [intOf];omega
    ·obtain rfl:i=N:=by omega
     have hL:(frqL S G t n).length=n:=Xn S G t n
     have hownI:=hown
     rw [←HN.out,ASe] at hownI
     have hI:=(Ints.ofOwn hownI (by omega) (fun x hx=>by
      unfold frqL at hx
      rw [List.mem_map] at hx
      obtain ⟨s,_,rfl⟩:=hx
      have:=HLE.out t S.length s
      rw [HN.out] at this ⊢
      omega)).2
     have K:=Qa (AIr (some ⟨u.heap.size,0,none⟩) n wr.heap.size 20 (frqL S G t n) wr hI (Nat.le_refl _) (HON.out t))
     rw [hL] at K
     have HRx:=Qa (HR.out.1.below hbx)
     have HOx:=Qa (Ql HO.out hbx)
     have HBx:=Qa (Qc hbx hsz HBL.out)
     have hszx:=hbx.size
     clear hown hbx hownI hI
     go_wp2_with fail
     refine K.out.mono ?_
     rintro e w3 ⟨vl,rfl,o3,b3⟩
     obtain ⟨al,cl,rfl⟩:=Qq o3
     have hB3:=Qc b3 HBx.out.size HBx.out
     have hs3:=hB3.size
     have HR3:=Qa (HRx.out.below b3)
     have hO3:=Ql HOx.out b3
     have HV3:Hid (w3.ownsRow w.heap.size 3 1 (.slice al n cl) (Zj (frqL S G t n) 20).length (Qo (Zj (frqL S G t n) 20))):=Qa (by
      rw [XU,hL]
      exact ZT o3 HBx.out.size)
     have HAP:Hid (JG (V++[.slice al n cl])):=Qa (HR.out.2.snoc fun j hj=>VQ (HRx.out.2 j (by rw [←HRx.out.1];exact hj)) o3)
     clear K o3 b3
     go_wp2_with (at_builtin;refine wpList_append_own _ rfl _ _ 93 rfl w.heap.size 99 j0 (.agg #[.slice none 0 0]) 1 24 Tryz.underlying93 ji jz0 jz1 jz2 rfl (by decide) _ _ _ rfl (hO3.alloc _) ⟨w3.heap.size,0,none⟩ 1 1 [.slice al n cl] rfl rfl ?c1 ?c2 ?c3 ?c4 ?c5 ?_)
     case c1=>exact cell_one_new _ _ _
     case c2=>exact fun u hu=>by simp at hu;subst hu;rfl
     case c3=>unfold maxLen;omega
     case c4=>omega
     case c5=>first | omega | (simp;omega)
     intro v5 w5 hown5 hgrow _
     have hb5:=Zf hB3 hs3 hO3 hgrow
     have HR5:Hid (Zz w5 w.heap.size (V++[.slice al n cl]) (tabL S G n (t+1))∧JG (V++[.slice al n cl])):=Qa (by
      refine ⟨?_,HAP.out⟩
      rw [APo]
      have ha:Below w3.heap.size w3 (w3.alloc (.cells #[.slice al n cl] 99)):=(Below.refl _ _).alloc (Nat.le_refl _) _
      exact Zz.snoc ((HR3.out.below ha).grown (hO3.alloc _) hgrow) (Xo (Ql HV3.out ha) hgrow (fun g h1=>XZ (Ql HV3.out ha) (hO3.alloc _) (by decide) h1)))
     have HO5:=Qa hown5
     clear hO3 hown5 hgrow hB3
     go_wp2
     go_roundw
     case rel=>exact ⟨t+1,V++[.slice al n cl],by omega,by go_num,HO5.out,HR5,hb5⟩
     case measure=>simp [intOf];omega
  ·obtain rfl:t=k:=by omega
   go_wp2
   go_ret
   exact ⟨_,V,rfl,hown,HR.out.1,HR.out.2,hbl⟩
def selR (S:List Int) (n k:Nat):Nat→List Int
 | 0=>sel0 S k
 | r+1=>chL S (tabL S (selR S n k r) n k)
theorem XC (S:List Int) (n k:Nat):∀ r,(selR S n k r).length=grp S.length
 | 0=>by show (sel0 S k).length=_;unfold sel0;simp
 | r+1=>by show (chL S _).length=_;unfold chL;rw [List.length_map,VZ]
theorem Xd (S:List Int) (n k:Nat):selR S n k 2=sel2 S n k:=rfl
theorem Ve (S:List Int) (T:List (List Int)):Qo (chL S T)=Qe (chN S T):=by simp [Qo,chL,Qe]
theorem ABt {S:List Int} {T:List (List Int)} (h:1≤T.length):∀ x∈chL S T,0≤x∧x<(T.length:Int):=fun x hx=>by
 unfold chL chN at hx
 rw [List.map_map,List.mem_map] at hx
 obtain ⟨g,_,rfl⟩:=hx
 have:=xv S T g T.length (by omega)
 show 0≤((bstN S T g T.length:Nat):Int)∧((bstN S T g T.length:Nat):Int)<_
 omega
theorem YB {S:List Int} {n k:Nat} (hk:1≤k):∀ r,∀ x∈selR S n k r,0≤x∧x<(k:Int)
 | 0=>fun x hx=>by
   have hx:x∈sel0 S k:=hx
   unfold sel0 at hx
   rw [List.mem_map] at hx
   obtain ⟨i,hi,rfl⟩:=hx
   rw [List.mem_range] at hi
   have:i*k / grp S.length<k:=by
    rw [Nat.div_lt_iff_lt_mul (by omega),Nat.mul_comm k]
    exact Nat.mul_lt_mul_of_pos_right hi (by omega)
   exact ⟨Int.natCast_nonneg _,Int.ofNat_lt.2 this⟩
 | r+1=>fun x hx=>by
   have:=ABt (S:=S) (T:=tabL S (selR S n k r) n k) (by rw [Zc];exact hk) x hx
   rwa [Zc] at this
theorem AOn {w:World} {base:Nat} {v:Value} {z:List Int} (h:w.ownsRow base 3 1 v z.length (Qo z)) (hl:z.length≤140737488355328) (hr:∀ x∈z,-9223372036854775808≤x∧x≤9223372036854775807):xG w w.heap.size v z:=by
 obtain ⟨a,c,rfl⟩:=Qq h
 have hc:z.length≤c:=by
  rcases h.2 with ⟨hv,h0⟩ | ⟨g,cap,cur,hv,_,_,hle,_⟩
  ·omega
  ·simp only [Value.slice.injEq] at hv
   obtain ⟨_,_,rfl⟩:=hv
   exact hle
 exact ⟨a,c,rfl,hc,(Ints.ofOwn h hl hr).2⟩
theorem Xu {w:World} {base n c:Nat} {e:TypeId} {a:Option Addr} {xs:List Value} (h:w.ownsRow base e 1 (.slice a n c) n xs):n≤c:=by
 rcases h.2 with ⟨hv,h0⟩ | ⟨g,cap,cur,hv,_,_,hle,_⟩
 ·omega
 ·simp only [Value.slice.injEq] at hv
  obtain ⟨_,_,rfl⟩:=hv
  exact hle
theorem XS {w:World} {base c:Nat} {a:Option Addr} {V:List Value} {T:List (List Int)} (h:w.ownsRow base 99 1 (.slice a T.length c) T.length V) (hR:Zz w base V T) (hl:T.length≤140737488355328)
 (hT:∀ i,i<T.length→(T.getD i []).length≤140737488355328∧∀ x∈T.getD i [],-9223372036854775808≤x∧x≤9223372036854775807):Tabs w w.heap.size a T:=by
 refine ⟨hl,fun h0=>?_⟩
 rcases h.2 with ⟨hv,h0'⟩ | ⟨g,cap,cur,hv,hb,hg,hle,hm,hc,ht⟩
 ·omega
 ·simp only [Value.slice.injEq] at hv
  obtain ⟨rfl,_,rfl⟩:=hv
  refine ⟨g,0,rfl,(Array.getElem?_eq_some_iff.1 hg).1,fun i hi=>⟨V.getD i undef,?_,AOn (hR.2 i hi) (hT i hi).1 (hT i hi).2⟩⟩
  have:=h.cellAt i (by omega)
  rw [Nat.zero_add,this,List.getD_eq_getElem?_getD,List.getElem?_eq_getElem (by rw [hR.1];exact hi)]
  rfl
theorem YN {S G:List Int} {n k:Nat} (h1:1≤n) (h2:n≤260) (hSl:S.length≤2000) (i:Nat) (hi:i<k):((tabL S G n k).getD i []).length=n∧∀ j,j<n→1≤((tabL S G n k).getD i []).getD j 0∧((tabL S G n k).getD i []).getD j 0≤20:=by
 rw [jN S G n k i hi]
 refine ⟨by rw [XU,Xn],fun j hj=>?_⟩
 exact jn (yV h1 h2 hSl) j (by rw [Xn];exact hj)
theorem yw {S G:List Int} {n k:Nat} (h1:1≤n) (h2:n≤260) (hSl:S.length≤2000) (i:Nat) (hi:i<k):yT ((tabL S G n k).getD i []):=fun j hj=>by
 obtain ⟨a,b⟩:=YN (G:=G) h1 h2 hSl i hi
 rw [a] at hj
 have:=b j hj
 omega
theorem YT {S G:List Int} {n k:Nat} (h1:1≤n) (h2:n≤260) (hSl:S.length≤2000) (i:Nat) (hi:i<(tabL S G n k).length):((tabL S G n k).getD i []).length≤140737488355328∧∀ x∈(tabL S G n k).getD i [],-9223372036854775808≤x∧x≤9223372036854775807:=by
 rw [Zc] at hi
 obtain ⟨a,b⟩:=YN (G:=G) h1 h2 hSl i hi
 refine ⟨by omega,fun x hx=>?_⟩
 obtain ⟨j,hj,rfl⟩:=yj hx
 rw [a] at hj
 have:=b j hj
 omega
theorem qt (a:Option Addr) (cap B n k:Nat) (S:List Int) (w:World) (hz:Ints w B a S) (hB:B≤w.heap.size) (hrow:rowB S n=true) (hk1:1≤k) (hk2:k≤4) :
 Calls Tryz.prog 70 #[.slice a S.length cap,.int .i64 n,.int .i64 k] w fun e w'=>∃ v V u,e=.returned (.tuple #[v,u])∧w'.ownsRow w.heap.size 99 1 v k V∧Zz w' w.heap.size V (tab2 S n k)∧JG V∧(∀ j,j<V.length→u.ownBlock=none∨u.ownBlock≠(V.getD j undef).ownBlock) ∧
  w'.ownsRow w.heap.size 3 1 u (grp S.length) (Qo (sel2 S n k))∧Below w.heap.size w w':=by
 obtain ⟨i0,hi,hz0,hz1,hz2⟩:=info_parts Tryz.infoInt
 have hr:=(XR S n).1 hrow
 obtain ⟨⟨hn1,hn2⟩,hSl,hS⟩:=hr
 have hn1':1≤n:=by omega
 have hn2':n≤260:=by omega
 have KR:Hid (Calls Tryz.prog 107 #[.slice a S.length cap,.int .i64 n] w fun e w'=>e=.returned (.bool true)∧w=w'):=Qa (by
  have:=yC a cap B S n w hz (by omega) (by omega)
  rw [hrow] at this
  exact this.mono fun e w' h=>⟨h.1,h.2.symm⟩)
 have KG:=Qa (fun W=>Yt S.length W (by omega))
 have hGN:=AGx S.length
 have KT:Hid (∀ (W:World) (a2:Option Addr) (c2 B2:Nat) (G:List Int),Below w.heap.size w W→Ints W B2 a2 G→B2≤W.heap.size→B≤B2→G.length=grp S.length →
  Calls Tryz.prog 110 #[.slice a S.length cap,.int .i64 n,.int .i64 k,.slice a2 (grp S.length) c2] W fun e w'=>∃ v V,e=.returned v∧w'.ownsRow W.heap.size 99 1 v k V∧Zz w' W.heap.size V (tabL S G n k)∧JG V∧Below W.heap.size W w') :=
  Qa (fun W a2 c2 B2 G hW hG hB2 hBB hGl=>by
   have:=ADb a a2 cap c2 B2 n k S G W ((hz.below (hW.mono hB)).mono hBB) hG hB2 hn1' hn2' hSl hS hGl hk2
   rw [hGl] at this
   exact this)
 have KC:Hid (∀ (W:World) (at2:Option Addr) (ct2 B2:Nat) (G:List Int),Below w.heap.size w W→Tabs W B2 at2 (tabL S G n k)→B2≤W.heap.size→B≤B2→k≤ct2 →
  Calls Tryz.prog 109 #[.slice a S.length cap,.slice at2 k ct2] W fun e w'=>∃ v,e=.returned v∧w'.ownsRow W.heap.size 3 1 v (grp S.length) (Qo (chL S (tabL S G n k)))∧Below W.heap.size W w') :=
  Qa (fun W at2 ct2 B2 G hW hT hB2 hBB hc=>by
   have:=ACg a at2 cap ct2 B2 n S (tabL S G n k) W ((hz.below (hW.mono hB)).mono hBB) hT ⟨fun i hi=>by rw [Zc] at hi;exact ⟨(YN hn1' hn2' hSl i hi).1,yw hn1' hn2' hSl i hi⟩,hS,hSl⟩ (by rw [Zc];exact hk1) (by rw [Zc];omega) hB2 (by rw [Zc];exact hc)
   rw [Zc,←Ve] at this
   exact this)
 have HFIT:=Qa (fun G=>YT (S:=S) (G:=G) (k:=k) hn1' hn2' hSl)
 have HLR:=Qa (XC S n k)
 have HSM:=Qa (YB (S:=S) (n:=n) hk1)
 have HS0:Hid (∀ q,grp S.length=q→Qo (selR S n k 0)=nats q (fun i=>i*k / q)):=Qa (fun q hq=>by
  subst hq
  show Qo (sel0 S k)=_
  unfold Qo sel0 nats
  rw [List.map_map];rfl)
 obtain ⟨N,hN⟩:∃ N,S.length=N:=⟨_,rfl⟩
 rw [hN] at KR KG KT KC HLR HS0 hGN hSl ⊢
 obtain ⟨q,hq⟩:∃ q,grp N=q:=⟨_,rfl⟩
 rw [hq] at KG KT KC HLR hGN ⊢
 replace HS0:=Qa (HS0.out q hq)
 have HF:Hid (tab2 S n k=tabL S (selR S n k 2) n k∧sel2 S n k=selR S n k 2):=Qa ⟨rfl,rfl⟩
 clear hz hrow hS hq hN
 go_enter Tryz.func70,Tryz.ntmps70
 go_wp2_with fail
 refine KR.out.mono ?_
 rintro e w1 ⟨rfl,rfl⟩
 go_wp2_with fail
 refine (KG.out _).mono ?_
 rintro e w1 ⟨rfl,rfl⟩
 go_wp2_with (at_make;refine wpList_make_full _ rfl _ _ 24 rfl w.heap.size 3 i0 (.int .i64 0) 1 Tryz.underlying24 hi hz0 hz1 .i64 .i64 _ _ q rfl rfl rfl rfl ?cb1 ?cb2 ?cb3 ?_)
 case cb1=>rw [hz2];omega
 case cb2=>unfold maxLen;omega
 case cb3=>exact Nat.le_refl _
 intro w2 hown hgrow
 have hb2:=ZQ hgrow
 rw [Zl] at hown
 clear hgrow
 go_wp2
 go_loopw [10] (fun si wr=>∃ (i:Nat),i≤q∧si=.int .i64 i∧wr.ownsRow w.heap.size 3 1 (.slice (some ⟨w.heap.size,0,none⟩) q q) q (nats q (fun j=>if j<i then j*k / q else 0))∧Below w.heap.size w wr) (fun si _=>q-(intOf si).toNat)
 case atStart=>exact ⟨0,by omega,rfl,by simpa using hown,hb2⟩
 case round =>
  clear hown hb2
  obtain ⟨i,hi2,rfl,hown,hbl⟩:=hrel
  by_cases hlt:i<q
  ·have d0:=hown.cellAt i (by omega)
   rw [Qw _ _ _ hlt] at d0
   have f0:=hown.frozenAt i
   have hownN:=(hown.stored i (.int .i64 ((i*k / q:Nat):Int))).1
   rw [Zb] at hownN
   have e:nats q (fun t=>if t=i then i*k / q else if t<i then t*k / q else 0)=nats q (fun j=>if j<i+1 then j*k / q else 0):=Qu fun j _=>by
    by_cases h1:j=i
    ·subst h1;rw [if_pos rfl,if_pos (by omega)]
    ·by_cases h2:j<i
     ·rw [if_neg h1,if_pos h2,if_pos (by omega)]
     ·rw [if_neg h1,if_neg h2,if_neg (by omega)]
   rw [e] at hownN
   have hblN:=hbl.setCell (p:=⟨w.heap.size,i,none⟩) (Nat.le_refl _) (.int .i64 ((i*k / q:Nat):Int))
   have hmul:i*k≤8000:=by
    have:i*k≤2000*4:=Nat.mul_le_mul (by omega) hk2
    omega
   have hq0:¬ q=0:=by omega
   have hdiv:((i:Int)*(k:Int)).tdiv (q:Int)=((i*k / q:Nat):Int):=by
    rw [Int.tdiv_eq_ediv_of_nonneg (by rw [←Int.natCast_mul];omega),←Int.natCast_mul];rfl
   have hw:IntKind.i64.wrap ((i:Int)*(k:Int))=(i:Int)*(k:Int):=by
    rw [IntKind.wrap_i64,←Int.natCast_mul];omega
   have hdle:i*k / q≤8000:=Nat.le_trans (Nat.div_le_self _ _) hmul
   have HN2:=Qa hownN
   have HB2:=Qa hblN
   clear e hown hbl hownN hblN
   obtain ⟨d,hd⟩:∃ d,i*k / q=d:=⟨_,rfl⟩
   rw [hd] at hdiv hdle HN2 HB2
   clear hd
   obtain ⟨m,hm⟩:∃ m:Int,(i:Int)*(k:Int)=m:=⟨_,rfl⟩
   have hm0:0≤m∧m≤8000:=by rw [←hm,←Int.natCast_mul];omega
   rw [hm] at hdiv hw
   go_wp2
   go_roundw
   case rel=>exact ⟨i+1,by omega,by go_num,HN2.out,HB2.out⟩
   case measure=>simp [intOf];omega
  ·obtain rfl:i=q:=by omega
   have HO:Hid (wr.ownsRow w.heap.size 3 1 (.slice (some ⟨w.heap.size,0,none⟩) i i) i (Qo (selR S n k 0))):=Qa (by
    have e:nats i (fun j=>if j<i then j*k / i else 0)=nats i (fun j=>j*k / i):=Qu fun j hj=>by rw [if_pos hj]
    rw [e,←HS0.out] at hown
    exact hown)
   clear hown
   go_wp2
   go_loopw [9,11] (fun vs sr wx=>∃ (r:Nat),r≤2∧sr=.int .i64 r∧Hid (wx.ownsRow w.heap.size 3 1 vs i (Qo (selR S n k r)))∧Below w.heap.size w wx) (fun _ sr _=>2-(intOf sr).toNat)
   case atStart=>exact ⟨0,by omega,rfl,HO,hbl⟩
   case round =>
    clear HO hbl
    obtain ⟨r,hr2,rfl,HO,hbl⟩:=hrel
    obtain ⟨ag,cg,hsh⟩:=Qq HO.out
    subst hsh
    have hsz:=hbl.size
    have HI:Hid (∀ W,Below wr.heap.size wr W→Ints W W.heap.size ag (selR S n k r)):=Qa (fun W hW =>
     (Ints.ofOwn (Ql HO.out hW) (by omega) (fun x hx=>by have:=HSM.out r x hx;omega)).2)
    have K1:=Qa (KT.out wr ag cg wr.heap.size (selR S n k r) hbl (HI.out wr (Below.refl _ _)) (Nat.le_refl _) (by omega) (HLR.out r))
    by_cases hrl:r<2
    ·go_wp2_with fail
     refine K1.out.mono ?_
     rintro e w3 ⟨v3,V3,rfl,o3,R3,A3,b3⟩
     have B3:=Qc b3 hsz hbl
     obtain ⟨a3,c3,rfl⟩:=Qq o3
     have hc3:=Xu o3
     have HT3:Hid (Tabs w3 w3.heap.size a3 (tabL S (selR S n k r) n k)):=Qa (by
      have hk:(tabL S (selR S n k r) n k).length=k:=Zc _ _ _ _
      exact XS (by rw [hk];exact o3) R3 (by rw [hk];omega) (HFIT.out _))
     have hs3:=B3.size
     clear o3 R3 A3 b3 K1 HI
     go_wp2_with fail
     refine (KC.out w3 a3 c3 w3.heap.size _ B3 HT3.out (Nat.le_refl _) (by omega) hc3).mono ?_
     rintro e w4 ⟨v4,rfl,o4,b4⟩
     have B4:=Qc b4 hs3 B3
     have HO4:Hid (w4.ownsRow w.heap.size 3 1 v4 i (Qo (selR S n k (r+1)))):=Qa (ZT o4 hs3)
     clear o4 b4
     go_wp2
     go_roundw
     case rel=>exact ⟨r+1,by omega,by go_num,HO4,B4⟩
     case measure=>simp [intOf];omega
    ·obtain rfl:r=2:=by omega
     go_wp2_with fail
     refine K1.out.mono ?_
     rintro e w3 ⟨v3,V3,rfl,o3,R3,A3,b3⟩
     have B3:=Qc b3 hsz hbl
     have HO3:=Qa (Ql HO.out b3)
     have HV3:=Qa (ZT o3 hsz)
     have HR3:Hid (Zz w3 w.heap.size V3 (tabL S (selR S n k 2) n k)):=Qa ⟨R3.1,fun j hj=>ZT (R3.2 j hj) hsz⟩
     have HA3:=Qa A3
     have HU3:Hid (∀ j,j<V3.length→(Value.slice ag i cg).ownBlock=none∨(Value.slice ag i cg).ownBlock≠(V3.getD j undef).ownBlock):=Qa (fun j hj=>VQ HO.out (R3.2 j (by rw [←R3.1];exact hj)))
     clear o3 R3 A3 b3 K1 HI
     go_wp2
     go_ret2
     exact ⟨v3,V3,_,rfl,HV3.out,HR3.out,HA3.out,HU3.out,HO3.out,B3⟩
def tbOk (T:List (List Int)) (n:Int):Bool:=decide (1≤T.length∧T.length≤4) && decide (∀ i,i<T.length→((T.getD i []).length:Int)=n∧lOk (T.getD i [])=true)
theorem Xl (T:List (List Int)) (n:Int):tbOk T n=true↔(1≤T.length∧T.length≤4)∧∀ i,i<T.length→((T.getD i []).length:Int)=n∧lOk (T.getD i [])=true:=by
 unfold tbOk;rw [Bool.and_eq_true,decide_eq_true_eq,decide_eq_true_eq]
theorem jI (at2:Option Addr) (capT B:Nat) (T:List (List Int)) (n:Int) (w:World) (hT:Tabs w B at2 T) :
 Calls Tryz.prog 167 #[.slice at2 T.length capT,.int .i64 n] w fun e w'=>e=.returned (.bool (tbOk T n))∧w=w':=by
 have HIF:=Qa (Xl T n)
 have HT:=Qa hT
 have hTl:=hT.1
 obtain ⟨M,hM⟩:∃ M,T.length=M:=⟨_,rfl⟩
 have HM:=Qa hM
 obtain ⟨r,hr⟩:∃ r,tbOk T n=r:=⟨_,rfl⟩
 rw [hr] at HIF ⊢
 rw [hM] at hTl HIF ⊢
 clear hT hM hr
 by_cases hb:1≤M∧M≤4
 ·obtain ⟨h1,h4⟩:=hb
  go_enter Tryz.func167,Tryz.ntmps167
  go_wp2
  go_loopw [5] (fun si wr=>∃ (i:Nat),i≤M∧si=.int .i64 i∧Hid (∀ j,j<i→((T.getD j []).length:Int)=n∧lOk (T.getD j [])=true)∧wr=w) (fun si _=>M-(intOf si).toNat)
  case atStart=>exact ⟨0,by omega,rfl,Qa (fun j h=>by omega),rfl⟩
  case round =>
   obtain ⟨i,hi,rfl,HP,hw⟩:=hrel
   subst hw
   by_cases hlt:i<M
   ·obtain ⟨b,off,a2,c2,e,hb,hc,hle,hz⟩:=HT.out.at (i:=i) (by rw [HM.out];exact hlt)
    subst e
    have K:Hid (Calls Tryz.prog 136 #[.slice a2 (T.getD i []).length c2] wr fun e w'=>e=.returned (.bool (lOk (T.getD i [])))∧wr=w'):=Qa ((qm a2 c2 B (T.getD i []) wr hz).mono fun e w' h=>⟨h.1,h.2.symm⟩)
    obtain ⟨z,hz'⟩:∃ z,T.getD i []=z:=⟨_,rfl⟩
    have HZ:=Qa hz'
    rw [hz'] at hc hle K
    obtain ⟨L,hL⟩:∃ L,z.length=L:=⟨_,rfl⟩
    have HL:=Qa hL
    rw [hL] at hc hle K
    have HP2:Hid (∀ q,lOk z=q→(L:Int)=n→q=true→∀ j,j<i+1→((T.getD j []).length:Int)=n∧lOk (T.getD j [])=true):=Qa (fun q h1 h2 h3 j hj=>by
     by_cases e:j=i
     ·subst e;rw [HZ.out,h1,h3,HL.out];exact ⟨h2,rfl⟩
     ·exact HP.out j (by omega))
    have HF:Hid ((¬ ((L:Int)=n∧lOk z=true))→r=false):=Qa (fun h=>by
     rw [Bool.eq_false_iff]
     intro ht
     have:=(HIF.out.1 ht).2 i hlt
     rw [HZ.out,HL.out] at this
     exact h this)
    clear hz hz' hL
    obtain ⟨q,hq⟩:∃ q,lOk z=q:=⟨_,rfl⟩
    rw [hq] at K HF
    replace HP2:=Qa (HP2.out q hq)
    clear hq
    by_cases hn:(L:Int)=n
    ·cases q with
     | true =>
       go_wp2_with fail
       refine K.out.mono ?_
       rintro e w1 ⟨rfl,rfl⟩
       go_wp2
       go_roundw
       case rel=>exact ⟨i+1,by omega,by go_num,Qa (HP2.out hn (by trivial)),by trivial⟩
       case measure=>simp [intOf];omega
     | false =>
       have hr:r=false:=HF.out (by simp)
       go_wp2_with fail
       refine K.out.mono ?_
       rintro e w1 ⟨rfl,rfl⟩
       go_wp2
       go_ret
       first | exact ⟨Qk hr.symm,rfl⟩ | exact ⟨rfl,rfl⟩
    ·have hr:r=false:=HF.out (fun h=>hn h.1)
     have hn2:((L:Int) != n)=true:=by simpa using hn
     go_wp2
     go_ret
     first | exact ⟨Qk hr.symm,rfl⟩ | exact ⟨rfl,rfl⟩
   ·obtain rfl:i=M:=by omega
    have hr:r=true:=HIF.out.2 ⟨⟨h1,h4⟩,HP.out⟩
    go_wp2
    go_ret
    first | exact ⟨Qk hr.symm,rfl⟩ | exact ⟨rfl,rfl⟩
 ·have hr:r=false:=by
   rw [Bool.eq_false_iff]
   intro ht
   exact hb (HIF.out.1 ht).1
  by_cases h1:M<1
  ·go_enter Tryz.func167,Tryz.ntmps167
   go_wp2
   go_ret
   first | exact ⟨Qk hr.symm,rfl⟩ | exact ⟨rfl,rfl⟩
  ·have h4:4<M:=by omega
   go_enter Tryz.func167,Tryz.ntmps167
   go_wp2
   go_ret
   first | exact ⟨Qk hr.symm,rfl⟩ | exact ⟨rfl,rfl⟩
def tbN (T:List (List Int)):Nat:=(T.getD 0 []).length
def cdOk (S:List Int) (T:List (List Int)) (G:List Int):Bool:=tbOk T (tbN T) && (rowB S (tbN T) && (decide (G.length=grp S.length) && Zi T.length G))
theorem qP (S:List Int) (T:List (List Int)) (G:List Int):cdOk S T G=true↔tbOk T (tbN T)=true∧rowB S (tbN T)=true∧G.length=grp S.length∧Zi T.length G=true:=by
 unfold cdOk;rw [Bool.and_eq_true,Bool.and_eq_true,Bool.and_eq_true,decide_eq_true_eq]
theorem AOk (n:Nat):Zi n []=true:=by rw [QZ];exact ⟨by simp,fun k hk=>by simp at hk⟩
theorem AQs (a at2 a3:Option Addr) (cap capT cap3 B:Nat) (S G:List Int) (T:List (List Int)) (w:World) (hz:Ints w B a S) (hT:Tabs w B at2 T) (hz3:Ints w B a3 G) (hct:T.length≤capT) :
 Calls Tryz.prog 134 #[.slice a S.length cap,.slice at2 T.length capT,.slice a3 G.length cap3] w fun e w'=>e=.returned (.bool (cdOk S T G))∧w=w':=by
 have HDF:Hid (cdOk S T G=(tbOk T (tbN T) && (rowB S (tbN T) && (decide (G.length=grp S.length) && Zi T.length G)))):=Qa rfl
 have hTl:=hT.1
 have hSl:=hz.1
 have hGl:=hz3.1
 by_cases h0:T.length=0
 ·have hF:cdOk S T G=false:=by
   rw [HDF.out]
   have:tbOk T (tbN T)=false:=by rw [Bool.eq_false_iff,Ne,Xl];omega
   rw [this];rfl
  rw [h0,hF]
  clear hz hT hz3 HDF hF
  go_enter Tryz.func134,Tryz.ntmps134
  go_wp2
  go_ret
  exact ⟨rfl,rfl⟩
 ·obtain ⟨b,off,a2,c2,e,hb,hc,hle,hz0⟩:=hT.at (i:=0) (by omega)
  subst e
  rw [Nat.add_zero] at hc
  have hN:(T.getD 0 []).length=tbN T:=rfl
  rw [hN] at hc hle
  have hNl:=hz0.1
  rw [hN] at hNl
  have K1:=Qa (jI (some ⟨b,off,none⟩) capT B T (tbN T) w hT)
  have K2:Hid (Calls Tryz.prog 107 #[.slice a S.length cap,.int .i64 (tbN T)] w fun e w'=>e=.returned (.bool (rowB S (tbN T)))∧w=w'):=Qa ((yC a cap B S (tbN T) w hz (by omega) (by omega)).mono fun e w' h=>⟨h.1,h.2.symm⟩)
  have K3:Hid (S.length≤2000→Calls Tryz.prog 108 #[.int .i64 S.length] w fun e w'=>e=.returned (.int .i64 (grp S.length))∧w=w'):=Qa (fun h=>Yt S.length w (by omega))
  have K4:Hid (Calls Tryz.prog 149 #[.int .i64 T.length,.slice a3 G.length cap3] w fun e w'=>e=.returned (.bool (Zi T.length G))∧w=w'):=Qa ((xm a3 cap3 B T.length G w hz3 hTl).mono fun e w' h=>⟨h.1,h.2.symm⟩)
  have HR:Hid (rowB S (tbN T)=true→S.length≤2000):=Qa (fun h=>((XR _ _).1 h).2.1)
  have HG0:Hid (G.length=0→Zi T.length G=true):=Qa (fun h=>by rw [List.eq_nil_of_length_eq_zero h];exact AOk _)
  obtain ⟨n,hn⟩:∃ n,tbN T=n:=⟨_,rfl⟩
  obtain ⟨M,hM⟩:∃ M,T.length=M:=⟨_,rfl⟩
  obtain ⟨N,hN2⟩:∃ N,S.length=N:=⟨_,rfl⟩
  obtain ⟨Q,hQ⟩:∃ Q,G.length=Q:=⟨_,rfl⟩
  rw [hn] at hc hle hNl K1 K2 HR HDF
  rw [hM] at K1 K4 HG0 HDF h0 hTl hct ⊢
  rw [hN2] at K2 K3 HR HDF hSl ⊢
  rw [hQ] at K4 HG0 HDF hGl ⊢
  clear hz hT hz3 hz0 hN hn hM hN2 hQ
  obtain ⟨r,hr⟩:∃ r,cdOk S T G=r:=⟨_,rfl⟩
  obtain ⟨t1,ht1⟩:∃ t,tbOk T (n:Int)=t:=⟨_,rfl⟩
  obtain ⟨t2,ht2⟩:∃ t,rowB S (n:Int)=t:=⟨_,rfl⟩
  obtain ⟨t4,ht4⟩:∃ t,Zi M G=t:=⟨_,rfl⟩
  rw [hr,ht1,ht2,ht4] at HDF
  rw [ht1] at K1
  rw [ht2] at K2 HR
  rw [ht4] at K4 HG0
  rw [hr]
  clear hr ht1 ht2 ht4
  cases t1 with
  | false =>
    have hF:Hid (r=false):=Qa (by rw [HDF.out];rfl)
    go_enter Tryz.func134,Tryz.ntmps134
    go_wp2_with fail
    refine K1.out.mono ?_
    rintro e w1 ⟨rfl,rfl⟩
    go_wp2
    go_ret
    exact ⟨Qk hF.out.symm,rfl⟩
  | true =>
    cases t2 with
    | false =>
      have hF:Hid (r=false):=Qa (by rw [HDF.out];rfl)
      go_enter Tryz.func134,Tryz.ntmps134
      go_wp2_with fail
      refine K1.out.mono ?_
      rintro e w1 ⟨rfl,rfl⟩
      go_wp2_with fail
      refine K2.out.mono ?_
      rintro e w1 ⟨rfl,rfl⟩
      go_wp2
      go_ret
      exact ⟨Qk hF.out.symm,rfl⟩
    | true =>
      have K3':=Qa (K3.out (HR.out rfl))
      by_cases hg:Q=grp N
      ·have hgI:((Q:Int) != (grp N:Int))=false:=by rw [hg];simp
       by_cases hq0:Q=0
       ·have hF:Hid (r=true):=Qa (by rw [HDF.out,HG0.out hq0,decide_eq_true hg];rfl)
        subst hq0
        have hgI2:((0:Int) != (grp N:Int))=false:=hgI
        have hg0:grp N=0:=hg.symm
        have hM0:((M:Int) == 0)=false:=beq_eq_false_iff_ne.2 (by omega)
        clear hg hgI
        go_enter Tryz.func134,Tryz.ntmps134
        go_wp2_with fail
        refine K1.out.mono ?_
        rintro e w1 ⟨rfl,rfl⟩
        go_wp2_with fail
        refine K2.out.mono ?_
        rintro e w1 ⟨rfl,rfl⟩
        go_wp2_with fail
        refine K3'.out.mono ?_
        rintro e w1 ⟨rfl,rfl⟩
        go_wp2
        go_ret
        exact ⟨Qk hF.out.symm,rfl⟩
       ·have hF:Hid (r=t4):=Qa (by rw [HDF.out,decide_eq_true hg];simp)
        have hq0I:((Q:Int) == 0)=false:=by rw [beq_eq_false_iff_ne];omega
        clear hg
        go_enter Tryz.func134,Tryz.ntmps134
        go_wp2_with fail
        refine K1.out.mono ?_
        rintro e w1 ⟨rfl,rfl⟩
        go_wp2_with fail
        refine K2.out.mono ?_
        rintro e w1 ⟨rfl,rfl⟩
        go_wp2_with fail
        refine K3'.out.mono ?_
        rintro e w1 ⟨rfl,rfl⟩
        go_wp2_with fail
        refine K4.out.mono ?_
        rintro e w1 ⟨rfl,rfl⟩
        go_wp2
        go_ret
        exact ⟨Qk (by rw [hF.out]),rfl⟩
      ·have hF:Hid (r=false):=Qa (by rw [HDF.out,decide_eq_false hg];simp)
       have hgI:((Q:Int) != (grp N:Int))=true:=by rw [bne_iff_ne];omega
       clear hg
       go_enter Tryz.func134,Tryz.ntmps134
       go_wp2_with fail
       refine K1.out.mono ?_
       rintro e w1 ⟨rfl,rfl⟩
       go_wp2_with fail
       refine K2.out.mono ?_
       rintro e w1 ⟨rfl,rfl⟩
       go_wp2_with fail
       refine K3'.out.mono ?_
       rintro e w1 ⟨rfl,rfl⟩
       go_wp2
       go_ret
       exact ⟨Qk hF.out.symm,rfl⟩
def cbF (S:List Int) (T:List (List Int)) (G:List Int):Nat→Int
 | 0=>0
 | g+1=>cbF S T G g+bitG S (T.getD (G.getD g 0).toNat []) g
def cbZ (S:List Int) (T:List (List Int)) (G:List Int):Int:=if cdOk S T G=true then cbF S T G G.length else -1
theorem AEq {S G:List Int} {T:List (List Int)} (h:cdOk S T G=true):yI S T (tbN T)∧1≤T.length∧T.length≤4∧1≤tbN T∧tbN T≤260∧G.length=grp S.length∧(∀ g,g<G.length→0≤G.getD g 0∧G.getD g 0<(T.length:Int))∧∀ i,i<T.length→lOk (T.getD i [])=true:=by
 obtain ⟨h1,h2,h3,h4⟩:=(qP S T G).1 h
 obtain ⟨⟨h5,h6⟩,h7⟩:=(Xl _ _).1 h1
 obtain ⟨⟨h8,h9⟩,h10,h11⟩:=(XR _ _).1 h2
 have h12:=(QZ _ _).1 h4
 refine ⟨⟨fun i hi=>⟨by have:=(h7 i hi).1;omega,fun k hk=>?_⟩,h11,h10⟩,h5,h6,by omega,by omega,h3,h12.2,fun i hi=>(h7 i hi).2⟩
 have:=(Zq (h7 i hi).2).2.2 k hk
 omega
theorem ABo {S G:List Int} {T:List (List Int)} {n:Nat} (hT:yI S T n) (hG:∀ g,g<G.length→0≤G.getD g 0∧G.getD g 0<(T.length:Int)):∀ g,g≤G.length→0≤cbF S T G g∧cbF S T G g≤200*g
 | 0,_=>by simp [cbF]
 | g+1,h=>by
   have ih:=ABo hT hG g (by omega)
   have hg:=hG g (by omega)
   have hb:=YA (S:=S) ((hT.1 (G.getD g 0).toNat (by omega)).2) (10*g) 10
   unfold cbF
   have e:bitG S (T.getD (G.getD g 0).toNat []) g=bitF S (T.getD (G.getD g 0).toNat []) (10*g) 10:=rfl
   rw [e]
   omega
theorem Yw (a at2 a3:Option Addr) (cap capT cap3 B:Nat) (S G:List Int) (T:List (List Int)) (w:World) (hz:Ints w B a S) (hT:Tabs w B at2 T) (hz3:Ints w B a3 G) (hct:T.length≤capT) :
 Calls Tryz.prog 88 #[.slice a S.length cap,.slice at2 T.length capT,.slice a3 G.length cap3] w fun e w'=>e=.returned (.int .i64 (cbZ S T G))∧w=w':=by
 have KO:=Qa (AQs a at2 a3 cap capT cap3 B S G T w hz hT hz3 hct)
 by_cases hok:cdOk S T G=true
 ·have hZ:Hid (cbZ S T G=cbF S T G G.length):=Qa (by unfold cbZ;rw [if_pos hok])
  obtain ⟨hTab,h1,h4,hn1,hn2,hGl,hG,_⟩:=AEq hok
  rw [hok] at KO
  have HR:=Qa (fun g=>ABo hTab hG g)
  have HTB:=Qa hTab
  have HG:=Qa hG
  have hSl:=hTab.2.2
  have hq:G.length≤200:=by rw [hGl];unfold grp;omega
  have HZ:=Qa hz
  have HT:=Qa hT
  have HZ3:=Qa hz3
  have HST:Hid (∀ g,cbF S T G (g+1)=cbF S T G g+bitG S (T.getD (G.getD g 0).toNat []) g):=Qa (fun g=>rfl)
  obtain ⟨Q,hQ⟩:∃ Q,G.length=Q:=⟨_,rfl⟩
  obtain ⟨M,hM⟩:∃ M,T.length=M:=⟨_,rfl⟩
  obtain ⟨N,hN⟩:∃ N,S.length=N:=⟨_,rfl⟩
  have HN:=Qa hN
  have HM:=Qa hM
  have HQ:=Qa hQ
  rw [hQ] at KO hZ HR HG hq ⊢
  rw [hM] at KO HG h1 h4 hct ⊢
  rw [hN] at KO ⊢
  obtain ⟨n,hn⟩:∃ n,tbN T=n:=⟨_,rfl⟩
  rw [hn] at HTB
  clear hz hT hz3 hok hTab hG hGl hQ hM hN hn hn1 hn2 hSl
  go_enter Tryz.func88,Tryz.ntmps88
  go_wp2_with fail
  refine KO.out.mono ?_
  rintro e w1 ⟨rfl,rfl⟩
  go_wp2
  go_loopw [7,8] (fun sn sg wr=>∃ (g:Nat),g≤Q∧sg=.int .i64 g∧sn=.int .i64 (cbF S T G g)∧wr=w) (fun _ sg _=>Q-(intOf sg).toNat)
  case atStart=>exact ⟨0,by omega,rfl,rfl,rfl⟩
  case round =>
   obtain ⟨g,hg,rfl,rfl,hw⟩:=hrel
   subst hw
   by_cases hlt:g<Q
   ·have hgr:=HG.out g hlt
    obtain ⟨x,hx⟩:∃ x:Nat,G.getD g 0=(x:Int):=⟨(G.getD g 0).toNat,by omega⟩
    have hxM:x<M:=by omega
    have hr1:=HR.out g (by omega)
    have hr2:=HR.out (g+1) (by omega)
    have hst:=HST.out g
    rw [hx,Int.toNat_natCast] at hst
    obtain ⟨b3,off3,e3,hb3,hcell3⟩:=HZ3.out.2.2 (by rw [HQ.out];omega)
    have c3:=hcell3 g (by rw [HQ.out];exact hlt)
    rw [hx] at c3
    obtain ⟨tb,to,at4,ct4,e4,htb,ck,hck,zk⟩:=HT.out.at (i:=x) (by rw [HM.out];exact hxM)
    have l1:=(HTB.out.1 x (by rw [HM.out];exact hxM)).1
    rw [l1] at ck hck
    have K1:=Qa (fun W hW=>AEo HTB.out (cap:=cap) (cap2:=ct4) (g:=g) HZ.out (by rw [HM.out];exact hxM) zk (by omega) W hW)
    rw [HN.out] at K1
    subst e3 e4
    have K2:=Qa (K1.out _ rfl)
    obtain ⟨y,hy⟩:∃ y,bitG S (T.getD x []) g=y:=⟨_,rfl⟩
    obtain ⟨z,hz⟩:∃ z,cbF S T G g=z:=⟨_,rfl⟩
    rw [hy] at K2 hst
    rw [hz] at hst hr1 ⊢
    rw [hst] at hr2
    have HS2:=Qa hst
    clear hcell3 hx hgr zk l1 K1 hy hz hst
    go_wp2_with fail
    refine K2.out.mono ?_
    rintro e w2 ⟨rfl,rfl⟩
    go_wp2
    go_roundw
    case rel=>exact ⟨g+1,by omega,by go_num,by rw [HS2.out],by trivial⟩
    case measure=>simp [intOf];omega
   ·obtain rfl:g=Q:=by omega
    go_wp2
    go_ret
    exact ⟨QN hZ.out.symm,rfl⟩
 ·have hZ:Hid (cbZ S T G=-1):=Qa (by unfold cbZ;rw [if_neg hok])
  rw [Bool.eq_false_iff.2 hok] at KO
  obtain ⟨Q,hQ⟩:∃ Q,G.length=Q:=⟨_,rfl⟩
  obtain ⟨M,hM⟩:∃ M,T.length=M:=⟨_,rfl⟩
  obtain ⟨N,hN⟩:∃ N,S.length=N:=⟨_,rfl⟩
  rw [hQ,hM,hN] at KO ⊢
  clear hz hT hz3 hok hQ hM hN hct
  go_enter Tryz.func88,Tryz.ntmps88
  go_wp2_with fail
  refine KO.out.mono ?_
  rintro e w1 ⟨rfl,rfl⟩
  go_wp2
  go_ret
  exact ⟨QN hZ.out.symm,rfl⟩
def unaL:List Nat→List Nat
 | []=>[]
 | x::D=>List.replicate x 1++0::unaL D
theorem AAq (D:List Nat) (x:Nat):unaL (D++[x])=unaL D++(List.replicate x 1++[0]):=by
 induction D with
 | nil=>simp [unaL]
 | cons y D ih=>simp [unaL,ih]
theorem qC {D:List Nat} {k:Nat} (h:∀ x∈D,x<k):(unaL D).length≤D.length*k:=by
 induction D with
 | nil=>simp [unaL]
 | cons y D ih =>
   have h1:=h y (List.mem_cons_self ..)
   have h2:=ih (fun x hx=>h x (List.mem_cons_of_mem _ hx))
   simp only [unaL,List.length_append,List.length_replicate,List.length_cons]
   rw [Nat.succ_mul]
   omega
def mtfD (z:List Int) (k:Nat):List Nat:=runF mtfF (List.range k) (z.map Int.toNat)
theorem qj {z:List Int} {k:Nat} (h:rOk z k=true):∀ x∈mtfD z k,x<k:=by
 obtain ⟨L,m,rfl,hm,_,_,_,hL⟩:=Za h
 obtain rfl:k=m:=by omega
 unfold mtfD
 rw [Jf]
 exact AEi hL
theorem Yk {w:World} {base n c:Nat} {e:TypeId} {a:Option Addr} {xs:List Value} (h:w.ownsRow base e 1 (.slice a n c) n xs):n≤c:=by
 rcases h.2 with ⟨hv,h0⟩ | ⟨g,cap,cur,hv,_,_,hle,_⟩
 ·omega
 ·simp only [Value.slice.injEq] at hv
  obtain ⟨_,_,rfl⟩:=hv
  exact hle
theorem AMc {w:World} {base base':Nat} {e:TypeId} {size:Nat} {v:Value} {n:Nat} {xs:List Value} (h:w.ownsRow base e size v n xs) (hb:base'≤base):w.ownsRow base' e size v n xs :=
 ⟨h.1,h.2.imp id fun ⟨g,cap,cur,a,b,c⟩=>⟨g,cap,cur,a,Nat.le_trans hb b,c⟩⟩
theorem Jq (z:List Int) (k:Nat):(mtfD z k).length=z.length:=by unfold mtfD;rw [Xc,List.length_map]
theorem qq (a:Option Addr) (cap B k:Nat) (z:List Int) (w:World) (hz:Ints w B a z) (hB:B≤w.heap.size) (hk:k≤4) (hok:rOk z k=true) :
 Calls Tryz.prog 71 #[.slice a z.length cap,.int .i64 k] w fun e w'=>∃ v,e=.returned v∧w'.ownsRow w.heap.size 5 1 v (unaL (mtfD z k)).length (u8s (unaL (mtfD z k)))∧Below w.heap.size w w':=by
 obtain ⟨i0,hi,hz0,hz1,hz2⟩:=info_parts Tryz.info5
 have h6:=((Jc z k).1 hok).2.2.1
 have KM:=Qa (jb a cap B z k w hz hB (by omega) (by omega) (by omega))
 have hZ:mtfZ z k=ints (mtfD z k):=by unfold mtfZ mtfD;rw [if_pos hok,Int.toNat_natCast]
 rw [hZ,Qj,Qy,Jq] at KM
 have HML:Hid (∀ x∈mtfD z k,x<4):=Qa (fun x hx=>by
  have:=qj hok x hx
  omega)
 have HDL:=Qa (Jq z k)
 obtain ⟨N,hN⟩:∃ N,z.length=N:=⟨_,rfl⟩
 rw [hN] at h6 KM HDL ⊢
 clear hz hok hN hZ
 generalize mtfD z k=D at KM HML HDL ⊢
 go_enter Tryz.func71,Tryz.ntmps71
 go_wp2_with fail
 refine KM.out.mono ?_
 rintro e w1 ⟨vm,rfl,om,bm⟩
 obtain ⟨am,cm,rfl⟩:=Qq om
 have hcm:=Yk om
 have HOM:Hid (∀ W,Below w1.heap.size w1 W→∀ (i x:Nat),D[i]? = some x→∃ g,am=some ⟨g,0,none⟩∧W.cell? ⟨g,i,none⟩=some (.int .i64 (x:Int))):=Qa (fun W hW i x hx=>by
  have h:=Ql om hW
  rcases h.2 with ⟨hv,h0⟩ | ⟨g,c,cur,hv,_⟩
  ·have hl:=(List.getElem?_eq_some_iff.1 hx).1
   rw [HDL.out] at hl
   omega
  ·simp only [Value.slice.injEq] at hv
   obtain ⟨rfl,_,rfl⟩:=hv
   have hl:=(List.getElem?_eq_some_iff.1 hx).1
   rw [HDL.out] at hl
   refine ⟨g,rfl,?_⟩
   have:=h.cellAt i (by omega)
   rw [this]
   unfold Qe
   rw [List.getElem?_map,hx];rfl)
 clear om KM
 go_wp2
 go_loopw [5,7,8] (fun vo si _ wr=>∃ (i l:Nat),i≤N∧l≤i*4∧si=.int .i64 i∧Hid ((unaL (D.take i)).length=l)∧wr.ownsRow w1.heap.size 5 1 vo l (u8s (unaL (D.take i)))∧Below w1.heap.size w1 wr) (fun _ si _ _=>N-(intOf si).toNat)
 case atStart=>exact ⟨0,0,by omega,by omega,rfl,Qa rfl,World.ownsRow_nil _ _ _ _,Below.refl _ _⟩
 case round =>
  obtain ⟨i,l,hi2,hl4,rfl,HLU,hown,hbl⟩:=hrel
  obtain ⟨u,hu⟩:∃ u,u=wr:=⟨_,rfl⟩
  subst hu
  by_cases hlt:i<N
  ·obtain ⟨x,hx⟩:∃ x,D[i]? = some x:=⟨D[i]'(by rw [HDL.out];exact hlt),List.getElem?_eq_getElem _⟩
   have hx4:x<4:=HML.out x (List.mem_of_getElem? hx)
   have HX:=Qa hx
   have HTK:Hid (unaL (D.take (i+1))=unaL (D.take i)++(List.replicate x 1++[0])):=Qa (by
    rw [List.take_add_one,hx];exact AAq _ _)
   clear hx
   obtain ⟨U,hU⟩:∃ U,unaL (D.take i)=U:=⟨_,rfl⟩
   rw [hU] at HLU HTK hown
   clear hU
   go_wp2
   go_loopw [5,8] (fun vo sj wy=>∃ (j:Nat),j≤x∧sj=.int .i64 j∧wy.ownsRow w1.heap.size 5 1 vo (l+j) (u8s (U++List.replicate j 1))∧Below w1.heap.size w1 wy) (fun _ sj _=>x-(intOf sj).toNat)
   case atStart=>exact ⟨0,by omega,rfl,by simpa using hown,hbl⟩
   case round =>
    clear hown hbl
    obtain ⟨j,hj,rfl,hown,hbl⟩:=hrel
    have hsz:=hbl.size
    obtain ⟨gm,rfl,cm1⟩:=HOM.out wr hbl i x HX.out
    by_cases hjx:j<x
    ·have HRP:Hid (U++List.replicate (j+1) 1=(U++List.replicate j 1)++[1]):=Qa (by rw [List.append_assoc,List.replicate_succ'])
     go_wp2_with (at_builtin;refine wpList_append_own _ rfl _ _ 61 rfl w1.heap.size 5 i0 (.int .u8 0) 1 1 Tryz.underlying61 hi hz0 hz1 hz2 rfl (by decide) _ _ _ rfl (hown.alloc _) ⟨wr.heap.size,0,none⟩ 1 1 [.int .u8 1] rfl rfl ?c1 ?c2 ?c3 ?c4 ?c5 ?_)
     case c1=>exact cell_one_new _ _ _
     case c2=>exact fun u hu=>by simp at hu;subst hu;rfl
     case c3=>unfold maxLen;omega
     case c4=>omega
     case c5=>first | omega | (simp;omega)
     intro v5 w5 hown5 hgrow _
     have hb5:=Zf hbl hsz hown hgrow
     have HO5:Hid (w5.ownsRow w1.heap.size 5 1 v5 (l+(j+1)) (u8s (U++List.replicate (j+1) 1))):=Qa (by rw [HRP.out,JW];exact hown5)
     clear hown hown5 hgrow hbl
     go_wp2
     go_roundw
     case rel=>exact ⟨j+1,by omega,by go_num,HO5.out,hb5⟩
     case measure=>simp [intOf];omega
    ·obtain rfl:j=x:=by omega
     go_wp2_with (at_builtin;refine wpList_append_own _ rfl _ _ 61 rfl w1.heap.size 5 i0 (.int .u8 0) 1 1 Tryz.underlying61 hi hz0 hz1 hz2 rfl (by decide) _ _ _ rfl (hown.alloc _) ⟨wr.heap.size,0,none⟩ 1 1 [.int .u8 0] rfl rfl ?c1 ?c2 ?c3 ?c4 ?c5 ?_)
     case c1=>exact cell_one_new _ _ _
     case c2=>exact fun u hu=>by simp at hu;subst hu;rfl
     case c3=>unfold maxLen;omega
     case c4=>omega
     case c5=>first | omega | (simp;omega)
     intro v5 w5 hown5 hgrow _
     have hb5:=Zf hbl hsz hown hgrow
     have HO5:Hid (w5.ownsRow w1.heap.size 5 1 v5 (l+j+1) (u8s (unaL (D.take (i+1))))):=Qa (by rw [HTK.out,←List.append_assoc,JW];exact hown5)
     have HL5:Hid ((unaL (D.take (i+1))).length=l+j+1):=Qa (by rw [HTK.out];simp [HLU.out];omega)
     clear hown hown5 hgrow hbl
     go_wp2
     go_roundw
     case rel=>exact ⟨i+1,l+j+1,by omega,by omega,by go_num,HL5,HO5.out,hb5⟩
     case measure=>simp [intOf];omega
  ·obtain rfl:i=N:=by omega
   have HT2:Hid (D.take i=D):=Qa (List.take_of_length_le (by rw [HDL.out];exact Nat.le_refl _))
   rw [HT2.out] at HLU hown
   have HO:=Qa (AMc hown bm.size)
   have BB:=Qc hbl bm.size bm
   clear hown hbl
   go_wp2
   go_ret
   exact ⟨_,rfl,by rw [HLU.out];exact HO.out,BB⟩
theorem Zs (a:Option Addr) (cap B:Nat) (z:List Int) (n:Int) (w:World) (hz:Ints w B a z) (hl:z.length≤1048576) (n1:-9223372036854775808≤n) (n2:n≤9223372036854775807) :
 Calls Tryz.prog 92 #[.slice a z.length cap,.int .i64 n] w fun e w'=>e=.returned (.bool (rOk z n))∧w=w':=by
 have HIT:=Qa (Jc z n)
 obtain ⟨m,hm⟩:∃ m,z.length=m:=⟨_,rfl⟩
 have HN:=Qa hm
 have HZ:=Qa hz
 rw [hm] at hl ⊢
 clear hm hz
 by_cases h1:n<1
 ·have HF:Hid (rOk z n=false):=Qa (QC (fun h=>by have:=HIT.out.1 h;omega))
  go_enter Tryz.func92,Tryz.ntmps92
  go_wp2
  go_ret
  exact ⟨Qk HF.out.symm,rfl⟩
 ·by_cases h2:(256:Int)<n
  ·have HF:Hid (rOk z n=false):=Qa (QC (fun h=>by have:=HIT.out.1 h;omega))
   go_enter Tryz.func92,Tryz.ntmps92
   go_wp2
   go_ret
   exact ⟨Qk HF.out.symm,rfl⟩
  ·by_cases h3:(600:Int)<m
   ·have HF:Hid (rOk z n=false):=Qa (QC (fun h=>by have:=(HIT.out.1 h).2.2.1;rw [HN.out] at this;omega))
    go_enter Tryz.func92,Tryz.ntmps92
    go_wp2
    go_ret
    exact ⟨Qk HF.out.symm,rfl⟩
   ·go_enter Tryz.func92,Tryz.ntmps92
    go_wp2
    go_loopw [6,20] (fun _ sk wr=>∃ k:Nat,k≤m∧sk=.int .i64 k∧Hid (∀ j,j<k→0≤z.getD j 0∧z.getD j 0<n)∧w=wr) (fun _ sk _=>m-(intOf sk).toNat)
    case atStart=>exact ⟨0,by omega,rfl,Qa (fun j hj=>by omega),by first | trivial | rfl⟩
    case round =>
     obtain ⟨k,hk,rfl,HA,rfl⟩:=hrel
     by_cases hlt:k<m
     ·obtain ⟨b,off,rfl,hb,hc⟩:=HZ.out.2.2 (by rw [HN.out];omega)
      have ck:=hc k (by rw [HN.out];exact hlt)
      have HMK:Hid (z.getD k 0∈z):=Qa (XA (by rw [HN.out];exact hlt))
      obtain ⟨x,hx⟩:∃ x,z.getD k 0=x:=⟨_,rfl⟩
      rw [hx] at ck HMK
      have HX:=Qa hx
      clear hx hc
      by_cases hx0:x<0
      ·have HF:Hid (rOk z n=false):=Qa (QC (fun h=>by have:=(HIT.out.1 h).2.2.2 x HMK.out;omega))
       go_wp2
       go_ret
       exact ⟨Qk HF.out.symm,rfl⟩
      ·by_cases hxn:n≤x
       ·have HF:Hid (rOk z n=false):=Qa (QC (fun h=>by have:=(HIT.out.1 h).2.2.2 x HMK.out;omega))
        go_wp2
        go_ret
        exact ⟨Qk HF.out.symm,rfl⟩
       ·have HA2:Hid (∀ j,j<k+1→0≤z.getD j 0∧z.getD j 0<n):=Qa (fun j hj=>by
         rcases Nat.lt_or_ge j k with h | h
         ·exact HA.out j h
         ·rw [show j=k by omega,HX.out];omega)
        go_wp2
        go_roundw
        case rel=>exact ⟨k+1,by omega,by go_num,HA2,by first | trivial | rfl⟩
        case measure=>simp [intOf];omega
     ·have hkm:k=m:=by omega
      subst hkm
      have HT:Hid (rOk z n=true):=Qa (HIT.out.2 ⟨by omega,by omega,by rw [HN.out];omega,fun x hx=>by
       obtain ⟨j,hj,rfl⟩:=yj hx
       exact HA.out j (by rw [←HN.out];exact hj)⟩)
      go_wp2
      go_ret
      exact ⟨Qk HT.out.symm,rfl⟩
theorem AVa (v : Value) (w : World) : (Go.method 357 83 v "loop.example/g00674/impl.encode").run Tryz.prog w = .ok (238, v) w := by kernel_rfl
theorem vz (n:Nat) (w:World) (hn:n≤256) (g:Nat) (hg:w.heap.size=g) :
 Calls Tryz.prog 240 #[.int .i64 n] w fun e w'=>e=.returned (.pointer (some ⟨g,0,none⟩))∧FL w' g w'.heap.size g (List.range n)∧Below g w w':=by
 subst hg
 exact yQ n w hn
theorem ANp (args:Array Value) (W:World):(callFunc 241 args).run Tryz.prog W=.ok (.enter 241 args) W:=by kernel_rfl
theorem ACf (r0:Value) (a:Option Addr) (cap B m:Nat) (L:List Nat) (w:World) (hr0:r0=.agg #[]) (hz:Ints w B a (ints L)) (hB:B≤w.heap.size) (hm2:m≤256) (hL6:L.length≤600) (hLm:∀ x∈L,x<m) :
 Calls Tryz.prog 238 #[r0,.slice a L.length cap,.int .i64 m] w fun e w'=>∃ g,e=.returned (.agg #[.slice none 0 0,.slice (some ⟨g,0,none⟩) L.length L.length])∧w'.ownsRow w.heap.size 3 1 (.slice (some ⟨g,0,none⟩) L.length L.length) L.length (Qe (runF mtfF (List.range m) L))∧Below w.heap.size w w':=by
 subst hr0
 have bb:Below w.heap.size w ((w.alloc (.cells #[] 83)).alloc (.cells #[.slice none 0 0,.slice none 0 0] 87)):=((Below.refl _ _).alloc (Nat.le_refl _) _).alloc (by simp) _
 have hR:=Has.freshAt (w:=w.alloc (.cells #[] 83)) (g:=w.heap.size+1) (by simp) 87 #[.slice none 0 0,.slice none 0 0]
 have hX:((w.alloc (.cells #[] 83)).alloc (.cells #[.slice none 0 0,.slice none 0 0] 87)).heap.size=w.heap.size+2:=by simp
 have HZ:=Qa hz
 have KF:=Qa (fun (W:World) (g:Nat) (hg:W.heap.size=g)=>vz m W hm2 g hg)
 have HP:=Qa (Je.start m)
 obtain ⟨n,hn⟩:∃ n,L.length=n:=⟨_,rfl⟩
 have KE:=Qa (fun (h base E:Nat) (W:World) hz' hB' hbE hE h0=>AUp 241 (.pointer (some ⟨h,0,none⟩)) (fun W s=>FL W base E h s∧Je m s) mtfF base E B a cap L W (List.range m) hz' hB' hbE hE hL6 h0 ANp
  (fun W W' s hs hk=>⟨hs.1.keep hk,hs.2⟩) (fun W s x hs hx=>(ANf base E h m x s W hs.1 hs.2 hm2 (hLm x hx)).mono fun e W' q=>⟨q.1,⟨q.2.1,hs.2.front (hs.2.idx (hLm x hx))⟩,q.2.2⟩))
 rw [hn] at KE ⊢
 clear hz hn
 go_enter Tryz.func238,Tryz.ntmps238
 go_wp2_with fail
 refine (KF.out _ (w.heap.size+2) hX).mono ?_
 rintro e w1 ⟨rfl,hF1,b1⟩
 have s1:w.heap.size+2≤w1.heap.size:=by rw [←hX];exact b1.size
 replace bb:=bb.trans (b1.mono (by omega))
 replace hR:=hR.below b1 (by omega)
 have hz1:=HZ.out.below (bb.mono hB)
 have K2:=Qa (KE.out (w.heap.size+2) (w.heap.size+2) w1.heap.size w1 hz1 (by omega) s1 (Nat.le_refl _) ⟨hF1,HP.out⟩)
 clear hF1 b1 hz1 hX
 go_wp2_with fail
 refine K2.out.mono ?_
 rintro e w2 ⟨g,rfl,hown,b2⟩
 have hs1:w.heap.size≤w1.heap.size:=bb.size
 replace bb:=bb.trans (b2.mono (by omega))
 replace hR:=hR.below b2 (by omega)
 have HO:=Qa (Joins.ownsRow_le hown hs1)
 have hgw:=(hown.lt g rfl).1
 have e0:=hR.cell 0
 have e1:=hR.cell 1
 have g0:=hR.free 0
 have g1:=hR.free 1
 simp at e0 e1
 have hs2:=bb.size
 clear b2 hown
 go_wp2
 refine bodyPost_ret (v:=.agg #[.slice none 0 0,.slice (some ⟨g,0,none⟩) n n]) (by simp [results,Tryz.results238,go_sem,e0,e1,g0,g1]) rfl ⟨g,rfl,?_,?_⟩
 ·exact ownsRow_setCell_other (ownsRow_setCell_other HO.out (by simp [Value.ownBlock];omega) _) (by simp [Value.ownBlock];omega) _
 ·exact (bb.setCell (by simp) _).setCell (by simp) _
theorem vE (n:Int) (w:World) (n1:-9223372036854775808≤n) (n2:n≤9223372036854775807) :
 Calls Tryz.prog 165 #[.int .i64 n] w fun e w'=>e=.returned (.int .i64 (grpZ n))∧w=w':=by
 by_cases h:0≤n∧n≤2000
 ·obtain ⟨m,rfl⟩:∃ m:Nat,n=m:=⟨n.toNat,by omega⟩
  have hZ:Hid (grpZ m=(grp m:Int)):=Qa (by unfold grpZ;rw [if_pos h,Int.toNat_natCast])
  have h2:(m:Int)≤2000:=h.2
  have h3:¬ (2000:Int)<(m:Int):=by omega
  clear h n1 n2
  go_enter Tryz.func165,Tryz.ntmps165
  go_wp2
  go_ret
  refine ⟨QN ?_,rfl⟩
  rw [hZ.out]
  unfold grp
  omega
 ·have hZ:Hid (grpZ n=-1):=Qa (by unfold grpZ;rw [if_neg h])
  by_cases h1:n<0
  ·go_enter Tryz.func165,Tryz.ntmps165
   go_wp2
   go_ret
   exact ⟨QN hZ.out.symm,rfl⟩
  ·have h2:2000<n:=by omega
   clear h
   go_enter Tryz.func165,Tryz.ntmps165
   go_wp2
   go_ret
   exact ⟨QN hZ.out.symm,rfl⟩
theorem jU (at2:Option Addr) (capT B:Nat) (T:List (List Int)) (n:Int) (w:World) (hT:Tabs w B at2 T) (hB:B≤w.heap.size) :
 Calls Tryz.prog 188 #[.slice at2 T.length capT,.int .i64 n] w fun e w'=>e=.returned (.bool (tbOk T n))∧Below w.heap.size w w':=by
 have HIF:=Qa (Xl T n)
 have HT:=Qa hT
 have hTl:=hT.1
 have KT:=Qa (fun W=>XG (T.length:Int) W)
 obtain ⟨M,hM⟩:∃ M,T.length=M:=⟨_,rfl⟩
 have HM:=Qa hM
 obtain ⟨r,hr⟩:∃ r,tbOk T n=r:=⟨_,rfl⟩
 rw [hr] at HIF ⊢
 rw [hM] at hTl HIF KT ⊢
 clear hT hM hr
 by_cases hb:1≤M∧M≤4
 ·have hb2:(1:Int)≤(M:Int)∧(M:Int)≤4:=by omega
  rw [decide_eq_true hb2] at KT
  clear hb2
  obtain ⟨h1,h4⟩:=hb
  go_enter Tryz.func188,Tryz.ntmps188
  go_wp2_with fail
  refine (KT.out _).mono ?_
  rintro e w0 ⟨rfl,rfl⟩
  go_wp2
  go_loopw [6,13] (fun _ si wr=>∃ (i:Nat),i≤M∧si=.int .i64 i∧Hid (∀ j,j<i→((T.getD j []).length:Int)=n∧lOk (T.getD j [])=true)∧Below w.heap.size w wr) (fun _ si _=>M-(intOf si).toNat)
  case atStart=>exact ⟨0,by omega,rfl,Qa (fun j h=>by omega),Below.refl _ _⟩
  case round =>
   obtain ⟨i,hi,rfl,HP,hbl⟩:=hrel
   have hsz:=hbl.size
   by_cases hlt:i<M
   ·obtain ⟨b,off,a2,c2,e,hb,hc,hle,hz⟩:=HT.out.at (i:=i) (by rw [HM.out];exact hlt)
    subst e
    have hc2:wr.cell? ⟨b,off+i,none⟩=some (.slice a2 (T.getD i []).length c2):=(hbl.cell (p:=⟨b,off+i,none⟩) (by simp;omega)).trans hc
    obtain ⟨wa,hwa⟩:∃ wa,wr.alloc (.cells #[.slice a2 (T.getD i []).length c2] 99)=wa:=⟨_,rfl⟩
    have hba:Below w.heap.size w wa:=by rw [←hwa];exact hbl.alloc hsz _
    have K:Hid (Calls Tryz.prog 131 #[.slice a2 (T.getD i []).length c2] wa fun e w'=>e=.returned (.bool (lOk (T.getD i [])))∧wa=w'):=Qa ((VY a2 c2 B (T.getD i []) wa (hz.below ((hba.mono hB)))).mono fun e w' h=>⟨h.1,h.2.symm⟩)
    obtain ⟨z,hz'⟩:∃ z,T.getD i []=z:=⟨_,rfl⟩
    have HZ:=Qa hz'
    rw [hz'] at hc2 hle K hwa
    obtain ⟨L,hL⟩:∃ L,z.length=L:=⟨_,rfl⟩
    have HL:=Qa hL
    rw [hL] at hc2 hle K hwa
    have HP2:Hid (∀ q,lOk z=q→(L:Int)=n→q=true→∀ j,j<i+1→((T.getD j []).length:Int)=n∧lOk (T.getD j [])=true):=Qa (fun q h1 h2 h3 j hj=>by
     by_cases e:j=i
     ·subst e;rw [HZ.out,h1,h3,HL.out];exact ⟨h2,rfl⟩
     ·exact HP.out j (by omega))
    have HF:Hid ((¬ ((L:Int)=n∧lOk z=true))→r=false):=Qa (fun h=>by
     rw [Bool.eq_false_iff]
     intro ht
     have:=(HIF.out.1 ht).2 i hlt
     rw [HZ.out,HL.out] at this
     exact h this)
    have ca:wa.cell? ⟨wr.heap.size,0,none⟩=some (.slice a2 L c2):=by rw [←hwa];exact (Has.fresh wr _ _).cell 0
    clear hz hz' hL hc
    obtain ⟨q,hq⟩:∃ q,lOk z=q:=⟨_,rfl⟩
    rw [hq] at K HF
    replace HP2:=Qa (HP2.out q hq)
    clear hq
    by_cases hn:(L:Int)=n
    ·cases q with
     | true =>
       go_wp2_with fail
       refine K.out.mono ?_
       rintro e w1 ⟨rfl,rfl⟩
       go_wp2
       go_roundw
       case rel=>exact ⟨i+1,by omega,by go_num,Qa (HP2.out hn (by trivial)),hba⟩
       case measure=>simp [intOf];omega
     | false =>
       have hr:r=false:=HF.out (by simp)
       go_wp2_with fail
       refine K.out.mono ?_
       rintro e w1 ⟨rfl,rfl⟩
       go_wp2
       go_ret
       exact ⟨Qk hr.symm,hba⟩
    ·have hr:r=false:=HF.out (fun h=>hn h.1)
     have hn2:((L:Int) != n)=true:=by simpa using hn
     go_wp2
     go_ret
     exact ⟨Qk hr.symm,hba⟩
   ·obtain rfl:i=M:=by omega
    have hr:r=true:=HIF.out.2 ⟨⟨h1,h4⟩,HP.out⟩
    go_wp2
    go_ret
    exact ⟨Qk hr.symm,hbl⟩
 ·have hr:r=false:=by
   rw [Bool.eq_false_iff]
   intro ht
   exact hb (HIF.out.1 ht).1
  have hb2:¬ ((1:Int)≤(M:Int)∧(M:Int)≤4):=by omega
  rw [decide_eq_false hb2] at KT
  clear hb2
  go_enter Tryz.func188,Tryz.ntmps188
  go_wp2_with fail
  refine (KT.out _).mono ?_
  rintro e w0 ⟨rfl,rfl⟩
  go_wp2
  go_ret
  exact ⟨Qk hr.symm,Below.refl _ _⟩
theorem APi {S L:List Int} {A c:Nat} (h:A+c<S.length):bitF S L A (c+1)=bitF S L A c+L.getD (S.getD (A+c) 0).toNat 0:=by
 show bitF S L A c+(if A+c<S.length then _ else 0)=_
 rw [if_pos h]
theorem AGd (al:Option Addr) (cl Bl bg og c A n:Nat) (S L:List Int) (w:World) (hl:Ints w Bl al L) (hL:yT L) (hLn:L.length=n) (hc:c≤10) (hA:A+c≤S.length)
 (hg:∀ j,j<c→w.cell? ⟨bg,og+j,none⟩=some (.int .i64 (S.getD (A+j) 0))) (hs:∀ k,k<S.length→0≤S.getD k 0∧S.getD k 0<(n:Int)) :
 Calls Tryz.prog 161 #[.slice al n cl,.slice (some ⟨bg,og,none⟩) c c] w fun e w'=>e=.returned (.int .i64 (bitF S L A c))∧w=w':=by
 have HB:=Qa (fun c=>YA hL A (S:=S) c)
 have HS:=Qa hs
 have HG:=Qa hg
 have HLL:Hid (∀ k,k<n→0≤L.getD k 0∧L.getD k 0≤20):=Qa (by rw [←hLn];exact hL)
 have HST:=Qa (fun i (h:A+i<S.length)=>APi (L:=L) h)
 have HZ:=Qa hl
 have HN:=Qa hLn
 obtain ⟨N,hN⟩:∃ N,S.length=N:=⟨_,rfl⟩
 rw [hN] at HS hA HST
 clear hl hL hLn hg hs hN
 go_enter Tryz.func161,Tryz.ntmps161
 go_wp2
 go_loop [5,7,10] (fun sv _ si=>∃ (i:Nat) (z:Int),i≤c∧si=.int .i64 i∧sv=.int .i64 z∧Hid (bitF S L A i=z)) (fun _ _ si=>c-(intOf si).toNat)
 case atStart=>exact ⟨0,0,by omega,rfl,rfl,Qa rfl⟩
 case round =>
  obtain ⟨i,z,hi,rfl,rfl,HZi⟩:=hrel
  have hr:=HB.out i
  rw [HZi.out] at hr
  by_cases h1:i<c
  ·obtain ⟨x,hx⟩:∃ x:Nat,S.getD (A+i) 0=(x:Int):=⟨(S.getD (A+i) 0).toNat,by have:=(HS.out (A+i) (by omega)).1;omega⟩
   have hxM:x<n:=by have:=(HS.out (A+i) (by omega)).2;omega
   obtain ⟨b2,off2,rfl,hb2,hcell2⟩:=HZ.out.2.2 (by rw [HN.out];omega)
   have c1:=HG.out i h1
   have c2:=hcell2 x (by rw [HN.out];exact hxM)
   rw [hx] at c1
   have hl2:=HLL.out x hxM
   have e:=HST.out i (by omega)
   rw [hx,Int.toNat_natCast,HZi.out] at e
   obtain ⟨y,hy⟩:∃ y,L.getD x 0=y:=⟨_,rfl⟩
   rw [hy] at c2 hl2 e
   have HE:=Qa e
   clear hcell2 hx hy e
   go_wp2
   go_round
   case rel=>exact ⟨i+1,z+y,by omega,by go_num,rfl,HE⟩
   case measure=>simp [intOf];omega
  ·obtain rfl:i=c:=by omega
   go_wp2
   go_ret
   exact ⟨QN HZi.out.symm,rfl⟩
def AVz (s:ByteArray) (a k n:Nat):Prop:=n<k∧a+n+1≤8*s.size∧(∀ i,i<n→bit s (a+i)=1)∧bit s (a+n)=0
def Unas (s:ByteArray) (k:Nat):Nat→List Nat→Nat→Prop
 | a,[],c=>c=a
 | a,n::D,c=>AVz s a k n∧Unas s k (a+n+1) D c
theorem Unas.snoc {s:ByteArray} {k n:Nat}:∀ {D:List Nat} {a c:Nat},Unas s k a D c→AVz s c k n→Unas s k a (D++[n]) (c+n+1)
 | [],a,c,h,h2=>by
   obtain rfl:c=a:=h
   exact ⟨h2,rfl⟩
 | m::D,a,c,h,h2=>⟨h.1,h.2.snoc h2⟩
theorem Unas.lt {s:ByteArray} {k:Nat}:∀ {D:List Nat} {a c:Nat},Unas s k a D c→∀ x∈D,x<k
 | [],_,_,_,x,hx=>by simp at hx
 | n::D,a,c,h,x,hx=>by
   rcases List.mem_cons.1 hx with rfl | hx
   ·exact h.1.1
   ·exact h.2.lt x hx
theorem Unas.take {s:ByteArray} {k:Nat}:∀ {D:List Nat} {a c:Nat} (i:Nat),Unas s k a D c→∃ d,Unas s k a (D.take i) d
 | D,a,_,0,_=>⟨a,rfl⟩
 | [],a,c,i+1,h=>⟨c,h⟩
 | n::D,a,c,i+1,h=>by
   obtain ⟨d,hd⟩:=h.2.take i
   exact ⟨d,h.1,hd⟩
end Go.Proofs.YtembljihmnmmfaaGreat
