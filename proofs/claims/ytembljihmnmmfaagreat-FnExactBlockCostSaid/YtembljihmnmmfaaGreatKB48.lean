/- Texts of the proof, merged. -/
import Derived.Test.YtembljihmnmmfaaGreatKB31
import Derived.Test.YtembljihmnmmfaaGreatKB24
import Derived.Test.YtembljihmnmmfaaGreatKB30
import Derived.Test.YtembljihmnmmfaaGreatKB36
namespace Go.Proofs.YtembljihmnmmfaaGreat
set_option maxHeartbeats 4000000
set_option maxRecDepth 100000
set_option linter.unusedVariables false
set_option linter.unusedSimpArgs false
open Go.RowKit
theorem AWg (T:List (List Int)) (G:List Int):gdOk T G=(tbOk T (tbN T) && rOk G T.length):=by
 rw [Bool.eq_iff_iff,jP,Bool.and_eq_true,Jc,QZ,Xl]
 constructor
 ·rintro ⟨⟨⟨h1,h2⟩,h3⟩,h4,h5,h6⟩
  refine ⟨⟨⟨h1,h2⟩,h3⟩,by omega,by omega,h4,fun x hx=>?_⟩
  obtain ⟨k,hk,e⟩:=List.getElem_of_mem hx
  have:=h6 k hk
  rw [List.getD_eq_getElem?_getD,List.getElem?_eq_getElem hk,Option.getD_some,e] at this
  exact this
 ·rintro ⟨⟨⟨h1,h2⟩,h3⟩,_,_,h4,h5⟩
  exact ⟨⟨⟨h1,h2⟩,h3⟩,h4,by omega,fun k hk=>h5 _ (XA hk)⟩
theorem AWi (S:List Int) (T:List (List Int)) (G:List Int):cdOk S T G=(gdOk T G && (Zi (tbN T) S && decide ((G.length:Int)=grpZ (S.length:Int)))):=by
 rw [Bool.eq_iff_iff,qP,Bool.and_eq_true,Bool.and_eq_true,jP,decide_eq_true_eq,XR,QZ (tbN T) S]
 constructor
 ·rintro ⟨h1,⟨h2,h3,h4⟩,h5,h6⟩
  have hg:grpZ (S.length:Int)=(grp S.length:Int):=by unfold grpZ;rw [if_pos (by omega),Int.toNat_natCast]
  refine ⟨⟨h1,?_,h6⟩,⟨h3,h4⟩,by rw [hg,h5]⟩
  rw [h5];unfold grp;omega
 ·rintro ⟨⟨h1,h2,h3⟩,⟨h4,h5⟩,h6⟩
  have hg:grpZ (S.length:Int)=(grp S.length:Int):=by unfold grpZ;rw [if_pos (by omega),Int.toNat_natCast]
  rw [hg] at h6
  obtain ⟨⟨h7,h8⟩,h9⟩:=(Xl _ _).1 h1
  have hl:=Zq ((h9 0 (by omega)).2)
  have e:tbN T=(T.getD 0 []).length:=rfl
  exact ⟨h1,⟨⟨by rw [e];have:=hl.1;omega,by rw [e];have:=hl.2.1;omega⟩,h4,h5⟩,by omega,h3⟩
theorem AFy (at2 a3:Option Addr) (capT cap3 B:Nat) (T:List (List Int)) (G:List Int) (w:World) (hT:Tabs w B at2 T) (hz3:Ints w B a3 G) (hB:B≤w.heap.size) (hT6:T.length≤1048576) (hG6:G.length≤1048576) :
 Calls Tryz.prog 164 #[.slice at2 T.length capT,.slice a3 G.length cap3] w fun e w'=>e=.returned (.bool (gdOk T G))∧Below w.heap.size w w':=by
 have HDF:=Qa (AWg T G)
 by_cases h0:T.length=0
 ·have hF:gdOk T G=false:=by
   rw [HDF.out]
   have:tbOk T (tbN T)=false:=by rw [Bool.eq_false_iff,Ne,Xl];omega
   rw [this];rfl
  rw [h0,hF]
  clear hz3 HDF hF hG6
  go_enter Tryz.func164,Tryz.ntmps164
  go_wp2
  go_ret
  exact ⟨rfl,Below.refl _ _⟩
 ·obtain ⟨b,off,a2,c2,e,hb,hc,hle,hz0⟩:=hT.at (i:=0) (by omega)
  subst e
  rw [Nat.add_zero] at hc
  have hN:(T.getD 0 []).length=tbN T:=rfl
  rw [hN] at hc hle
  have K1:=Qa (jU (some ⟨b,off,none⟩) capT B T (tbN T) w hT hB)
  have K2:Hid (∀ W,Below w.heap.size w W→Calls Tryz.prog 92 #[.slice a3 G.length cap3,.int .i64 T.length] W fun e w'=>e=.returned (.bool (rOk G T.length))∧Below W.heap.size W w'):=Qa (fun W hW=>(Zs a3 cap3 B G T.length W (hz3.below (hW.mono hB)) hG6 (by omega) (by omega)).mono fun e w' h=>⟨h.1,by first | (rw [h.2];exact Below.refl _ _) | (rw [←h.2];exact Below.refl _ _)⟩)
  have hM0:(0:Int)<(T.length:Int):=by omega
  obtain ⟨n,hn⟩:∃ n,tbN T=n:=⟨_,rfl⟩
  obtain ⟨M,hM⟩:∃ M,T.length=M:=⟨_,rfl⟩
  obtain ⟨Q,hQ⟩:∃ Q,G.length=Q:=⟨_,rfl⟩
  rw [hn] at hc hle K1 HDF
  rw [hM] at K1 K2 HDF h0 hM0 hT6 ⊢
  rw [hQ] at K2 hG6 ⊢
  clear hT hz3 hz0 hN hn hM hQ
  obtain ⟨r,hr⟩:∃ r,gdOk T G=r:=⟨_,rfl⟩
  obtain ⟨t1,ht1⟩:∃ t,tbOk T (n:Int)=t:=⟨_,rfl⟩
  obtain ⟨t2,ht2⟩:∃ t,rOk G (M:Int)=t:=⟨_,rfl⟩
  rw [hr,ht1,ht2] at HDF
  rw [ht1] at K1
  rw [ht2] at K2
  rw [hr]
  clear hr ht1 ht2
  cases t1 with
  | false =>
    have hF:r=false:=by rw [HDF.out];rfl
    subst hF
    clear HDF
    go_enter Tryz.func164,Tryz.ntmps164
    go_wp2_with fail
    refine K1.out.mono ?_
    rintro e w1 ⟨rfl,b1⟩
    go_wp2
    go_ret
    exact ⟨rfl,b1⟩
  | true =>
    have hF:r=t2:=by rw [HDF.out];simp
    subst hF
    clear HDF
    go_enter Tryz.func164,Tryz.ntmps164
    go_wp2_with fail
    refine K1.out.mono ?_
    rintro e w1 ⟨rfl,b1⟩
    go_wp2_with fail
    refine (K2.out _ b1).mono ?_
    rintro e w2 ⟨rfl,b2⟩
    have b3:=b1.trans (b2.mono b1.size)
    go_wp2
    go_ret
    exact ⟨rfl,b3⟩
theorem AIc (a at2 a3:Option Addr) (cap capT cap3 B:Nat) (S G:List Int) (T:List (List Int)) (w:World) (hz:Ints w B a S) (hT:Tabs w B at2 T) (hz3:Ints w B a3 G) (hB:B≤w.heap.size) (hS6:S.length≤1048576) (hT6:T.length≤1048576) (hG6:G.length≤1048576) :
 Calls Tryz.prog 132 #[.slice a S.length cap,.slice at2 T.length capT,.slice a3 G.length cap3] w fun e w'=>e=.returned (.bool (cdOk S T G))∧Below w.heap.size w w':=by
 have HDF:=Qa (AWi S T G)
 have K1:=Qa (AFy at2 a3 capT cap3 B T G w hT hz3 hB hT6 hG6)
 cases hg1:gdOk T G with
 | false =>
   have hF:cdOk S T G=false:=by rw [HDF.out,hg1];rfl
   rw [hF]
   rw [hg1] at K1
   obtain ⟨M,hM⟩:∃ M,T.length=M:=⟨_,rfl⟩
   obtain ⟨Q,hQ⟩:∃ Q,G.length=Q:=⟨_,rfl⟩
   obtain ⟨N,hN⟩:∃ N,S.length=N:=⟨_,rfl⟩
   rw [hM,hQ] at K1
   rw [hM,hQ,hN]
   clear hz hT hz3 HDF hF hg1 hM hQ hN hS6 hT6 hG6
   go_enter Tryz.func132,Tryz.ntmps132
   go_wp2_with fail
   refine K1.out.mono ?_
   rintro e w1 ⟨rfl,b1⟩
   go_wp2
   go_ret
   exact ⟨rfl,b1⟩
 | true =>
   obtain ⟨htb,_,_⟩:=(jP T G).1 hg1
   obtain ⟨⟨ht1,ht4⟩,htl⟩:=(Xl _ _).1 htb
   have hl0:=Zq ((htl 0 (by omega)).2)
   have hnn:tbN T≤260:=hl0.2.1
   obtain ⟨b,off,a2,c2,e,hb,hc,hle,hz0⟩:=hT.at (i:=0) (by omega)
   subst e
   rw [Nat.add_zero] at hc
   have hN:(T.getD 0 []).length=tbN T:=rfl
   rw [hN] at hc hle
   have HC:Hid (∀ W,Below w.heap.size w W→W.cell? ⟨b,off,none⟩=some (.slice a2 (tbN T) c2)):=Qa (fun W hW=>(hW.cell (p:=⟨b,off,none⟩) (by simp;omega)).trans hc)
   have K2:Hid (∀ W,Below w.heap.size w W→Calls Tryz.prog 124 #[.slice a S.length cap,.int .i64 (tbN T)] W fun e w'=>e=.returned (.bool (Zi (tbN T) S))∧W=w'):=Qa (fun W hW=>(ABb a cap B (tbN T) S W (hz.below (hW.mono hB)) (by omega)).mono fun e w' h=>⟨h.1,h.2.symm⟩)
   have K3:=Qa (fun W=>vE (S.length:Int) W (by omega) (by omega))
   rw [hg1] at K1 HDF
   have hM0:(0:Int)<(T.length:Int):=by omega
   obtain ⟨n,hn⟩:∃ n,tbN T=n:=⟨_,rfl⟩
   obtain ⟨M,hM⟩:∃ M,T.length=M:=⟨_,rfl⟩
   obtain ⟨Q,hQ⟩:∃ Q,G.length=Q:=⟨_,rfl⟩
   obtain ⟨N,hN2⟩:∃ N,S.length=N:=⟨_,rfl⟩
   obtain ⟨z,hz2⟩:∃ z,grpZ (S.length:Int)=z:=⟨_,rfl⟩
   rw [hz2] at K3 HDF
   rw [hn] at hle HC K2 HDF hnn
   rw [hM] at K1 hM0 ht1 ht4 ⊢
   rw [hQ] at K1 HDF hG6 ⊢
   rw [hN2] at K2 K3 hS6 ⊢
   clear hz hT hz3 hz0 hN hn hM hQ hN2 hz2 htb htl hl0 hg1 hc
   obtain ⟨r,hr⟩:∃ r,cdOk S T G=r:=⟨_,rfl⟩
   obtain ⟨t2,ht2⟩:∃ t,Zi n S=t:=⟨_,rfl⟩
   rw [hr,ht2] at HDF
   rw [ht2] at K2
   rw [hr]
   clear hr ht2
   cases t2 with
   | false =>
     have hF:r=false:=by rw [HDF.out];rfl
     subst hF
     clear HDF
     go_enter Tryz.func132,Tryz.ntmps132
     go_wp2_with fail
     refine K1.out.mono ?_
     rintro e w1 ⟨rfl,b1⟩
     have c0:=HC.out _ b1
     go_wp2_with fail
     refine (K2.out _ b1).mono ?_
     rintro e w2 ⟨rfl,rfl⟩
     go_wp2
     go_ret
     exact ⟨rfl,b1⟩
   | true =>
     have hF:Hid (r=decide ((Q:Int)=z)):=Qa (by rw [HDF.out];simp)
     clear HDF
     go_enter Tryz.func132,Tryz.ntmps132
     go_wp2_with fail
     refine K1.out.mono ?_
     rintro e w1 ⟨rfl,b1⟩
     have c0:=HC.out _ b1
     go_wp2_with fail
     refine (K2.out _ b1).mono ?_
     rintro e w2 ⟨rfl,rfl⟩
     go_wp2_with fail
     refine (K3.out _).mono ?_
     rintro e w3 ⟨rfl,rfl⟩
     go_wp2
     go_ret
     refine ⟨Qk ?_,b1⟩
     rw [hF.out]
     first | rfl | (rw [Bool.eq_iff_iff];simp)
theorem Ints.place {w:World} {B:Nat} {a:Option Addr} {S:List Int} (h:Ints w B a S):∃ b off,(0<S.length→a=some ⟨b,off,none⟩)∧(0<S.length→b<B)∧∀ j,j<S.length→w.cell? ⟨b,off+j,none⟩=some (.int .i64 (S.getD j 0)):=by
 rcases Nat.eq_zero_or_pos S.length with h0 | h0
 ·exact ⟨0,0,fun h=>by omega,fun h=>by omega,fun j hj=>by omega⟩
 ·obtain ⟨b,off,e,hb,hc⟩:=h.2.2 h0
  exact ⟨b,off,fun _=>e,fun _=>hb,hc⟩
theorem yW {w:World} {base n c b off len:Nat} {a:Option Addr} (h:w.ownsRow base 24 1 (.slice a n c) n (chVs b off len)) (hn:n=grp len):∀ g,g<n→∃ gb,a=some ⟨gb,0,none⟩∧w.cell? ⟨gb,g,none⟩=some (chV b off len g):=by
 intro g hg
 rcases h.2 with ⟨_,h0⟩ | ⟨g2,cap2,cur,hv,_,hcur,_⟩
 ·omega
 ·simp only [Value.slice.injEq] at hv
  obtain ⟨rfl,_,rfl⟩:=hv
  refine ⟨g2,rfl,?_⟩
  have:=h.cellAt g (by omega)
  rw [this]
  unfold chVs
  rw [List.getElem?_map,List.getElem?_range (by omega)]
  rfl
theorem AQh {S L:List Int} {g m:Nat} (hm:min 10 (S.length-10*g)=m):bitG S L g=bitF S L (10*g) m:=by
 unfold bitG
 by_cases h:10*g+10≤S.length
 ·have:m=10:=by omega
  rw [this]
 ·by_cases h2:10*g≤S.length
  ·have h3:=qS (S:=S) (l:=L) (a:=10*g) (c:=m) (by omega) (10-m)
   rw [show m+(10-m)=10 by omega] at h3
   exact h3
  ·have h3:=qS (S:=S) (l:=L) (a:=10*g) (c:=m) (by omega) (10-m)
   rw [show m+(10-m)=10 by omega] at h3
   exact h3
def qr (W:World) (gc:Nat) (v:Value) (ls:List Int):Prop:=∃ gk ck,v=.slice (some ⟨gk,0,none⟩) ls.length ck∧gc<gk∧gk<W.heap.size∧ls.length≤ck∧∀ x,x<ls.length→W.cell? ⟨gk,x,none⟩=some (.int .i64 (cdF ls x:Int))
theorem qr.keep {W W':World} {gc:Nat} {v:Value} {ls:List Int} (h:qr W gc v ls) (hs:W.heap.size≤W'.heap.size) (hk:∀ b,gc<b→b<W.heap.size→W'.heap[b]? = W.heap[b]?):qr W' gc v ls:=by
 obtain ⟨gk,ck,e,h1,h2,h3,h4⟩:=h
 exact ⟨gk,ck,e,h1,by omega,h3,fun x hx=>(World.cell?_of_block (hk gk h1 h2)).trans (h4 x hx)⟩
def JV (W:World) (gc:Nat) (T:List (List Int)) (i:Nat):Prop:=∃ V:List Value,V.length=T.length∧Has W gc 24 V.toArray∧∀ k,k<i→qr W gc (V.getD k undef) (T.getD k [])
theorem JV.below {W W':World} {gc i:Nat} {T:List (List Int)} (h:JV W gc T i) (hb:Below W.heap.size W W'):JV W' gc T i:=by
 obtain ⟨V,h1,h2,h3⟩:=h
 exact ⟨V,h1,h2.below hb h2.lt,fun k hk=>(h3 k hk).keep hb.size (fun b _ hb2=>hb.block b hb2)⟩
theorem JV.store {W:World} {gc i:Nat} {T:List (List Int)} {v:Value} (h:JV W gc T i) (hi:i<T.length) (hv:qr W gc v (T.getD i [])):JV (W.setCell ⟨gc,i,none⟩ v) gc T (i+1):=by
 obtain ⟨V,h1,h2,h3⟩:=h
 have hkeep:∀ b,gc<b→b<W.heap.size→(W.setCell ⟨gc,i,none⟩ v).heap[b]? = W.heap[b]?:=fun b hb _=>Below.heap_setCell W ⟨gc,i,none⟩ v b (by simp;omega)
 have hsz:W.heap.size≤(W.setCell ⟨gc,i,none⟩ v).heap.size:=by simp [World.setCell]
 refine ⟨V.set i v,by rw [List.length_set,h1],?_,fun k hk=>?_⟩
 ·have:=h2.store i v
  rwa [List.setIfInBounds_toArray] at this
 ·by_cases e:k=i
  ·subst e
   have e1:(V.set k v).getD k undef=v:=by simp [List.getD_eq_getElem?_getD,h1,hi]
   rw [e1];exact hv.keep hsz hkeep
  ·have e1:(V.set i v).getD k undef=V.getD k undef:=by simp [List.getD_eq_getElem?_getD,List.getElem?_set,Ne.symm e]
   rw [e1];exact (h3 k (by omega)).keep hsz hkeep
theorem JV.at {W:World} {gc i k:Nat} {T:List (List Int)} (h:JV W gc T i) (hk:k<i) (hi:i≤T.length):∃ gk ck,W.cell? ⟨gc,k,none⟩=some (.slice (some ⟨gk,0,none⟩) (T.getD k []).length ck)∧gc<gk∧gk<W.heap.size∧(T.getD k []).length≤ck∧∀ x,x<(T.getD k []).length→W.cell? ⟨gk,x,none⟩=some (.int .i64 (cdF (T.getD k []) x:Int)):=by
 obtain ⟨V,h1,h2,h3⟩:=h
 obtain ⟨gk,ck,e,h4,h5,h6,h7⟩:=h3 k hk
 refine ⟨gk,ck,?_,h4,h5,h6,h7⟩
 rw [h2.cell k,List.getElem?_toArray,←e,List.getD_eq_getElem?_getD,List.getElem?_eq_getElem (by omega)]
 rfl
theorem AIw (n:Nat):(madeCells #[Value.slice none 0 0] n).toList=List.replicate n (.slice none 0 0):=by
 rw [toList_madeCells_one]
theorem ANt (n:Nat):madeCells #[Value.slice none 0 0] n=(List.replicate n (Value.slice none 0 0)).toArray:=by
 have h:=AIw n
 rw [←h]
theorem AYg (m:Nat) (hm:m≤1048576) (w:World):(Instr.makeSlice 124 (.int .i64 (m:Int)) (.int .i64 (m:Int))).run Tryz.prog w=.ok (.slice (some ⟨w.heap.size,0,none⟩) m m) (w.alloc (.cells (List.replicate m (Value.slice none 0 0)).toArray 24)):=by
 obtain ⟨i,hi,h1,h2,h3⟩:=info_parts AKt
 have:=run_make (P:=Tryz.prog) w 124 24 i (.slice none 0 0) Tryz.underlying124 hi h1 .i64 .i64 m m (by omega) (Int.le_refl _) (by rw [h3];omega) (by omega)
 have hz:(Value.slice none 0 0).cells=#[Value.slice none 0 0]:=rfl
 simp only [Int.toNat_natCast,h2,Nat.mul_one,hz,ANt] at this
 exact this
theorem AUv {S G:List Int} {T:List (List Int)} {g j k x:Nat} (hj:j<10) (hg:G.getD g 0=(k:Int)) (hx:S.getD (10*g+j) 0=(x:Int)):cpF S T G (10*g+j+1)=cpF S T G (10*g+j)++Qh (cdF (T.getD k []) x) (lnF (T.getD k []) x):=by
 show cpF S T G (10*g+j)++qw (Jk T G (10*g+j)) (S.getD (10*g+j) 0).toNat=_
 unfold Jk qw
 rw [show (10*g+j) / 10=g by omega,hg,hx,Int.toNat_natCast,Int.toNat_natCast]
theorem yk (a at2 a3:Option Addr) (cap capT cap3 B:Nat) (S G:List Int) (T:List (List Int)) (w:World) (hz:Ints w B a S) (hT:Tabs w B at2 T) (hz3:Ints w B a3 G) (hB:B≤w.heap.size) (hS1:S.length≤cap) (hct:T.length≤capT) (hok:cdOk S T G=true) :
 Calls Tryz.prog 86 #[.slice a S.length cap,.slice at2 T.length capT,.slice a3 G.length cap3] w fun e w'=>∃ D,Packs D (cpF S T G S.length)∧e=.returned (.tuple #[.agg #[.string (Qg D),.int .i64 (cpN S T G S.length:Int)],.bool true])∧Below w.heap.size w w':=by
 obtain ⟨hTab,h1,h4,hn1,hn2,hGl,hG,hlk⟩:=AEq hok
 have hArg:=Vf hok
 have hSl:=hTab.2.2
 have hq:G.length≤200:=by rw [hGl];unfold grp;omega
 have KO:=Qa (fun W (hW:Below w.heap.size w W)=>AIc a at2 a3 cap capT cap3 B S G T W (hz.below (hW.mono hB)) (hT.below (hW.mono hB)) (hz3.below (hW.mono hB)) (by have:=hW.size;omega) (by omega) (by omega) (by omega))
 rw [hok] at KO
 have bb:Below w.heap.size w (w.alloc (.cells #[.string ⟨#[]⟩,.int .i64 0] 32)):=(Below.refl _ _).alloc (Nat.le_refl _) _
 have hR:=Has.fresh w 32 #[.string ⟨#[]⟩,.int .i64 0]
 obtain ⟨b,off,ha,hbB,hcS⟩:=hz.place
 have KG:=Qa (fun W=>zI a b off S.length cap W (by omega) hS1 ha)
 have K4:=Qa (fun (W:World)=>Zw ⟨#[]⟩ 0 W (by decide))
 have HTL:Hid (∀ i,i<T.length→∃ tb tq at4 ct4,at2=some ⟨tb,tq,none⟩∧tb<B∧w.cell? ⟨tb,tq+i,none⟩=some (.slice at4 (tbN T) ct4)∧tbN T≤ct4∧Ints w B at4 (T.getD i [])∧(T.getD i []).length=tbN T∧lOk (T.getD i [])=true):=Qa (fun i hi=>by
  obtain ⟨tb,tq,at4,ct4,e,htb,hc,hle,hzi⟩:=hT.at hi
  have hl:=(hArg.tab i hi).1
  rw [hl] at hc hle
  exact ⟨tb,tq,at4,ct4,e,htb,hc,hle,hzi,hl,hlk i hi⟩)
 have HLN:Hid (∀ i,i<T.length→∀ x,x<tbN T→(T.getD i []).getD x 0=(lnF (T.getD i []) x:Int)∧1≤lnF (T.getD i []) x∧lnF (T.getD i []) x≤20∧cdF (T.getD i []) x<2^lnF (T.getD i []) x):=Qa (fun i hi x hx=>by
  have hr:=Zq (hlk i hi)
  have hx2:x<(T.getD i []).length:=by rw [(hArg.tab i hi).1];exact hx
  exact ⟨YQ hr x hx2,(Zk hr x hx2).1,(Zk hr x hx2).2,ARl (hlk i hi) x hx2⟩)
 have HCP:=Qa (fun i h=>zF hArg i h)
 have HCL:=Qa (fun i=>qd S T G i)
 have HSTEP:=Qa (fun (g j k x:Nat) (hj:j<10) (hg:G.getD g 0=(k:Int)) (hx:S.getD (10*g+j) 0=(x:Int))=>AUv (T:=T) hj hg hx)
 have HG:=Qa hG
 have HSY:=Qa hArg.sym
 have HC0:Hid (∀ W:World,JV (W.alloc (.cells (List.replicate T.length (Value.slice none 0 0)).toArray 24)) W.heap.size T 0):=Qa (fun W=>⟨List.replicate T.length (Value.slice none 0 0),by simp,Has.fresh W _ _,fun k hk=>by omega⟩)
 obtain ⟨Q,hQ⟩:∃ Q,G.length=Q:=⟨_,rfl⟩
 obtain ⟨M,hM⟩:∃ M,T.length=M:=⟨_,rfl⟩
 obtain ⟨N,hN⟩:∃ N,S.length=N:=⟨_,rfl⟩
 have HN:=Qa hN
 have HM:=Qa hM
 have HQ:=Qa hQ
 have HCPN:Hid (cpN S T G N=cpN S T G S.length):=Qa (by rw [hN])
 rw [hQ] at KO HG hq hGl ⊢
 rw [hM] at KO HG h1 h4 hct HTL HLN HC0 ⊢
 rw [hN] at KO KG HCP hGl hbB hcS hS1 hSl HSY ⊢
 have HQN:=Qa hGl
 rw [←hGl] at KG
 obtain ⟨n,hn⟩:∃ n,tbN T=n:=⟨_,rfl⟩
 rw [hn] at HTL HLN HSY hn1 hn2
 have HZ3:=Qa hz3
 have HCS:=Qa hcS
 clear hz hT hz3 hok hTab hG hGl hlk hArg hQ hM hN hn ha hcS
 go_enter Tryz.func86,Tryz.ntmps86
 go_wp2_with fail
 refine (KO.out _ bb).mono ?_
 rintro e w1 ⟨rfl,b1⟩
 replace bb:=Qc b1 bb.size bb
 replace hR:=hR.below b1 hR.lt
 have hs1:=bb.size
 have hRl:=hR.lt
 have hmk:=AYg M (by omega) w1
 have hC0:=HC0.out w1
 obtain ⟨gc,hgc⟩:∃ gc,w1.heap.size=gc:=⟨_,rfl⟩
 obtain ⟨w2,hw2⟩:∃ w2,w1.alloc (.cells (List.replicate M (Value.slice none 0 0)).toArray 24)=w2:=⟨_,rfl⟩
 have hR2:=hR.alloc (.cells (List.replicate M (Value.slice none 0 0)).toArray 24)
 have bb2:=bb.alloc hs1 (.cells (List.replicate M (Value.slice none 0 0)).toArray 24)
 have hs2:w2.heap.size=gc+1:=by rw [←hw2,←hgc];simp
 rw [hw2] at hmk hC0 hR2 bb2
 rw [hgc] at hmk hC0 hRl hs1
 clear b1 hR hw2 bb KO HC0
 go_wp2
 go_loopw [9,26] (fun _ si wr=>∃ (i:Nat),i≤M∧si=.int .i64 i∧Hid (JV wr gc T i)∧Hid (Has wr w.heap.size 32 #[.string ⟨#[]⟩,.int .i64 0])∧Below w.heap.size w wr∧gc+1≤wr.heap.size) (fun _ si _=>M-(intOf si).toNat)
 case atStart=>exact ⟨0,by omega,rfl,Qa hC0,Qa hR2,bb2,by omega⟩
 case round =>
  clear hC0 hR2 bb2 hmk
  obtain ⟨i,hi2,rfl,HC,HR,hbl,hgs⟩:=hrel
  by_cases hlt:i<M
  ·obtain ⟨tb,tq,at4,ct4,e4,htb,ck,hck,zk,hln,hlo⟩:=HTL.out i hlt
   have hsz:=hbl.size
   have ck:=(hbl.cell (p:=⟨tb,tq+i,none⟩) (by simp;omega)).trans ck
   have K5:=Qa (AId at4 ct4 B (T.getD i []) wr (zk.below (hbl.mono hB)) (by omega) hlo)
   rw [hln] at K5
   have HLN2:=Qa hln
   clear zk hln hlo
   subst e4
   go_wp2_with fail
   refine K5.out.mono ?_
   rintro e w5 ⟨v,rfl,hown,b5⟩
   obtain ⟨gk,ckk,hv⟩:=Joins.ownsRow_form hown (by omega)
   subst hv
   have hgk:=hown.lt gk rfl
   have hle5:=Yk hown
   have HC5:=HC.out.below b5
   have hrow:qr w5 gc (.slice (some ⟨gk,0,none⟩) n ckk) (T.getD i []):=by
    refine ⟨gk,ckk,by rw [HLN2.out],by omega,hgk.2,by rw [HLN2.out];exact hle5,fun x hx=>?_⟩
    rw [HLN2.out] at hx
    rw [hown.cellAt x (by omega),Qw _ _ x hx]
   have hC7:=Qa (HC5.store (by rw [HM.out];exact hlt) hrow)
   obtain ⟨V5,hV5,hHas5,_⟩:=HC5
   have d0:=hHas5.cell i
   have f0:=hHas5.free i
   rw [List.getElem?_toArray,List.getElem?_eq_getElem (by rw [hV5,HM.out];exact hlt)] at d0
   have hRb:=HR.out.below b5 (by omega)
   have hR7:=Qa (hRb.storeAway (p:=⟨gc,i,none⟩) (by simp;omega) (.slice (some ⟨gk,0,none⟩) n ckk))
   have bl5:=Qc b5 hsz hbl
   have bl7:=bl5.setCell (p:=⟨gc,i,none⟩) (by simp;omega) (.slice (some ⟨gk,0,none⟩) n ckk)
   have hs5:=b5.size
   clear hown b5 hbl hRb hHas5 hrow K5 bl5
   go_wp2
   go_roundw
   case rel=>exact ⟨i+1,by omega,by go_num,hC7,hR7,bl7,by simp [World.setCell];omega⟩
   case measure=>simp [intOf];omega
  ·obtain rfl:i=M:=by omega
   have hC:=HC.out
   have hR:=HR.out
   have hs3:=hbl.size
   go_wp2_with fail
   refine (K4.out _).mono ?_
   rintro e w4 ⟨gw,rfl,hW4,hg4,b4⟩
   have bb4:=Qc b4 hs3 hbl
   have hR4:=hR.below b4 (by omega)
   have hC4:=hC.below b4
   have hs34:=b4.size
   have hgl4:=hW4.lt
   rw [show row ⟨#[]⟩ 0 0=cpF S T G 0 from rfl] at hW4
   obtain ⟨base,hbase⟩:∃ base,wr.heap.size=base:=⟨_,rfl⟩
   have hCB:Hid (∀ k,k<i→∃ gk ck,w4.cell? ⟨gc,k,none⟩=some (.slice (some ⟨gk,0,none⟩) n ck)∧gk<base∧n≤ck∧∀ x,x<n→w4.cell? ⟨gk,x,none⟩=some (.int .i64 (cdF (T.getD k []) x:Int))):=Qa (fun k hk=>by
    obtain ⟨gk,ck,e1,e2,e3,e4,e5⟩:=hC.at hk (by rw [HM.out];exact Nat.le_refl _)
    obtain ⟨_,_,_,_,_,_,_,_,_,hln,_⟩:=HTL.out k hk
    rw [hln] at e1 e4 e5
    exact ⟨gk,ck,(b4.cell (p:=⟨gc,k,none⟩) (by simp;omega)).trans e1,by omega,e4,fun x hx=>(b4.cell (p:=⟨gk,x,none⟩) (by simp;omega)).trans (e5 x hx)⟩)
   rw [hbase] at hW4 hg4 hs34 hs3 hgs
   clear hC hC4 b4 hR hbl
   go_wp2_with fail
   refine (KG.out _).mono ?_
   rintro e w5 ⟨v,rfl,o5,b5⟩
   obtain ⟨av,cv,hv⟩:=Qq o5
   subst hv
   have hcv:=Yk o5
   have hOG:Hid (∀ W,QG gw w5 W→∀ g,g<Q→∃ gb,av=some ⟨gb,0,none⟩∧W.cell? ⟨gb,g,none⟩=some (chV b off N g)):=Qa (fun W hW g hg=>by
    obtain ⟨gb,e1,e2⟩:=yW o5 HQN.out g hg
    subst e1
    refine ⟨gb,rfl,?_⟩
    have hlt:=o5.lt gb rfl
    rcases o5.2 with ⟨_,h0⟩ | ⟨g2,cap2,cur,hv2,_,hcur,_⟩
    ·omega
    ·simp only [Value.slice.injEq,Option.some.injEq,Addr.mk.injEq] at hv2
     obtain ⟨⟨rfl,_,_⟩,_,_⟩:=hv2
     have h1:=hW gb _ (by omega) (by intro cs fr e;cases e) hcur
     rw [World.cell?_of_block (h1.trans hcur.symm)]
     exact e2)
   have bb5:=Qc b5 bb4.size bb4
   have hW5:=hW4.below b5
   have hR5:=Qa (hR4.below b5 (by omega))
   have hs45:=b5.size
   have hCB5:Hid (∀ k,k<i→∃ gk ck,w5.cell? ⟨gc,k,none⟩=some (.slice (some ⟨gk,0,none⟩) n ck)∧gk<base∧n≤ck∧∀ x,x<n→w5.cell? ⟨gk,x,none⟩=some (.int .i64 (cdF (T.getD k []) x:Int))):=Qa (fun k hk=>by
    obtain ⟨gk,ck,e1,e2,e3,e4⟩:=hCB.out k hk
    exact ⟨gk,ck,(b5.cell (p:=⟨gc,k,none⟩) (by simp;omega)).trans e1,e2,e3,fun x hx=>(b5.cell (p:=⟨gk,x,none⟩) (by simp;omega)).trans (e4 x hx)⟩)
   clear o5 b5 hR4 hW4 bb4 hCB KG
   have hwb:w.heap.size≤base:=by omega
   go_wp2
   go_loopw [11,12,14,44] (fun _ _ _ sg wx=>∃ (g A:Nat),g≤Q∧sg=.int .i64 g∧Hid (A=min (10*g) N)∧Hid (Qp wx base gw (cpF S T G A))∧Hid (QG gw w5 wx)∧Below base w5 wx) (fun _ _ _ sg _=>Q-(intOf sg).toNat)
   case atStart=>exact ⟨0,0,by omega,rfl,Qa (by omega),Qa hW5,Qa (QG.refl _ _),Below.refl _ _⟩
   case round =>
    clear hW5
    obtain ⟨g,A,hg,rfl,HA,HW,HK,hbx⟩:=hrel
    have hA:=HA.out
    by_cases hltg:g<Q
    ·have hb1:10*g<N:=BAd.1 (by rw [←HQN.out];exact hltg)
     have hA2:A=10*g:=by omega
     subst hA2
     have hgr:=HG.out g hltg
     obtain ⟨k,hk⟩:∃ k:Nat,G.getD g 0=(k:Int):=⟨(G.getD g 0).toNat,by omega⟩
     have hkM:k<i:=by omega
     have HGK:=Qa hk
     obtain ⟨gb,eg,cg⟩:=hOG.out wr HK.out g hltg
     obtain ⟨m,hm⟩:∃ m,min 10 (N-10*g)=m:=⟨_,rfl⟩
     have hVg:chV b off N g=.slice (some ⟨b,off+10*g,none⟩) m m:=by unfold chV;rw [hm]
     rw [hVg] at cg
     have hm10:m≤10:=by omega
     have hmN:10*g+m≤N:=by omega
     have HME:Hid (10*g+m=min (10*(g+1)) N):=Qa (by omega)
     obtain ⟨o10,ho10⟩:∃ o,off+10*g=o:=⟨_,rfl⟩
     have HO10:=Qa ho10
     rw [ho10] at cg
     subst eg
     clear hgr hk hVg ho10 hm hA
     go_wp2
     go_loopw [14,51] (fun _ sj wy=>∃ (j:Nat),j≤m∧sj=.int .i64 j∧Hid (Qp wy base gw (cpF S T G (10*g+j)))∧Hid (QG gw w5 wy)∧Below base w5 wy) (fun _ sj _=>m-(intOf sj).toNat)
     case atStart=>exact ⟨0,by omega,rfl,HW,HK,hbx⟩
     case round =>
      clear HW HK hbx cg
      obtain ⟨j,hj,rfl,HW,HK,hbx⟩:=hrel
      by_cases hltj:j<m
      ·have hsx:=hbx.size
       have hbw:Below w.heap.size w wr:=bb5.trans (hbx.mono hwb)
       have hsy:=HSY.out (10*g+j) (by omega)
       obtain ⟨x,hx⟩:∃ x:Nat,S.getD (10*g+j) 0=(x:Int):=⟨(S.getD (10*g+j) 0).toNat,by omega⟩
       have hxn:x<n:=by omega
       have c1:=(hbw.cell (p:=⟨b,off+(10*g+j),none⟩) (by have:=hbB (by omega);simp;omega)).trans (HCS.out _ (by omega))
       rw [hx,←Nat.add_assoc,HO10.out] at c1
       obtain ⟨b3',off3,e3,hb3,hcell3⟩:=HZ3.out.2.2 (by rw [HQ.out];omega)
       have c3:=(hbw.cell (p:=⟨b3',off3+g,none⟩) (by simp;omega)).trans (hcell3 g (by rw [HQ.out];exact hltg))
       rw [HGK.out] at c3
       obtain ⟨tb,tq,at4,ct4,e4,htb,ck,hck,zk,hln,hlo⟩:=HTL.out k hkM
       have ck:=(hbw.cell (p:=⟨tb,tq+k,none⟩) (by simp;omega)).trans ck
       obtain ⟨b4,off4,e5,hb4,hcell4⟩:=zk.2.2 (by rw [hln];omega)
       have c4:=(hbw.cell (p:=⟨b4,off4+x,none⟩) (by simp;omega)).trans (hcell4 x (by rw [hln];exact hxn))
       obtain ⟨l1,l2,l3,l4⟩:=HLN.out k hkM x hxn
       rw [l1] at c4
       obtain ⟨gk,cck,d1,hgk,hnck,d2⟩:=hCB5.out k hkM
       have d1:=(hbx.cell (p:=⟨gc,k,none⟩) (by simp;omega)).trans d1
       have d2:=(hbx.cell (p:=⟨gk,x,none⟩) (by simp;omega)).trans (d2 x hxn)
       have HST:=Qa (HSTEP.out g j k x (by omega) HGK.out hx)
       have hlen:=HCL.out (10*g+j)
       have hcp:=HCP.out (10*g+j) (by omega)
       obtain ⟨y,hy⟩:∃ y,lnF (T.getD k []) x=y:=⟨_,rfl⟩
       obtain ⟨c,hcy⟩:∃ c,cdF (T.getD k []) x=c:=⟨_,rfl⟩
       rw [hy] at c4 l2 l3 l4 HST
       rw [hcy] at d2 l4 HST
       have HP:=Qa (fun (W:World) (h:Qp W base gw (cpF S T G (10*g+j))) (h2:base≤W.heap.size)=>QS gw base (cpF S T G (10*g+j)) c y W h hg4 h2 (by omega) l4 (by rw [hlen];omega))
       rw [←HST.out] at HP
       subst e3 e4 e5
       have q1:b3'<base:=by omega
       have q2:tb<base:=by omega
       have q3:b4<base:=by omega
       have q4:gc<base:=by omega
       have m1:(x:Int)<(n:Int):=by omega
       have m2:(k:Int)<(i:Int):=by omega
       have m3:(g:Int)<(Q:Int):=by omega
       have m4:(j:Int)<(m:Int):=by omega
       have HW1:=HW.out
       have hbs:base≤wr.heap.size:=by omega
       clear hx hy hcy hcell3 hcell4 zk hln hlo l1 l4 hlen hcp HST hsy
       go_wp2
       go_region_held3 (fun w'=>w'.cell? ⟨b3',off3+g,none⟩=some (.int .i64 (k:Int))∧w'.cell? ⟨gc,k,none⟩=some (.slice (some ⟨gk,0,none⟩) n cck)∧w'.cell? ⟨gk,x,none⟩=some (.int .i64 (c:Int))∧w'.cell? ⟨tb,tq+k,none⟩=some (.slice (some ⟨b4,off4,none⟩) n ct4)∧w'.cell? ⟨b4,off4+x,none⟩=some (.int .i64 (y:Int))) (go_keep) (first | (go_at_call 35;(with_reducible refine (HP.out _ ?hW ?hb).mono ?_);(case hW=>exact HW1);(case hb=>exact (by omega:base≤wr.heap.size));rintro e wp ⟨rfl,hWp,Bp,Kp⟩;have g1:=(Bp.cell (p:=⟨b3',off3+g,none⟩) q1).trans c3;have g2:=(Bp.cell (p:=⟨gc,k,none⟩) q4).trans d1;have g3:=(Bp.cell (p:=⟨gk,x,none⟩) hgk).trans d2;have g4:=(Bp.cell (p:=⟨tb,tq+k,none⟩) q2).trans ck;have g5:=(Bp.cell (p:=⟨b4,off4+x,none⟩) q3).trans c4))
       all_goals
        have bN:Below base w5 wp:=hbx.drew.trans Bp
        have kN:QG gw w5 wp:=(HK.out.drewN 1).trans Kp
        clear g1 g2 g3 g4 g5 Bp Kp
        go_wp2
        exact ⟨⟨j+1,by omega,by go_num,Qa hWp,Qa kN,bN⟩,by simp [intOf];omega⟩
      ·obtain rfl:j=m:=by omega
       have HW2:Hid (Qp wr base gw (cpF S T G (10*g+j))):=HW
       clear HW
       go_wp2
       go_roundw
       case rel=>exact ⟨g+1,10*g+j,by omega,by go_num,HME,HW2,HK,hbx⟩
       case measure=>simp [intOf];omega
    ·obtain rfl:g=Q:=by omega
     have hAN:A=N:=by
      have h1:=HQN.out
      have h2:¬ 10*g<N:=fun h=>by have:=BAd.2 h;omega
      omega
     subst hAN
     have K5:=Qa (Xm gw base _ wr HW.out)
     rw [HCL.out] at K5
     have hR:=hR5.out.below hbx (by omega)
     have hbw5:Below w.heap.size w wr:=bb5.trans (hbx.mono hwb)
     clear HW HK HCPN HCL HCP HSTEP HTL HLN HCS HZ3 HSY HG HN HM HQ HQN hOG hCB5 HA hA
     obtain ⟨P,hP⟩:∃ P,cpN S T G A=P:=⟨_,rfl⟩
     have HPP:=Qa hP
     rw [hP] at K5
     clear hP
     go_wp2_with fail
     refine K5.out.mono ?_
     rintro e w6 ⟨D,hD,rfl,b6⟩
     have bb:=Qc b6 (by have:=hbw5.size;omega) hbw5
     replace hR:=hR.below b6 hR.lt
     have e0:=hR.cell 0
     have e1:=hR.cell 1
     have g0:=hR.free 0
     have g1:=hR.free 1
     simp at e0 e1
     have hs6:=bb.size
     clear b6 hR hbw5 hbx
     go_wp2
     refine bodyPost_ret (v:=.tuple #[.agg #[.string (Qg D),.int .i64 (P:Int)],.bool true]) (by simp [results,Tryz.results86,go_sem,e0,e1,g0,g1]) rfl ⟨D,hD,by rw [HPP.out],?_⟩
     repeat (first | exact Below.refl _ _ | assumption | refine Below.alloc ?_ (by (try simp);(try omega)) _ | refine Below.setCell ?_ (by (try simp);(try omega)) _ | refine Below.drew ?_ | refine Qc (by assumption) (by (try simp);(try omega)) ?_)
end Go.Proofs.YtembljihmnmmfaaGreat
