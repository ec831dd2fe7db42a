/- Texts of the proof, merged. -/
import Derived.Deep.RegionHeld3
import Derived.Test.YtembljihmnmmfaaGreatKB40
import Derived.Test.YtembljihmnmmfaaGreatKB32
import Derived.Test.YtembljihmnmmfaaGreatKB48
import Derived.Test.YtembljihmnmmfaaGreatKB24
import Derived.Test.YtembljihmnmmfaaGreatKB35
import Derived.RegionTactic
import Derived.ChangeAlike
import Derived.Test.YtembljihmnmmfaaGreatKB30
import Derived.Test.YtembljihmnmmfaaGreatKB36
import Derived.Test.YtembljihmnmmfaaGreatKB5
namespace Go.Proofs.YtembljihmnmmfaaGreat
set_option maxHeartbeats 8000000
set_option maxRecDepth 1000000
set_option linter.unusedVariables false
set_option linter.unusedSimpArgs false
open Go.RowKit
def matZ (S G:List Int) (n k m:Nat):List Int:=(List.range (k*n)).map fun p=>(frqN S G (p / n) m (p % n):Int)
theorem YZ (S G:List Int) (n k m:Nat):(matZ S G n k m).length=k*n:=by unfold matZ;simp
theorem APa (S G:List Int) (n k:Nat):matZ S G n k 0=List.replicate (k*n) 0:=by
 unfold matZ
 have:(fun p=>(frqN S G (p / n) 0 (p % n):Int))=fun _=>0:=by
  funext p
  unfold frqN
  simp
 rw [this,List.map_const',List.length_range]
theorem Ju {t n s k:Nat} (ht:t<k) (hs:s<n):t*n+s<k*n:=by
 have h1:(t+1)*n≤k*n:=Nat.mul_le_mul_right n ht
 rw [Nat.succ_mul] at h1
 omega
theorem AKb {t n s:Nat} (hs:s<n):(t*n+s) / n=t:=by
 rw [Nat.mul_comm,Nat.mul_add_div (by omega),Nat.div_eq_of_lt hs,Nat.add_zero]
theorem AKl {t n s:Nat} (hs:s<n):(t*n+s) % n=s:=by
 rw [Nat.mul_comm,Nat.mul_add_mod,Nat.mod_eq_of_lt hs]
theorem AGt (S G:List Int) {n k t s:Nat} (m:Nat) (ht:t<k) (hs:s<n):(matZ S G n k m).getD (t*n+s) 0=(frqN S G t m s:Int):=by
 unfold matZ
 rw [List.getD_eq_getElem?_getD,List.getElem?_map,List.getElem?_range (Ju ht hs)]
 show ((frqN S G ((t*n+s) / n) m ((t*n+s) % n):Nat):Int)=_
 rw [AKb hs,AKl hs]
theorem AAo (S G:List Int) {n k p:Nat} (m:Nat) (h:p<k*n):(matZ S G n k m)[p]? = some (frqN S G (p / n) m (p % n):Int):=by
 unfold matZ
 rw [List.getElem?_map,List.getElem?_range h]
 rfl
theorem AOm {S G:List Int} {n k m t s:Nat} (hG:G.getD (m / 10) 0=(t:Int)) (hS:S.getD m 0=(s:Int)) (ht:t<k) (hs:s<n):(matZ S G n k m).set (t*n+s) ((frqN S G t m s:Int)+1)=matZ S G n k (m+1):=by
 have hi:∀ t2 s2,inT S G t2 s2 m=(decide ((t:Int)=(t2:Int)) && decide ((s:Int)=(s2:Int))):=fun t2 s2=>by unfold inT;rw [hG,hS]
 have hix:=Ju ht hs
 apply List.ext_getElem?
 intro p
 by_cases hp:p<k*n
 ·rw [AAo S G (m+1) hp,List.getElem?_set,YZ,AAo S G m hp]
  by_cases e:t*n+s=p
  ·subst e
   rw [if_pos rfl,if_pos hix,AKb hs,AKl hs,zw,hi]
   simp
  ·rw [if_neg e,zw,hi]
   have:¬ (t=p / n∧s=p % n):=fun ⟨h3,h4⟩=>by
    apply e
    rw [h3,h4,Nat.mul_comm]
    exact Nat.div_add_mod p n
   by_cases h3:t=p / n
   ·have h4:¬ s=p % n:=fun h=>this ⟨h3,h⟩
    have h5:¬ (s:Int)=((p % n:Nat):Int):=by omega
    rw [decide_eq_false h5]
    simp
   ·have h5:¬ (t:Int)=((p / n:Nat):Int):=by omega
    rw [decide_eq_false h5]
    simp
 ·rw [List.getElem?_eq_none (by rw [List.length_set,YZ];omega),List.getElem?_eq_none (by rw [YZ];omega)]
theorem ATn (S G:List Int) (t n s:Nat) (h:s<n):(frqL S G t n).getD s 0=(frqN S G t S.length s:Int):=by
 unfold frqL
 rw [List.getD_eq_getElem?_getD,List.getElem?_map,List.getElem?_range h]
 rfl
theorem AUs {w:World} {gm n k t:Nat} {S G:List Int} (h:Has w gm 3 (iC (matZ S G n k S.length))) (ht:t<k) (hS:S.length≤2000) (hn:n≤260):Ints w (gm+1) (some ⟨gm,t*n,none⟩) (frqL S G t n):=by
 refine ⟨by rw [Xn];omega,fun x hx=>?_,fun _=>⟨gm,t*n,rfl,by omega,fun j hj=>?_⟩⟩
 ·unfold frqL at hx
  obtain ⟨s,_,rfl⟩:=List.mem_map.1 hx
  have:=xz S G t S.length s
  omega
 ·rw [Xn] at hj
  rw [h.cell,qg _ _ (by rw [YZ];exact Ju ht hj),AGt S G _ ht hj,ATn S G t n j hj]
def Xa (W:World) (gT:Nat) (T:List (List Int)) (i:Nat):Prop:=∃ V:List Value,V.length=T.length∧Has W gT 99 V.toArray∧(∀ t,t<i→W.ownsRow (gT+1) 3 1 (V.getD t undef) (T.getD t []).length (Qo (T.getD t [])))∧∀ t1 t2,t1<t2→t2<i→(V.getD t1 undef).ownBlock=none∨(V.getD t1 undef).ownBlock≠(V.getD t2 undef).ownBlock
theorem Xa.below {W W':World} {gT i:Nat} {T:List (List Int)} (h:Xa W gT T i) (hb:Below W.heap.size W W'):Xa W' gT T i:=by
 obtain ⟨V,h1,h2,h3,h4⟩:=h
 exact ⟨V,h1,h2.below hb h2.lt,fun t ht=>Ql (h3 t ht) hb,h4⟩
theorem Xa.lt {W:World} {gT i:Nat} {T:List (List Int)} (h:Xa W gT T i):gT<W.heap.size:=by
 obtain ⟨V,_,h2,_⟩:=h
 exact h2.lt
theorem Xa.store {W0 W:World} {gT i:Nat} {T:List (List Int)} {v:Value} (h:Xa W0 gT T i) (hb:Below W0.heap.size W0 W) (hi:i<T.length) (hv:W.ownsRow W0.heap.size 3 1 v (T.getD i []).length (Qo (T.getD i []))):Xa (W.setCell ⟨gT,i,none⟩ v) gT T (i+1):=by
 have hl:=h.lt
 obtain ⟨V,h1,h2,h3,h4⟩:=h
 have h2':=h2.below hb h2.lt
 have e1:(V.set i v).getD i undef=v:=by simp [List.getD_eq_getElem?_getD,h1,hi]
 have e2:∀ t,t≠i→(V.set i v).getD t undef=V.getD t undef:=fun t e=>by simp [List.getD_eq_getElem?_getD,List.getElem?_set,Ne.symm e]
 refine ⟨V.set i v,by rw [List.length_set,h1],?_,fun t ht=>?_,fun t1 t2 h12 ht2=>?_⟩
 ·have:=h2'.store i v
  rwa [List.setIfInBounds_toArray] at this
 ·by_cases e:t=i
  ·subst e
   rw [e1]
   exact Zm (ZT hv (by omega)) (p:=⟨gT,t,none⟩) (by simp) v
  ·rw [e2 t e]
   exact Zm (Ql (h3 t (by omega)) hb) (p:=⟨gT,i,none⟩) (by simp) v
 ·by_cases e:t2=i
  ·subst e
   rw [e1,e2 t1 (by omega)]
   exact VQ (h3 t1 (by omega)) hv
  ·rw [e2 t1 (by omega),e2 t2 e]
   exact h4 t1 t2 h12 (by omega)
theorem ARf:(Tryz.prog.info? 99).map (fun i=>(i.zero,i.size,i.bytes))=some (some (.agg #[.slice none 0 0]),1,24):=by kernel_rfl
theorem AZb (m:Nat) (hm:m≤1048576) (w:World):(Instr.makeSlice 93 (.int .i64 (m:Int)) (.int .i64 (m:Int))).run Tryz.prog w=.ok (.slice (some ⟨w.heap.size,0,none⟩) m m) (w.alloc (.cells (List.replicate m (Value.slice none 0 0)).toArray 99)):=by
 obtain ⟨i,hi,h1,h2,h3⟩:=info_parts ARf
 have:=run_make (P:=Tryz.prog) w 93 99 i (.agg #[.slice none 0 0]) Tryz.underlying93 hi h1 .i64 .i64 m m (by omega) (Int.le_refl _) (by rw [h3];omega) (by omega)
 have hz:(Value.agg #[.slice none 0 0]).cells=#[Value.slice none 0 0]:=rfl
 have h:madeCells #[Value.slice none 0 0] m=(List.replicate m (Value.slice none 0 0)).toArray:=by
  have h:(madeCells #[Value.slice none 0 0] m).toList=List.replicate m (Value.slice none 0 0):=by rw [toList_madeCells_one]
  rw [←h]
 simp only [Int.toNat_natCast,h2,Nat.mul_one,hz,h] at this
 exact this
structure Grps (w:World) (av:Option Addr) (Q cv b off:Nat) (S:List Int):Prop where
 cnt:Q=grp S.length
 cap:Q≤cv
 sym:0<S.length→b<w.heap.size
 cells:∀ j,j<S.length→w.cell? ⟨b,off+j,none⟩=some (.int .i64 (S.getD j 0))
 grps:∀ g,g<Q→∃ gb,av=some ⟨gb,0,none⟩∧gb<w.heap.size∧w.cell? ⟨gb,g,none⟩=some (chV b off S.length g)
theorem Grps.below {w w':World} {av:Option Addr} {Q cv b off:Nat} {S:List Int} (h:Grps w av Q cv b off S) (hb:Below w.heap.size w w'):Grps w' av Q cv b off S:=by
 have hs:=hb.size
 refine ⟨h.cnt,h.cap,fun hp=>by have:=h.sym hp;omega,fun j hj=>(hb.cell (p:=⟨b,off+j,none⟩) (h.sym (by omega))).trans (h.cells j hj),fun g hg=>?_⟩
 obtain ⟨gb,e,h1,h2⟩:=h.grps g hg
 exact ⟨gb,e,by omega,(hb.cell (p:=⟨gb,g,none⟩) h1).trans h2⟩
theorem AGc (av:Option Addr) (Q cv b off n k:Nat) (S G:List Int) (w:World) (hg:Grps w av Q cv b off S) (hSl:S.length≤2000) (h1:1≤n) (h2:n≤260) (hk1:1≤k) (hk:k≤4)
 (hS:∀ i,i<S.length→0≤S.getD i 0∧S.getD i 0<(n:Int)) (hGl:G.length=Q) (hG:∀ g,g<Q→0≤G.getD g 0∧G.getD g 0<(k:Int)) :
 Calls Tryz.prog 127 #[.agg (asC G),.slice av Q cv,.int .i64 n,.int .i64 k] w fun e w'=>∃ gT,e=.returned (.slice (some ⟨gT,0,none⟩) k k)∧w.heap.size≤gT∧Xa w' gT (tabL S G n k) k∧Below w.heap.size w w':=by
 have HON:=Qa (fun t=>yV (S:=S) (G:=G) (t:=t) h1 h2 hSl)
 have hQN:=hg.cnt
 have hQ200:Q≤200:=by rw [hQN];unfold grp;omega
 obtain ⟨K,hK⟩:∃ K,k*n=K:=⟨_,rfl⟩
 have hK6:K≤1048576:=by rw [←hK];exact Nat.le_trans (Nat.mul_le_mul hk h2) (by decide)
 have KM:=Qa (fun W=>zQ k n K W hK hK6 (by omega) (by omega))
 have KR:=Qa (fun (gm t q:Nat) (W:World) (hq:t*n=q) (ht:t<k)=>vv gm K n t q W hq (by have:=Ju (k:=k) ht (show n-1<n by omega);omega) (by omega) hK6 (by omega))
 have HZ0:Hid (matZ S G n k 0=List.replicate K 0):=Qa (by rw [APa,hK])
 have HZL:Hid (∀ m,(matZ S G n k m).length=K):=Qa (fun m=>by rw [YZ,hK])
 have HIX:=Qa (fun (t s:Nat) (a:t<k) (b:s<n)=>Ju a b)
 rw [hK] at HIX
 have HZS:=Qa (fun (m t s:Nat) (a:G.getD (m / 10) 0=(t:Int)) (b:S.getD m 0=(s:Int)) (c:t<k) (d:s<n)=>AOm a b c d)
 have HZG:=Qa (fun (m t s:Nat) (a:t<k) (b:s<n)=>AGt S G m a b)
 have HZI:=Qa (fun (W:World) (gm t:Nat) (h:Has W gm 3 (iC (matZ S G n k S.length))) (ht:t<k)=>AUs h ht hSl h2)
 have HTL:=Qa (Zc S G n k)
 have HTG:=Qa (fun t (h:t<k)=>jN S G n k t h)
 have HFL:=Qa (Xn S G)
 have HLE:=Qa (xz S G)
 have HT0:Hid (∀ W:World,Xa (W.alloc (.cells (List.replicate k (Value.slice none 0 0)).toArray 99)) W.heap.size (tabL S G n k) 0):=Qa (fun W=>⟨List.replicate k (Value.slice none 0 0),by rw [List.length_replicate,HTL.out],Has.fresh W _ _,fun t ht=>by omega,fun t1 t2 _ ht=>by omega⟩)
 have hA:Hid (∀ i,i<Q→(asC G)[i]? = some (.int .i64 (G.getD i 0))):=Qa (fun i hi=>vI (by omega))
 obtain ⟨N,hN⟩:∃ N,S.length=N:=⟨_,rfl⟩
 have HN:=Qa hN
 have HG:=Qa hG
 have HS:=Qa hS
 have HGR:=Qa hg
 rw [hN] at hSl HS hQN
 have HQN:=Qa hQN
 obtain ⟨A,hAe⟩:∃ A,asC G=A:=⟨_,rfl⟩
 rw [hAe] at hA ⊢
 clear hg hS hG hN hAe hQN
 have bb1:Below w.heap.size w (w.alloc (.cells A 145)):=(Below.refl _ _).alloc (Nat.le_refl _) _
 have hA1:=Has.fresh w 145 A
 go_enter Tryz.func127,Tryz.ntmps127
 go_wp2_with fail
 refine (KM.out _).mono ?_
 rintro e w2 ⟨rfl,hm2,b2⟩
 replace bb1:=Qc b2 bb1.size bb1
 replace hA1:=hA1.below b2 hA1.lt
 have hml:=hm2.lt
 have hal:=hA1.lt
 have hs2:=bb1.size
 obtain ⟨gm,hgm⟩:∃ gm,(w.alloc (.cells A 145)).heap.size+1=gm:=⟨_,rfl⟩
 have hgmw:w.heap.size<gm:=by rw [←hgm];simp;omega
 rw [hgm] at hm2 hml ⊢
 obtain ⟨gx,hgx⟩:∃ gx,w2.heap.size=gx:=⟨_,rfl⟩
 have hX3:=Has.fresh w2 173 #[.int .i64 n,.slice (some ⟨gm,0,none⟩) K K]
 have hm3:=hm2.alloc (.cells #[.int .i64 n,.slice (some ⟨gm,0,none⟩) K K] 173)
 have hA3:=hA1.alloc (.cells #[.int .i64 n,.slice (some ⟨gm,0,none⟩) K K] 173)
 have bb3:=bb1.alloc hs2 (.cells #[.int .i64 n,.slice (some ⟨gm,0,none⟩) K K] 173)
 have hs3:(w2.alloc (.cells #[.int .i64 n,.slice (some ⟨gm,0,none⟩) K K] 173)).heap.size=gx+1:=by rw [←hgx];simp
 rw [hgx] at hX3 hml hal hs2
 rw [←HZ0.out] at hm3
 clear b2 bb1 hm2 hA1 KM hgm
 go_wp2
 go_loopw [10,11,12,14,22] (fun _ _ _ _ sg wr=>∃ (g A':Nat),g≤Q∧sg=.int .i64 g∧Hid (A'=min (10*g) N)∧Hid (Has wr gm 3 (iC (matZ S G n k A')))∧Hid (Has wr w.heap.size 145 A)∧Hid (Has wr gx 173 #[.int .i64 n,.slice (some ⟨gm,0,none⟩) K K])∧Below w.heap.size w wr∧gx+1≤wr.heap.size) (fun _ _ _ _ sg _=>Q-(intOf sg).toNat)
 case atStart=>exact ⟨0,0,by omega,rfl,Qa (by omega),Qa hm3,Qa hA3,Qa hX3,bb3,by omega⟩
 case round =>
  clear hm3 hA3 hX3 bb3 hs3
  obtain ⟨g,A',hg,rfl,HA',HMt,HAs,HX,hbl,hgs⟩:=hrel
  have hA':=HA'.out
  have hsz:=hbl.size
  by_cases hlt:g<Q
  ·have hb1:10*g<N:=BAd.1 (by rw [←HQN.out];exact hlt)
   have hA2:A'=10*g:=by omega
   subst hA2
   have hgr:=HG.out g hlt
   obtain ⟨t,ht⟩:∃ t:Nat,G.getD g 0=(t:Int):=⟨(G.getD g 0).toNat,by omega⟩
   have htk:t<k:=by omega
   have HGT:=Qa ht
   obtain ⟨gb,eg,hgb,cg⟩:=(HGR.out.below hbl).grps g hlt
   rw [HN.out] at cg
   obtain ⟨m,hm⟩:∃ m,min 10 (N-10*g)=m:=⟨_,rfl⟩
   have hVg:chV b off N g=.slice (some ⟨b,off+10*g,none⟩) m m:=by unfold chV;rw [hm]
   rw [hVg] at cg
   have hm10:m≤10:=by omega
   have hmN:10*g+m≤N:=by omega
   have HME:Hid (10*g+m=min (10*(g+1)) N):=Qa (by omega)
   obtain ⟨o10,ho10⟩:∃ o,off+10*g=o:=⟨_,rfl⟩
   have HO10:=Qa ho10
   rw [ho10] at cg
   subst eg
   obtain ⟨q,hq⟩:∃ q,t*n=q:=⟨_,rfl⟩
   have HQ:=Qa hq
   have KR2:=Qa (fun W=>KR.out gm t q W hq htk)
   have x0:=HX.out.cell 0
   have x1:=HX.out.cell 1
   simp at x0 x1
   have a0:=HAs.out.cell g
   rw [hA.out g hlt,ht] at a0
   have y1:gx<wr.heap.size:=by omega
   have y2:w.heap.size<wr.heap.size:=by omega
   have hgI:(g:Int)<200:=by omega
   clear hgr ht hVg ho10 hm hA' hq
   go_wp2
   go_region_held3 (fun w'=>w'.cell? ⟨gx,0,none⟩=some (.int .i64 (n:Int))∧w'.cell? ⟨gx,1,none⟩=some (.slice (some ⟨gm,0,none⟩) K K)∧w'.cell? ⟨w.heap.size,g,none⟩=some (.int .i64 (t:Int))) (go_keep) (first | (go_at_call 159;refine (KR2.out _).mono ?_;rintro e wp ⟨rfl,Bp⟩;have g1:=(Bp.cell (p:=⟨gx,0,none⟩) y1).trans x0;have g2:=(Bp.cell (p:=⟨gx,1,none⟩) y1).trans x1;have g3:=(Bp.cell (p:=⟨w.heap.size,g,none⟩) y2).trans a0))
   all_goals
    have hbp:Below w.heap.size w wp:=Qc Bp hsz hbl.drew
    replace Bp:Below wr.heap.size wr wp:=Qc Bp (Nat.le_refl _) (Below.refl _ wr).drew
    have hMp:=Qa (HMt.out.below Bp HMt.out.lt)
    have hAp:=Qa (HAs.out.below Bp HAs.out.lt)
    have hXp:=Qa (HX.out.below Bp HX.out.lt)
    have hgp:gx+1≤wp.heap.size:=Nat.le_trans hgs Bp.size
    clear g1 g2 g3 Bp HMt HAs HX cg x0 x1 a0
    go_wp2
    go_loopw [14,34] (fun _ sj wr=>∃ (j:Nat),j≤m∧sj=.int .i64 j∧Hid (Has wr gm 3 (iC (matZ S G n k (10*g+j))))∧Hid (Has wr w.heap.size 145 A)∧Hid (Has wr gx 173 #[.int .i64 n,.slice (some ⟨gm,0,none⟩) K K])∧Below w.heap.size w wr∧gx+1≤wr.heap.size) (fun _ sj _=>m-(intOf sj).toNat)
    case atStart=>exact ⟨0,by omega,rfl,hMp,hAp,hXp,hbp,hgp⟩
    case round =>
     clear hMp hAp hXp hbp hgp
     obtain ⟨j,hj,rfl,HMt,HAs,HX,hbl,hgs⟩:=hrel
     have hsz:=hbl.size
     by_cases hltj:j<m
     ·have hsy:=HS.out (10*g+j) (by omega)
      obtain ⟨x,hx⟩:∃ x:Nat,S.getD (10*g+j) 0=(x:Int):=⟨(S.getD (10*g+j) 0).toNat,by omega⟩
      have hxn:x<n:=by omega
      have c1:=(HGR.out.below hbl).cells (10*g+j) (by rw [HN.out];omega)
      rw [hx,←Nat.add_assoc,HO10.out] at c1
      have hstep:=HZS.out (10*g+j) t x (by rw [show (10*g+j) / 10=g by omega];exact HGT.out) hx htk hxn
      have hget:=HZG.out (10*g+j) t x htk hxn
      have hix:=HIX.out t x htk hxn
      have hle:=HLE.out t (10*g+j) x
      rw [HQ.out] at hstep hget hix
      have d0:=HMt.out.cell (q+x)
      have f0:=HMt.out.free (q+x)
      rw [qg _ _ (by rw [HZL.out];exact hix),hget] at d0
      obtain ⟨z,hz⟩:∃ z,frqN S G t (10*g+j) x=z:=⟨_,rfl⟩
      rw [hz] at d0 hstep hle
      have hM2:=HMt.out.store (q+x) (.int .i64 ((z:Int)+1))
      rw [AEa,hstep] at hM2
      have HM2:=Qa hM2
      have HA2:=Qa (HAs.out.storeAway (p:=⟨gm,q+x,none⟩) (by simp;omega) (.int .i64 ((z:Int)+1)))
      have HX2:=Qa (HX.out.storeAway (p:=⟨gm,q+x,none⟩) (by simp;omega) (.int .i64 ((z:Int)+1)))
      have hb2:=hbl.setCell (p:=⟨gm,q+x,none⟩) (by simp;omega) (.int .i64 ((z:Int)+1))
      have hgs2:gx+1≤(wr.setCell ⟨gm,q+x,none⟩ (.int .i64 ((z:Int)+1))).heap.size:=by simp [World.setCell];omega
      have hxI:(x:Int)<(n:Int):=by omega
      clear hsy hx hstep hget hix hM2 hz
      go_wp2
      go_roundw
      case rel=>exact ⟨j+1,by omega,by go_num,HM2,HA2,HX2,hb2,hgs2⟩
      case measure=>simp [intOf];omega
     ·obtain rfl:j=m:=by omega
      go_wp2
      go_roundw
      case rel=>exact ⟨g+1,10*g+j,by omega,by go_num,HME,HMt,HAs,HX,hbl,hgs⟩
      case measure=>simp [intOf];omega
  ·obtain rfl:g=Q:=by omega
   have hAN:A'=N:=by
    have h1:=HQN.out
    have h2:¬ 10*g<N:=fun h=>by have:=BAd.2 h;omega
    omega
   subst hAN
   have hmk:=AZb k (by omega) wr
   have hC0:=HT0.out wr
   obtain ⟨gT,hgT⟩:∃ gT,wr.heap.size=gT:=⟨_,rfl⟩
   obtain ⟨w4,hw4⟩:∃ w4,wr.alloc (.cells (List.replicate k (Value.slice none 0 0)).toArray 99)=w4:=⟨_,rfl⟩
   have hM4:=HMt.out.alloc (.cells (List.replicate k (Value.slice none 0 0)).toArray 99)
   have hX4:=HX.out.alloc (.cells (List.replicate k (Value.slice none 0 0)).toArray 99)
   have bb4:=hbl.alloc hsz (.cells (List.replicate k (Value.slice none 0 0)).toArray 99)
   have hs4:w4.heap.size=gT+1:=by rw [←hw4,←hgT];simp
   rw [hw4] at hmk hC0 hM4 hX4 bb4
   rw [hgT] at hmk hC0 hgs hsz
   rw [←HN.out] at hM4
   clear hA' HA' HMt HAs HX hbl hw4 HT0
   go_wp2
   go_loopw [16,50] (fun _ si wr=>∃ (i:Nat),i≤k∧si=.int .i64 i∧Hid (Xa wr gT (tabL S G n k) i)∧Hid (Has wr gm 3 (iC (matZ S G n k S.length)))∧Hid (Has wr gx 173 #[.int .i64 n,.slice (some ⟨gm,0,none⟩) K K])∧Below w.heap.size w wr∧gT+1≤wr.heap.size) (fun _ si _=>k-(intOf si).toNat)
   case atStart=>exact ⟨0,by omega,rfl,Qa hC0,Qa hM4,Qa hX4,bb4,by omega⟩
   case round =>
    clear hC0 hM4 hX4 bb4 hmk
    obtain ⟨i,hi2,rfl,HC,HMt,HX,hbl,hgs2⟩:=hrel
    have hsz2:=hbl.size
    by_cases hlti:i<k
    ·obtain ⟨q,hq⟩:∃ q,i*n=q:=⟨_,rfl⟩
     have KR2:=Qa (KR.out gm i q wr hq hlti)
     have HFI:=Qa (fun W h=>HZI.out W gm i h hlti)
     rw [hq] at HFI
     have x0:=HX.out.cell 0
     have x1:=HX.out.cell 1
     simp at x0 x1
     have KLe:=Qa (fun (W:World) (h:Ints W (gm+1) (some ⟨gm,q,none⟩) (frqL S G i n)) (hB:gm+1≤W.heap.size)=>AXs (some ⟨gm,q,none⟩) (K-q) (gm+1) 20 (frqL S G i n) W h hB (HON.out i))
     rw [HFL.out] at KLe
     have HTG2:=Qa (HTG.out i hlti)
     clear hq
     go_wp2_with fail
     refine KR2.out.mono ?_
     rintro e w5 ⟨rfl,b5⟩
     have hM5:=HMt.out.below b5 HMt.out.lt
     have hsz5:=b5.size
     have KL2:=Qa (KLe.out w5 (HFI.out w5 hM5) (by omega))
     clear x0 x1
     go_wp2_with fail
     refine KL2.out.mono ?_
     rintro e w6 ⟨v,rfl,o6,b6⟩
     have b56:Below wr.heap.size wr w6:=Qc b6 b5.size b5
     have o6':w6.ownsRow wr.heap.size 3 1 v ((tabL S G n k).getD i []).length (Qo ((tabL S G n k).getD i [])):=by
      rw [HTG2.out,XU,HFL.out]
      exact ZT o6 b5.size
     have HC7:=Qa (HC.out.store b56 (by rw [HTL.out];exact hlti) o6')
     obtain ⟨V6,hV6,hHas6,_⟩:=HC.out.below b56
     have d0:=hHas6.cell i
     have f0:=hHas6.free i
     rw [List.getElem?_toArray,List.getElem?_eq_getElem (by rw [hV6,HTL.out];exact hlti)] at d0
     have hM7:=Qa ((HMt.out.below b56 HMt.out.lt).storeAway (p:=⟨gT,i,none⟩) (by simp;omega) v)
     have hX7:=Qa ((HX.out.below b56 HX.out.lt).storeAway (p:=⟨gT,i,none⟩) (by simp;omega) v)
     have hb6:=Qc b56 hsz2 hbl
     have hb7:=hb6.setCell (p:=⟨gT,i,none⟩) (by simp;omega) v
     have hs67:gT+1≤(w6.setCell ⟨gT,i,none⟩ v).heap.size:=by simp [World.setCell];have:=b56.size;omega
     obtain ⟨av6,cv6,hv6⟩:=Qq o6
     subst hv6
     clear o6 o6' b5 b6 b56 hM5 hHas6 hb6 KR2 KL2 HC HMt HX
     go_wp2
     go_roundw
     case rel=>exact ⟨i+1,by omega,by go_num,HC7,hM7,hX7,hb7,hs67⟩
     case measure=>simp [intOf];omega
    ·obtain rfl:i=k:=by omega
     go_wp2
     go_ret
     exact ⟨gT,rfl,by omega,HC.out,hbl⟩
theorem AAm (S:List Int) (T:List (List Int)) (g:Nat):∀ k,0<k→(∀ i,i<k→bitG S (T.getD (bstN S T g k) []) g≤bitG S (T.getD i []) g)∧∀ i,i<bstN S T g k→bitG S (T.getD (bstN S T g k) []) g<bitG S (T.getD i []) g
 | 0,h=>by omega
 | 1,_=>⟨fun i hi=>by
    have:i=0:=by omega
    subst this
    exact Int.le_refl _,fun i hi=>by
    have h0:bstN S T g 1=0:=rfl
    omega⟩
 | k+2,_=>by
   obtain ⟨h1,h2⟩:=AAm S T g (k+1) (by omega)
   have e:bstN S T g (k+2)=if bitG S (T.getD (k+1) []) g<bitG S (T.getD (bstN S T g (k+1)) []) g then k+1 else bstN S T g (k+1):=rfl
   rw [e]
   by_cases h:bitG S (T.getD (k+1) []) g<bitG S (T.getD (bstN S T g (k+1)) []) g
   ·rw [if_pos h]
    refine ⟨fun i hi=>?_,fun i hi=>?_⟩
    ·by_cases e2:i=k+1
     ·subst e2;exact Int.le_refl _
     ·have:=h1 i (by omega);omega
    ·have:=h1 i (by omega);omega
   ·rw [if_neg h]
    refine ⟨fun i hi=>?_,h2⟩
    by_cases e2:i=k+1
    ·subst e2;omega
    ·exact h1 i (by omega)
theorem AZk {S:List Int} {T:List (List Int)} {g k j:Nat} {f:Nat→Int} (hf:∀ i,i<k→f i=bitG S (T.getD i []) g) (hj:j<k) (h1:∀ i,i<k→f j≤f i) (h2:∀ i,i<j→f j<f i):j=bstN S T g k:=by
 have hb:=xv S T g k (by omega)
 obtain ⟨b1,b2⟩:=AAm S T g k (by omega)
 rcases Nat.lt_trichotomy j (bstN S T g k) with e | e | e
 ·have h3:=b2 j e
  have h4:=h1 _ hb
  rw [hf j hj,hf _ hb] at h4
  omega
 ·exact e
 ·have h3:=h2 _ e
  have h4:=b1 j hj
  rw [hf j hj,hf _ hb] at h3
  omega
theorem AYv (S:List Int) (T:List (List Int)) {k:Nat} (h:T.length=k):chL S T=(List.range (grp S.length)).map fun g=>(bstN S T g k:Int):=by
 unfold chL chN
 rw [List.map_map,h]
 rfl
theorem ADi (at2 av:Option Addr) (Q cv b off n k capT:Nat) (S:List Int) (T:List (List Int)) (w:World) (hg:Grps w av Q cv b off S) (hT:Tabs w w.heap.size at2 T) (hOk:yI S T n) (hTl:T.length=k) (hk1:1≤k) (hk:k≤4) (hct:k≤capT) :
 Calls Tryz.prog 128 #[.slice at2 k capT,.slice av Q cv] w fun e w'=>e=.returned (.agg (asC (chL S T)))∧Below w.heap.size w w':=by
 obtain ⟨z80,i80⟩:=zero_of_info vW
 obtain ⟨A0,hA0⟩:∃ A,asC []=A:=⟨_,rfl⟩
 rw [AFg,←vx,hA0] at z80
 have HA0:=Qa hA0
 have HA0S:Hid (A0.size=200):=Qa (by rw [←hA0];exact Jm (by simp))
 have hQN:=hg.cnt
 have hSl:=hOk.2.2
 have hQ200:Q≤200:=by rw [hQN];unfold grp;omega
 obtain ⟨K,hK⟩:∃ K,Q*k=K:=⟨_,rfl⟩
 have hK6:K≤1048576:=by rw [←hK];exact Nat.le_trans (Nat.mul_le_mul hQ200 hk) (by decide)
 have KM:=Qa (fun W=>zQ Q k K W hK hK6 (by omega) (by omega))
 have hrow:∀ g q,g<Q→g*k=q→q+k≤K:=fun g q hg hq=>by
  have:=Ju (t:=g) (n:=k) (s:=k-1) (k:=Q) hg (by omega)
  omega
 have KR:=Qa (fun (gm g q:Nat) (W:World) (hq:g*k=q) (hg:g<Q)=>vv gm K k g q W hq (hrow g q hg hq) (by omega) hK6 (by omega))
 have KL:=Qa (fun (gm g q:Nat) (f:Nat→Int) (W:World) (hq:g*k=q) (hg:g<Q)=>AHh gm K k g q f W hq (hrow g q hg hq) (by omega) hK6 (by omega))
 have HROW:=Qa hrow
 have HCH:=Qa (AYv S T hTl)
 rw [←hQN] at HCH
 have HBS:=Qa (fun (g j:Nat) (f:Nat→Int) (a:∀ i,i<k→f i=bitG S (T.getD i []) g) (b:j<k) (c:∀ i,i<k→f j≤f i) (d:∀ i,i<j→f j<f i)=>AZk a b c d)
 have HBG:=Qa (fun (g m:Nat) (L:List Int) (h:min 10 (S.length-10*g)=m)=>AQh (S:=S) (L:=L) h)
 have HOK:=Qa hOk
 have HT:=Qa hT
 have HGR:=Qa hg
 have HM:=Qa hTl
 have HQN:=Qa hQN
 clear hg hT hOk hTl hrow hQN hA0
 have hR1:=Has.fresh w 145 A0
 have bb1:Below w.heap.size w (w.alloc (.cells A0 145)):=(Below.refl _ _).alloc (Nat.le_refl _) _
 go_enter Tryz.func128,Tryz.ntmps128
 go_wp2_with fail
 refine (KM.out _).mono ?_
 rintro e w2 ⟨rfl,hm2,b2⟩
 replace bb1:=Qc b2 bb1.size bb1
 replace hR1:=hR1.below b2 hR1.lt
 have hml:=hm2.lt
 have hRl:=hR1.lt
 have hs2:=bb1.size
 obtain ⟨gm,hgm⟩:∃ gm,(w.alloc (.cells A0 145)).heap.size+1=gm:=⟨_,rfl⟩
 have hgmw:w.heap.size<gm:=by rw [←hgm];simp;omega
 rw [hgm] at hm2 hml ⊢
 obtain ⟨gx,hgx⟩:∃ gx,w2.heap.size=gx:=⟨_,rfl⟩
 have hX3:=Has.fresh w2 173 #[.int .i64 k,.slice (some ⟨gm,0,none⟩) K K]
 have hm3:=hm2.alloc (.cells #[.int .i64 k,.slice (some ⟨gm,0,none⟩) K K] 173)
 have hR3:=hR1.alloc (.cells #[.int .i64 k,.slice (some ⟨gm,0,none⟩) K K] 173)
 have bb3:=bb1.alloc hs2 (.cells #[.int .i64 k,.slice (some ⟨gm,0,none⟩) K K] 173)
 have hs3:(w2.alloc (.cells #[.int .i64 k,.slice (some ⟨gm,0,none⟩) K K] 173)).heap.size=gx+1:=by rw [←hgx];simp
 obtain ⟨w3,hw3⟩:∃ w3,w2.alloc (.cells #[.int .i64 k,.slice (some ⟨gm,0,none⟩) K K] 173)=w3:=⟨_,rfl⟩
 rw [hw3] at hX3 hm3 hR3 bb3 hs3
 rw [hgx] at hX3 hml hRl hs2
 have hA4:=Has.freshAt (w:=w3) (g:=gx+1) hs3 145 A0
 have hX4:=hX3.alloc (.cells A0 145)
 have hm4:=hm3.alloc (.cells A0 145)
 have hR4:=hR3.alloc (.cells A0 145)
 have bb4:=bb3.alloc (by omega) (.cells A0 145)
 have hs4:(w3.alloc (.cells A0 145)).heap.size=gx+2:=by simp [hs3]
 have HR4:=Qa hR4
 have HX4:=Qa hX4
 have HA4:Hid (Has (w3.alloc (.cells A0 145)) (gx+1) 145 (asC ((List.range 0).map fun g=>(bstN S T g k:Int)))):=Qa (by rw [show ((List.range 0).map fun g=>(bstN S T g k:Int))=[] from rfl,HA0.out];exact hA4)
 have HM4:Hid (∃ Z:List Int,Z.length=K∧Has (w3.alloc (.cells A0 145)) gm 3 (iC Z)):=Qa ⟨List.replicate K 0,by simp,hm4⟩
 clear b2 bb1 hm2 hR1 KM hgm hX3 hm3 hR3 bb3 hR4 hX4 hA4 hm4
 go_wp2
 clear z80
 go_loopw [7,8,9,17] (fun _ _ _ sg wr=>∃ (g:Nat),g≤Q∧sg=.int .i64 g∧Hid (∃ Z:List Int,Z.length=K∧Has wr gm 3 (iC Z))∧Hid (Has wr (gx+1) 145 (asC ((List.range g).map fun g=>(bstN S T g k:Int))))∧Hid (Has wr w.heap.size 145 A0)∧Hid (Has wr gx 173 #[.int .i64 k,.slice (some ⟨gm,0,none⟩) K K])∧Below w.heap.size w wr∧gx+2≤wr.heap.size) (fun _ _ _ sg _=>Q-(intOf sg).toNat)
 case atStart=>exact ⟨0,by omega,rfl,HM4,HA4,HR4,HX4,bb4,by omega⟩
 case round =>
  clear HM4 HA4 HR4 HX4 bb4 hs4
  obtain ⟨g,hg,rfl,HMt,HAs,HR,HX,hbl,hgs⟩:=hrel
  have hsz:=hbl.size
  by_cases hlt:g<Q
  ·have hb1:10*g<S.length:=BAd.1 (by rw [←HGR.out.cnt];exact hlt)
   obtain ⟨gb,eg,hgb,cg⟩:=(HGR.out.below hbl).grps g hlt
   obtain ⟨m,hm⟩:∃ m,min 10 (S.length-10*g)=m:=⟨_,rfl⟩
   have hVg:chV b off S.length g=.slice (some ⟨b,off+10*g,none⟩) m m:=by unfold chV;rw [hm]
   rw [hVg] at cg
   have hm10:m≤10:=by omega
   have hmN:10*g+m≤S.length:=by omega
   have HBG2:=Qa (fun L=>HBG.out g m L hm)
   obtain ⟨o10,ho10⟩:∃ o,off+10*g=o:=⟨_,rfl⟩
   have HO10:=Qa ho10
   rw [ho10] at cg
   subst eg
   obtain ⟨q,hq⟩:∃ q,g*k=q:=⟨_,rfl⟩
   have HQ:=Qa hq
   have hqK:=HROW.out g q hlt hq
   have KR2:=Qa (fun W=>KR.out gm g q W hq hlt)
   have KL2:=Qa (fun f W=>KL.out gm g q f W hq hlt)
   clear hVg ho10 hm hq
   go_wp2
   go_loopw [9,24] (fun _ sj wr=>∃ (j:Nat),j≤k∧sj=.int .i64 j∧Hid (∃ Z:List Int,Z.length=K∧Has wr gm 3 (iC Z)∧∀ i,i<j→Z.getD (q+i) 0=bitG S (T.getD i []) g)∧Hid (Has wr (gx+1) 145 (asC ((List.range g).map fun g=>(bstN S T g k:Int))))∧Hid (Has wr w.heap.size 145 A0)∧Hid (Has wr gx 173 #[.int .i64 k,.slice (some ⟨gm,0,none⟩) K K])∧Below w.heap.size w wr∧gx+2≤wr.heap.size) (fun _ sj _=>k-(intOf sj).toNat)
   case atStart=>exact ⟨0,by omega,rfl,Qa (by obtain ⟨Z,h1,h2⟩:=HMt.out;exact ⟨Z,h1,h2,fun i hi=>by omega⟩),HAs,HR,HX,hbl,hgs⟩
   case round =>
    clear HMt HAs HR HX hbl hgs cg
    obtain ⟨j,hj,rfl,HMt,HAs,HR,HX,hbl,hgs⟩:=hrel
    have hsz:=hbl.size
    by_cases hltj:j<k
    ·obtain ⟨tb,tq,at4,ct4,e4,htb,ck,hck,zk⟩:=(HT.out.below hbl).at (i:=j) (by rw [HM.out];exact hltj)
     obtain ⟨l1,l2⟩:=HOK.out.1 j (by rw [HM.out];exact hltj)
     rw [l1] at ck hck
     obtain ⟨y,hy⟩:∃ y,bitG S (T.getD j []) g=y:=⟨_,rfl⟩
     have KB:Hid (∀ W,Below wr.heap.size wr W→Calls Tryz.prog 161 #[.slice at4 n ct4,.slice (some ⟨b,o10,none⟩) m m] W fun e w'=>e=.returned (.int .i64 y)∧W=w'):=Qa (fun W hW=>by
      have hgW:=(HGR.out.below hbl).below hW
      have h:=AGd at4 ct4 wr.heap.size b (off+10*g) m (10*g) n S (T.getD j []) W ((zk.mono hsz).below hW) l2 l1 hm10 hmN (fun i hi=>by
       rw [Nat.add_assoc]
       exact hgW.cells _ (by omega)) HOK.out.2.1
      rw [HO10.out,←HBG2.out,hy] at h
      exact h)
     have HY:=Qa hy
     have x0:=HX.out.cell 0
     have x1:=HX.out.cell 1
     simp at x0 x1
     obtain ⟨Z,hZl,hZ,hZf⟩:=HMt.out
     have d0:=hZ.cell (q+j)
     have f0:=hZ.free (q+j)
     rw [qg _ _ (by rw [hZl];omega)] at d0
     have HZ:=Qa hZ
     have HZF:=Qa hZf
     have y1:gx<wr.heap.size:=by omega
     have y2:gm<wr.heap.size:=by omega
     have y3:tb<wr.heap.size:=by omega
     subst e4
     clear zk l1 l2 hy hZ hZf HMt
     go_wp2
     go_region_with (first | (go_at_call 159;refine (KR2.out _).mono ?_;rintro e wp ⟨rfl,Bp⟩;have Bq:Below wr.heap.size wr wp:=Qc Bp (Nat.le_refl _) (by repeat (first | exact Below.refl _ _ | apply Below.drew));have g1:=(Bp.cell (p:=⟨tb,tq+j,none⟩) y3).trans ck;have g2:=(Bp.cell (p:=⟨gm,q+j,none⟩) y2).trans d0;have g3:=(Bp.frozen (p:=⟨gm,q+j,none⟩) y2).trans f0) | (go_at_call 161;refine (KB.out _ (by repeat (first | exact Below.refl _ _ | assumption | apply Below.drew))).mono ?_;rintro e wq ⟨rfl,hwq⟩;subst hwq))
     all_goals
      have hM7:Hid (∃ Z:List Int,Z.length=K∧Has (wp.setCell ⟨gm,q+j,none⟩ (.int .i64 y)) gm 3 (iC Z)∧∀ i,i<j+1→Z.getD (q+i) 0=bitG S (T.getD i []) g):=Qa (by
       refine ⟨Z.set (q+j) y,by rw [List.length_set];exact hZl,?_,fun i hi=>?_⟩
       ·have:=(HZ.out.below Bq HZ.out.lt).store (q+j) (.int .i64 y)
        rwa [AEa] at this
       ·by_cases e:i=j
        ·subst e
         rw [List.getD_eq_getElem?_getD,List.getElem?_set_self (by rw [hZl];omega),HY.out]
         rfl
        ·rw [List.getD_eq_getElem?_getD,List.getElem?_set_ne (by omega),←List.getD_eq_getElem?_getD]
         exact HZF.out i (by omega))
      have hA7:=Qa ((HAs.out.below Bq (by omega)).storeAway (p:=⟨gm,q+j,none⟩) (by simp;omega) (.int .i64 y))
      have hR7:=Qa ((HR.out.below Bq (by omega)).storeAway (p:=⟨gm,q+j,none⟩) (by simp;omega) (.int .i64 y))
      have hX7:=Qa ((HX.out.below Bq (by omega)).storeAway (p:=⟨gm,q+j,none⟩) (by simp;omega) (.int .i64 y))
      have hb7:=(Qc Bq hsz hbl).setCell (p:=⟨gm,q+j,none⟩) (by simp;omega) (.int .i64 y)
      have hs7:gx+2≤(wp.setCell ⟨gm,q+j,none⟩ (.int .i64 y)).heap.size:=by simp [World.setCell];have:=Bq.size;omega
      clear Bp Bq g1 g2 g3 HZ HZF HAs HR HX hbl hgs
      go_wp2
      go_roundw
      case rel=>exact ⟨j+1,by omega,by go_num,hM7,hA7,hR7,hX7,hb7,hs7⟩
      case measure=>simp [intOf];omega
    ·obtain rfl:j=k:=by omega
     obtain ⟨Z,hZl,hZ,hZf⟩:=HMt.out
     have x0:=HX.out.cell 0
     have x1:=HX.out.cell 1
     simp at x0 x1
     have K5:=Qa (KL2.out (fun i=>Z.getD (q+i) 0) wr (by omega) (fun i hi=>by rw [hZ.cell,qg _ _ (by rw [hZl];omega)]))
     have hZF:=Qa hZf
     clear hZ hZf
     go_wp2_with fail
     refine K5.out.mono ?_
     rintro e w5 ⟨r,rfl,hrk,hr1,hr2,b5⟩
     have HR5:Hid (r=bstN S T g j):=Qa (HBS.out g r (fun i=>Z.getD (q+i) 0) hZF.out hrk hr1 hr2)
     have hA5:=HAs.out.below b5 (by omega)
     have hT5:=hA5.store g (.int .i64 (r:Int))
     have d0:=hA5.cell g
     have f0:=hA5.free g
     rw [YG (by rw [List.length_map,List.length_range];omega) (by omega:g<200)] at d0
     rw [AGn (by rw [List.length_map,List.length_range]) (by omega),HR5.out,show ((List.range g).map fun g=>(bstN S T g j:Int))++[(bstN S T g j:Int)]=(List.range (g+1)).map fun g=>(bstN S T g j:Int) by rw [List.range_succ,List.map_append];rfl] at hT5
     rw [←HR5.out] at hT5
     have HA7:=Qa hT5
     have hM7:Hid (∃ Z:List Int,Z.length=K∧Has (w5.setCell ⟨gx+1,g,none⟩ (.int .i64 (r:Int))) gm 3 (iC Z)):=Qa (by
      obtain ⟨Z,h1,h2,_⟩:=HMt.out
      exact ⟨Z,h1,(h2.below b5 (by omega)).storeAway (p:=⟨gx+1,g,none⟩) (by simp;omega) _⟩)
     have hR7:=Qa ((HR.out.below b5 (by omega)).storeAway (p:=⟨gx+1,g,none⟩) (by simp;omega) (.int .i64 (r:Int)))
     have hX7:=Qa ((HX.out.below b5 (by omega)).storeAway (p:=⟨gx+1,g,none⟩) (by simp) (.int .i64 (r:Int)))
     have hb7:=(Qc b5 hsz hbl).setCell (p:=⟨gx+1,g,none⟩) (by simp;omega) (.int .i64 (r:Int))
     have hs7:gx+2≤(w5.setCell ⟨gx+1,g,none⟩ (.int .i64 (r:Int))).heap.size:=by simp [World.setCell];have:=b5.size;omega
     have hg200:(g:Int)<200:=by omega
     clear hr1 hr2 b5 hA5 hT5 HAs HR HX hbl hgs hZF HMt K5 HR5 x0 x1
     go_wp2
     go_roundw
     case rel=>exact ⟨g+1,by omega,by go_num,hM7,HA7,hR7,hX7,hb7,hs7⟩
     case measure=>simp [intOf];omega
  ·obtain rfl:g=Q:=by omega
   have hT5:=HAs.out
   have hR5:=HR.out
   have hsl:(chL S T).length≤200:=by rw [HCH.out,List.length_map,List.length_range];exact hQ200
   rw [←HCH.out] at hT5
   obtain ⟨A,hA⟩:∃ A,asC (chL S T)=A:=⟨_,rfl⟩
   have hAs:A.size=200:=by rw [←hA];exact Jm hsl
   have hA1:A.all (·.oneCell')=true:=by rw [←hA];exact xK _
   have HA:=Qa hA
   rw [hA] at hT5
   have hiT:(Tryz.prog.info? 145).map (·.size)=some A.size:=by rw [hAs];exact i80
   have hA0s:=HA0S.out
   clear hA HR HAs HX HMt
   go_wp2
   refine ZX 145 (.tmp 6) rfl (gx+1) (by rfl) _ _ _ hT5 Tryz.underlying145 rfl hiT ?_
   have hsc:=run_storeCells_from (P:=Tryz.prog) w.heap.size 145 A.toList 0 A0 wr hR5 (by simp [hAs,hA0s]) (fun v hv=>(Array.all_eq_true_iff_forall_mem.1 hA1) v (by simpa using hv))
   simp only [List.take_zero,List.nil_append,Array.toArray_toList] at hsc
   have hR2:=hR5.setRow A
   have hB2:=hbl.trans (below_setRow (Below.refl w.heap.size wr) (Nat.le_refl _) A)
   have hld:=run_loadVar_row (P:=Tryz.prog) _ _ _ _ _ _ _ hR2 Tryz.underlying145 rfl hiT
   clear hR5 hbl hT5
   go_wp2
   (try simp only [Exit.inBlock,Exit.then])
   refine bodyPost_ret (v:=.agg A) ?_ rfl ⟨by rw [HA.out],hB2⟩
   rw [Vm rfl]
   simp [asAddr,Result.andThen,hld]
theorem AIs {S:List Int} {n k:Nat} (hk:1≤k):∀ r,∀ g,g<grp S.length→0≤(selR S n k r).getD g 0∧(selR S n k r).getD g 0<(k:Int):=by
 intro r g hg
 have hm:(selR S n k r).getD g 0∈selR S n k r:=XA (by rw [XC];exact hg)
 cases r with
 | zero =>
   have h0:selR S n k 0=sel0 S k:=rfl
   rw [h0,show (sel0 S k).getD g 0=((g*k / grp S.length:Nat):Int) by
    unfold sel0
    rw [List.getD_eq_getElem?_getD,List.getElem?_map,List.getElem?_range hg]
    rfl]
   have h1:g*k / grp S.length<k:=by
    rw [Nat.div_lt_iff_lt_mul (by omega),Nat.mul_comm k]
    exact Nat.mul_lt_mul_of_pos_right hg (by omega)
   exact ⟨Int.natCast_nonneg _,Int.ofNat_lt.2 h1⟩
 | succ r =>
   have:=ABt (S:=S) (T:=tabL S (selR S n k r) n k) (by rw [Zc];exact hk) _ hm
   rw [Zc] at this
   exact this
theorem ANv {S:List Int} {n k r:Nat} (hr:r<2) (h:selR S n k (r+1)=selR S n k r):selR S n k r=sel2 S n k:=by
 rw [←Xd]
 rcases (by omega:r=0∨r=1) with rfl | rfl
 ·show selR S n k 0=chL S (tabL S (selR S n k 1) n k)
  rw [show selR S n k 1=selR S n k 0 from h]
  exact h.symm
 ·exact h.symm
theorem Xa.tabs {W:World} {gT:Nat} {T:List (List Int)} (h:Xa W gT T T.length) (hf:FitT T) (hl:T.length≤1048576):Tabs W W.heap.size (some ⟨gT,0,none⟩) T:=by
 have hlt:=h.lt
 obtain ⟨V,h1,h2,h3,_⟩:=h
 refine ⟨by omega,fun _=>⟨gT,0,rfl,hlt,fun i hi=>?_⟩⟩
 have ho:=h3 i hi
 obtain ⟨a,c,e⟩:=Qq ho
 refine ⟨V.getD i undef,?_,a,c,e,?_,?_⟩
 ·rw [Nat.zero_add,h2.cell i,List.getElem?_toArray,List.getD_eq_getElem?_getD,List.getElem?_eq_getElem (by omega)]
  rfl
 ·rw [e] at ho
  exact Xu ho
 ·rw [e] at ho
  exact (Ints.ofOwn ho (by have:=(hf i hi).1;omega) (hf i hi).2).2
theorem Xa.ownT {W:World} {gT lo:Nat} {T:List (List Int)} (h:Xa W gT T T.length) (hlo:lo≤gT) (hl:T.length≤1048576):∃ V,OwnT W lo W.heap.size (.slice (some ⟨gT,0,none⟩) T.length T.length) V T∧∀ x∈V,∀ q,x.ownBlock=some q→q<W.heap.size:=by
 have hlt:=h.lt
 obtain ⟨V,h1,h2,h3,h4⟩:=h
 have hV:∀ u∈V,yA u lo W.heap.size:=fun u hu=>by
  obtain ⟨k,hk,rfl⟩:=ARc hu
  have:=AKz (h3 k (by omega))
  exact fun q hq=>⟨by have:=(this q hq).1;omega,(this q hq).2⟩
 refine ⟨V,⟨⟨by rw [h1,Nat.mul_one],.inr ⟨gT,T.length,V.toArray,rfl,hlo,h2,Nat.le_refl _,by unfold maxLen;omega,by simp [h1],by rw [Nat.mul_one,←h1,List.take_length]⟩⟩,⟨h1,fun j hj=>ZT (h3 j hj) (by omega)⟩,fun q hq=>?_,hV,h4⟩,fun x hx q hq=>(hV x hx q hq).2⟩
 simp [Value.ownBlock] at hq
 omega
theorem ATs (ga Q:Nat) (hQ:Q≤200) (W:World):(Instr.sliceAt 145 (.pointer (some ⟨ga,0,none⟩)) none (some (.int .i64 (Q:Int))) none).run Tryz.prog W=.ok (.slice (some ⟨ga,0,none⟩) Q 200) W:=by
 obtain ⟨i0,hi,_,hz1,_⟩:=info_parts Tryz.infoInt
 have hl:Tryz.prog.arrayLen 145=200:=by kernel_rfl
 have he:Tryz.prog.elem 145=3:=by kernel_rfl
 have ht:Tryz.prog.underlying 145=some (.array (Tryz.prog.arrayLen 145) (Tryz.prog.elem 145)):=by kernel_rfl
 have h:=run_sliceAt_array_h (P:=Tryz.prog) W 145 ⟨ga,0,none⟩ ht .i64 (Q:Int) (by omega) (by rw [hl];omega)
 rw [h,he,run_sizeOf W hi,hl]
 simp [Result.andThen,slicedAt,Addr.add]
theorem AMr {y z:List Int} (hy:y.length≤200) (hz:z.length=y.length) (W:World):(Op.equalIn 10000 145 (.agg (asC y)) (.agg (asC z))).run Tryz.prog W=.ok (decide (y=z)) W:=AHf 9998 hy hz W
theorem OwnT.up {w:World} {lo hi hi2:Nat} {v:Value} {V:List Value} {T:List (List Int)} (h:OwnT w lo hi v V T) (hh:hi≤hi2):OwnT w lo hi2 v V T :=
 ⟨h.own,h.rows,fun q hq=>by have:=h.top q hq;omega,fun u hu q hq=>by have:=h.rng u hu q hq;omega,h.apart⟩
theorem AGe {W:World} {ga:Nat} {z:List Int} {L:List Nat} (h:Has W ga 145 (asC z)) (hz:Qo z=Qe L):Lies W (ga+1) (some ⟨ga,0,none⟩) (Qe L):=fun _=>⟨ga,0,rfl,by omega,fun i hi=>by
 have hl:i<z.length:=by
  have:=congrArg List.length hz
  unfold Qo at this
  rw [List.length_map] at this
  omega
 rw [Nat.zero_add,h.cell i,vI hl,←hz,Xv _ _ hl]⟩
theorem vB (a:Option Addr) (cap B n k:Nat) (S:List Int) (w:World) (hz:Ints w B a S) (hB:B≤w.heap.size) (hcap:S.length≤cap) (hrow:rowB S n=true) (hk1:1≤k) (hk:k≤4) :
 Calls Tryz.prog 82 #[.slice a S.length cap,.int .i64 n,.int .i64 k] w fun e w'=>∃ v V u,e=.returned (.tuple #[v,u])∧OwnT w' w.heap.size w'.heap.size v V (tab2 S n k)∧w'.ownsRow w.heap.size 3 1 u (grp S.length) (Qo (sel2 S n k))∧(∀ x∈V,u.ownBlock=none∨u.ownBlock≠x.ownBlock)∧Below w.heap.size w w':=by
 obtain ⟨z80,i80⟩:=zero_of_info vW
 obtain ⟨A0,hA0⟩:∃ A,asC []=A:=⟨_,rfl⟩
 rw [AFg,←vx,hA0] at z80
 have HA0S:Hid (A0.size=200):=Qa (by rw [←hA0];exact Jm (by simp))
 clear hA0
 obtain ⟨⟨hn1,hn2⟩,hSl,hS⟩:=(XR S n).1 hrow
 have hsy:Zi n S=true:=(QZ n S).2 ⟨hSl,hS⟩
 have KRo:Hid (Calls Tryz.prog 124 #[.slice a S.length cap,.int .i64 n] w fun e w'=>e=.returned (.bool (Zi n S))∧w=w'):=Qa ((ABb a cap B n S w hz (by omega)).mono fun e w' h=>⟨h.1,h.2.symm⟩)
 rw [hsy] at KRo
 have KT:=Qa (fun W=>XG (k:Int) W)
 have hkk:(1:Int)≤(k:Int)∧(k:Int)≤4:=by omega
 rw [decide_eq_true hkk] at KT
 obtain ⟨b,off,ha,hbB,hcS⟩:=hz.place
 have KG:=Qa (fun W=>zI a b off S.length cap W (by omega) hcap ha)
 have hQ200:grp S.length≤200:=by unfold grp;omega
 have HSM:=Qa (fun r g h=>AIs (S:=S) (n:=n) hk1 r g h)
 have HSL:=Qa (XC S n k)
 have HCHR:Hid (∀ r,chL S (tabL S (selR S n k r) n k)=selR S n k (r+1)):=Qa (fun r=>rfl)
 have HSTOP:=Qa (fun r (h:r<2) (e:selR S n k (r+1)=selR S n k r)=>ANv h e)
 have HTWO:=Qa (Xd S n k)
 have HTL:=Qa (fun G=>Zc S G n k)
 have HTO:=Qa (fun (G:List Int) i hi=>YN (S:=S) (G:=G) (k:=k) (by omega:1≤n) (by omega) hSl i hi)
 have HT20:=Qa (fun (G:List Int) i hi=>yw (S:=S) (G:=G) (k:=k) (by omega:1≤n) (by omega) hSl i hi)
 have HSY:=Qa hS
 obtain ⟨N,hN⟩:∃ N,S.length=N:=⟨_,rfl⟩
 have HN:=Qa hN
 have HCS:=Qa hcS
 have hn1':1≤n:=by omega
 have hn2':n≤260:=by omega
 obtain ⟨Q,hQ⟩:∃ Q,grp S.length=Q:=⟨_,rfl⟩
 have HQ:=Qa hQ
 rw [hQ] at hQ200 KG HSM HSL ⊢
 rw [hN] at KRo KG hbB HCS hSl hcap ⊢
 have hg1:¬ (n:Int)<1:=by omega
 have hg2:¬ (260:Int)<(n:Int):=by omega
 clear hz hrow hsy hS hcS ha hQ hN hn1 hn2 hkk
 go_enter Tryz.func82,Tryz.ntmps82
 go_wp2_with fail
 refine KRo.out.mono ?_
 rintro e w1 ⟨rfl,hw1⟩
 subst hw1
 go_wp2_with fail
 refine (KT.out _).mono ?_
 rintro e w1 ⟨rfl,hw1⟩
 subst hw1
 go_wp2_with fail
 refine (KG.out _).mono ?_
 rintro e w2 ⟨v,rfl,o2,b2⟩
 obtain ⟨av,cv,hv⟩:=Qq o2
 subst hv
 have hcv:=Yk o2
 have HGR:Hid (Grps w2 av Q cv b off S):=Qa ⟨HQ.out.symm,hcv,fun hp=>by have:=hbB (by rw [←HN.out];exact hp);have:=b2.size;omega,fun j hj=>(b2.cell (p:=⟨b,off+j,none⟩) (by have:=hbB (by rw [←HN.out];omega);simp;omega)).trans (HCS.out j (by rw [←HN.out];exact hj)),fun g hg=>by
  obtain ⟨gb,e1,e2⟩:=yW o2 (by rw [←HN.out];exact HQ.out.symm) g hg
  subst e1
  exact ⟨gb,rfl,(o2.lt gb rfl).2,by rw [HN.out];exact e2⟩⟩
 have hs2:=b2.size
 clear o2 KRo KT KG hbB
 have KE:=Qa (fun W=>ANi Q k S W HQ.out.symm hQ200 hk)
 go_wp2_with fail
 refine (KE.out _).mono ?_
 rintro e w3 ⟨rfl,b3⟩
 have hbl3:=Qc b3 hs2 b2
 have HGR3:=Qa (HGR.out.below b3)
 have hs3:=hbl3.size
 obtain ⟨A,hA⟩:∃ A,asC (sel0 S k)=A:=⟨_,rfl⟩
 have HA:=Qa hA
 have hAs:A.size=200:=by rw [←hA];exact Jm (by have:=HSL.out 0;rw [show selR S n k 0=sel0 S k from rfl] at this;omega)
 have hA1:A.all (·.oneCell')=true:=by rw [←hA];exact xK _
 rw [hA]
 have hiT:(Tryz.prog.info? 145).map (·.size)=some A.size:=by rw [hAs];exact i80
 have hR0:=Has.fresh w3 145 A0
 have hA0s:=HA0S.out
 have hsc:=run_storeCells_from (P:=Tryz.prog) w3.heap.size 145 A.toList 0 A0 _ hR0 (by simp [hAs,hA0s]) (fun v hv=>(Array.all_eq_true_iff_forall_mem.1 hA1) v (by simpa using hv))
 simp only [List.take_zero,List.nil_append,Array.toArray_toList] at hsc
 have hR4:=hR0.setRow A
 have bl4:Below w3.heap.size w3 ((w3.alloc (.cells A0 145)).setRow w3.heap.size A):=below_setRow ((Below.refl _ _).alloc (Nat.le_refl _) _) (Nat.le_refl _) A
 obtain ⟨w4,hw4⟩:∃ w4,(w3.alloc (.cells A0 145)).setRow w3.heap.size A=w4:=⟨_,rfl⟩
 rw [hw4] at hsc hR4 bl4
 obtain ⟨ga,hga⟩:∃ ga,w3.heap.size=ga:=⟨_,rfl⟩
 have hgaw:w.heap.size≤ga:=by rw [←hga];exact hs3
 have hbl4:=Qc bl4 hs3 hbl3
 have HG3:Hid (∀ W,Below ga w3 W→Grps W av Q cv b off S):=Qa (fun W hW=>HGR3.out.below (by rw [hga];exact hW))
 have HB4:Below ga w3 w4:=by rw [←hga];exact bl4
 have HGR4:=Qa (HG3.out w4 HB4)
 have hgl4:ga<w4.heap.size:=by rw [←hga];exact hR4.lt
 rw [hga] at hR4 hsc
 clear b2 b3 HGR KE hA hR0 bl4 hw4 hbl3 HGR3
 go_wp2
 refine ZX 145 (.tmp 9) rfl ga (by rfl) _ _ _ hR4 Tryz.underlying145 rfl hiT ?_
 have KTA:=Qa (fun (W:World) (v:Option Addr) (G:List Int) (h1:G.length=Q) (h2:∀ g,g<Q→0≤G.getD g 0∧G.getD g 0<(k:Int)) (h3:Grps W av Q cv b off S)=>AGc av Q cv b off n k S G W h3 (by rw [HN.out];exact hSl) hn1' hn2' hk1 hk HSY.out h1 h2)
 have K5:=Qa (KTA.out w4 none (sel0 S k) (HSL.out 0) (HSM.out 0) HGR4.out)
 rw [HA.out] at K5
 go_wp2_with fail
 refine K5.out.mono ?_
 rintro e w5 ⟨gT,rfl,hgT,hT5,b5⟩
 have hbl5:=Qc b5 hbl4.size hbl4
 have HB5:=Qa (Qc b5 (by omega:ga≤w4.heap.size) HB4)
 have hR5:=Qa (hR4.below b5 hgl4)
 have HT5:=Qa hT5
 have HFT:Hid (∀ G,FitT (tabL S G n k)):=Qa (fun G i hi=>by
  obtain ⟨h1,h2⟩:=YT (G:=G) hn1' hn2' (by rw [HN.out];exact hSl) i hi
  have:=(HTO.out G i (by rw [←HTL.out G];exact hi)).1
  exact ⟨by omega,h2⟩)
 have KCH:=Qa (fun (W:World) (gT:Nat) (G:List Int) (h1:Xa W gT (tabL S G n k) k) (h3:Grps W av Q cv b off S)=>ADi (some ⟨gT,0,none⟩) av Q cv b off n k k S (tabL S G n k) W h3 (Xa.tabs (by rw [HTL.out];exact h1) (HFT.out G) (by rw [HTL.out];omega)) ⟨fun i hi=>⟨(HTO.out G i (by rw [←HTL.out G];exact hi)).1,HT20.out G i (by rw [←HTL.out G];exact hi)⟩,HSY.out,by rw [HN.out];exact hSl⟩ (HTL.out G) hk1 hk (Nat.le_refl _))
 have hgT5:w.heap.size≤gT:=by have:=hgaw;omega
 have hga5:ga<w5.heap.size:=hR5.out.lt
 have HR5:Hid (Has w5 ga 145 (asC (selR S n k 0))):=Qa (by rw [show selR S n k 0=sel0 S k from rfl,HA.out];exact hR5.out)
 have HT5':Hid (Xa w5 gT (tabL S (selR S n k 0) n k) k):=HT5
 have HAS:Hid (∀ r,(asC (selR S n k r)).size=200):=Qa (fun r=>Jm (by rw [HSL.out];exact hQ200))
 have hslice:=ATs ga Q hQ200
 have HEQ:=Qa (fun r (W:World)=>AMr (y:=selR S n k (r+1)) (z:=selR S n k r) (by rw [HSL.out];exact hQ200) (by rw [HSL.out,HSL.out]) W)
 clear hR4 K5 hbl4 hsc HGR4 b5 hT5 hR5 HT5 HA hAs hA1 hiT
 go_wp2
 go_loopw [10,11,40] (fun st _ sr wr=>∃ (r gT:Nat),r≤2∧sr=.int .i64 r∧st=.slice (some ⟨gT,0,none⟩) k k∧w.heap.size≤gT∧ga<wr.heap.size∧Hid (Xa wr gT (tabL S (selR S n k r) n k) k)∧Hid (Has wr ga 145 (asC (selR S n k r)))∧Hid (Below ga w3 wr)∧Below w.heap.size w wr) (fun _ _ sr _=>2-(intOf sr).toNat)
 case atStart=>exact ⟨0,gT,by omega,rfl,rfl,hgT5,hga5,HT5',HR5,HB5,hbl5⟩
 case round =>
  clear hgT5 hga5 HT5' HR5 HB5 hbl5
  obtain ⟨r,gT,hr2,rfl,rfl,hgTw,hgal,HTU,HAr,HB,hbl⟩:=hrel
  have hsz:=hbl.size
  by_cases hlt:r<2
  ·have K6:=Qa (KCH.out wr gT (selR S n k r) HTU.out (HG3.out wr HB.out))
   rw [HCHR.out] at K6
   obtain ⟨A,hA⟩:∃ A,asC (selR S n k r)=A:=⟨_,rfl⟩
   obtain ⟨A2,hA2⟩:∃ A,asC (selR S n k (r+1))=A:=⟨_,rfl⟩
   have hAs:A.size=200:=by rw [←hA];exact HAS.out r
   have hA2s:A2.size=200:=by rw [←hA2];exact HAS.out (r+1)
   have hA21:A2.all (·.oneCell')=true:=by rw [←hA2];exact xK _
   have heq:=Qa (HEQ.out r)
   have hAr:=HAr.out
   have HA2:=Qa hA2
   have HA:=Qa hA
   rw [hA2] at K6 heq
   rw [hA] at heq hAr
   have hiT:(Tryz.prog.info? 145).map (·.size)=some A.size:=by rw [hAs];exact i80
   have hiT2:(Tryz.prog.info? 145).map (·.size)=some A2.size:=by rw [hA2s];exact i80
   clear hA hA2 HAr
   go_wp2_with fail
   refine K6.out.mono ?_
   rintro e w6 ⟨rfl,b6⟩
   have HTU6:=Qa (HTU.out.below b6)
   have HB6:=Qa (Qc b6 (by omega:ga≤wr.heap.size) HB.out)
   have hAr6:=hAr.below b6 hgal
   have hbl6:=Qc b6 hsz hbl
   have hs6:=hbl6.size
   have hb6:=b6.size
   obtain ⟨gn,hgn⟩:∃ gn,w6.heap.size=gn:=⟨_,rfl⟩
   have hN0:=Has.fresh w6 145 A0
   rw [hgn] at hN0
   have hsc:=run_storeCells_from (P:=Tryz.prog) gn 145 A2.toList 0 A0 _ hN0 (by simp [hA2s,HA0S.out]) (fun v hv=>(Array.all_eq_true_iff_forall_mem.1 hA21) v (by simpa using hv))
   simp only [List.take_zero,List.nil_append,Array.toArray_toList] at hsc
   have hN7:=hN0.setRow A2
   have bl7:Below w6.heap.size w6 ((w6.alloc (.cells A0 145)).setRow gn A2):=below_setRow ((Below.refl _ _).alloc (Nat.le_refl _) _) (by omega) A2
   obtain ⟨w7,hw7⟩:∃ w7,(w6.alloc (.cells A0 145)).setRow gn A2=w7:=⟨_,rfl⟩
   rw [hw7] at hsc hN7 bl7
   have hAr7:=hAr6.below bl7 (by omega)
   have HTU7:=Qa (HTU6.out.below bl7)
   have HB7:=Qa (Qc bl7 (by omega:ga≤w6.heap.size) HB6.out)
   have hbl7:=Qc bl7 hs6 hbl6
   have hs7:=bl7.size
   clear hAr b6 hAr6 hN0 bl7 hw7 HTU6 HB6 HTU HB hbl hbl6 K6
   go_wp2
   refine ZX 145 (.tmp 11) rfl gn (by rfl) _ _ _ hN7 Tryz.underlying145 rfl hiT2 ?_
   go_wp2
   refine ZX 145 (.tmp 9) rfl ga (by rfl) _ _ _ hAr7 Tryz.underlying145 rfl hiT ?_
   by_cases he0:selR S n k (r+1)=selR S n k r
   ·have he:∀ W:World,(Op.equalIn 10000 145 (.agg A2) (.agg A)).run Tryz.prog W=.ok true W:=fun W=>by rw [heq.out W,decide_eq_true he0]
    have hst:=HSTOP.out r hlt he0
    have hTUf:Xa w7 gT (tab2 S n k) k:=by
     have h:=HTU7.out
     rw [hst] at h
     exact h
    have hASf:Has w7 ga 145 (asC (sel2 S n k)):=by
     rw [←hst,HA.out]
     exact hAr7
    clear he0 hst hN7 heq
    have hOTx:=Xa.ownT (lo:=w.heap.size) (T:=tab2 S n k) (by rw [show (tab2 S n k).length=k from HTL.out _];exact hTUf) hgTw (by rw [show (tab2 S n k).length=k from HTL.out _];omega)
    rw [show (tab2 S n k).length=k from HTL.out _] at hOTx
    obtain ⟨V,hOT,hVlt⟩:=hOTx
    have KD:=Qa (yf (some ⟨ga,0,none⟩) 200 (ga+1) (chN S (tabL S (sel1 S n k) n k)) w7 (AGe hASf (Ve S (tabL S (sel1 S n k) n k))) (by omega) (by rw [VZ,HQ.out];omega))
    rw [←Ve,VZ,HQ.out] at KD
    have HOT:=Qa hOT
    have HVL:=Qa hVlt
    clear hOT hVlt
    have hsF:=hbl7.size
    go_wp2_with fail
    refine KD.out.mono ?_
    rintro e w9 ⟨u,rfl,o9,b9⟩
    have HOT9:=Qa ((HOT.out.below b9).up b9.size)
    have HU9:Hid (∀ x∈V,u.ownBlock=none∨u.ownBlock≠x.ownBlock):=Qa (fun x hx=>by
     cases eu:u.ownBlock with
     | none=>exact .inl rfl
     | some q =>
       refine .inr fun ex=>?_
       have h1:=(o9.lt q eu).1
       have h2:=HVL.out x hx q ex.symm
       omega)
    have hb9:=Qc b9 hsF hbl7
    have HO9:=Qa (ZT o9 hsF)
    clear o9 b9
    go_wp2
    exact bodyPost_ret (v:=.tuple #[.slice (some ⟨gT,0,none⟩) k k,u]) (by simp [results,Tryz.results82,go_sem]) rfl ⟨_,V,u,rfl,HOT9.out,HO9.out,HU9.out,hb9⟩
   ·have he:∀ W:World,(Op.equalIn 10000 145 (.agg A2) (.agg A)).run Tryz.prog W=.ok false W:=fun W=>by rw [heq.out W,decide_eq_false he0]
    have hsc3:=run_storeCells_from (P:=Tryz.prog) ga 145 A2.toList 0 A w7 hAr7 (by simp [hA2s,hAs]) (fun v hv=>(Array.all_eq_true_iff_forall_mem.1 hA21) v (by simpa using hv))
    simp only [List.take_zero,List.nil_append,Array.toArray_toList] at hsc3
    have hAr8:=hAr7.setRow A2
    have HB8:=below_setRow HB7.out (Nat.le_refl ga) A2
    have hbl8:=below_setRow hbl7 hgaw A2
    have hs8:w7.heap.size≤(w7.setRow ga A2).heap.size:=(below_setRow (Below.refl 0 w7) (Nat.zero_le _) A2).size
    obtain ⟨w8,hw8⟩:∃ w8,w7.setRow ga A2=w8:=⟨_,rfl⟩
    rw [hw8] at hsc3 hAr8 HB8 hbl8 hs8
    have K7:=Qa (KTA.out w8 none (selR S n k (r+1)) (HSL.out (r+1)) (HSM.out (r+1)) (HG3.out w8 HB8))
    rw [HA2.out] at K7
    clear he0 hw8 HB7 hbl7 HTU7
    go_wp2
    refine ZX 145 (.tmp 11) rfl gn (by rfl) _ _ _ hN7 Tryz.underlying145 rfl hiT2 ?_
    go_wp2
    refine ZX 145 (.tmp 9) rfl ga (by rfl) _ _ _ hAr8 Tryz.underlying145 rfl hiT2 ?_
    go_wp2_with fail
    refine K7.out.mono ?_
    rintro e w9 ⟨gT2,rfl,hgT2,hT9,b9⟩
    have hga8:ga<w8.heap.size:=by omega
    have HAr9:Hid (Has w9 ga 145 (asC (selR S n k (r+1)))):=Qa (by rw [HA2.out];exact hAr8.below b9 hga8)
    have HB9:=Qa (Qc b9 (by omega:ga≤w8.heap.size) HB8)
    have hbl9:=Qc b9 hbl8.size hbl8
    have hT9':=Qa hT9
    have hgT2w:w.heap.size≤gT2:=by omega
    have hga9:ga<w9.heap.size:=by have:=b9.size;omega
    clear hT9 b9 hAr8 HB8 hbl8 hN7 hsc3 hAr7 K7
    go_wp2
    go_roundw
    case rel=>exact ⟨r+1,gT2,by omega,by go_num,rfl,hgT2w,hga9,hT9',HAr9,HB9,hbl9⟩
    case measure=>simp [intOf];omega
  ·have hr:r=2:=by omega
   have hTUf:Xa wr gT (tab2 S n k) k:=by
    have h:=HTU.out
    rw [hr,HTWO.out] at h
    exact h
   have hASf:Has wr ga 145 (asC (sel2 S n k)):=by
    have h:=HAr.out
    rw [hr,HTWO.out] at h
    exact h
   have hOTx:=Xa.ownT (lo:=w.heap.size) (T:=tab2 S n k) (by rw [show (tab2 S n k).length=k from HTL.out _];exact hTUf) hgTw (by rw [show (tab2 S n k).length=k from HTL.out _];omega)
   rw [show (tab2 S n k).length=k from HTL.out _] at hOTx
   obtain ⟨V,hOT,hVlt⟩:=hOTx
   have KD:=Qa (yf (some ⟨ga,0,none⟩) 200 (ga+1) (chN S (tabL S (sel1 S n k) n k)) wr (AGe hASf (Ve S (tabL S (sel1 S n k) n k))) (by omega) (by rw [VZ,HQ.out];omega))
   rw [←Ve,VZ,HQ.out] at KD
   have HOT:=Qa hOT
   have HVL:=Qa hVlt
   clear hOT hVlt
   have hsF:=hbl.size
   go_wp2_with fail
   refine KD.out.mono ?_
   rintro e w9 ⟨u,rfl,o9,b9⟩
   have HOT9:=Qa ((HOT.out.below b9).up b9.size)
   have HU9:Hid (∀ x∈V,u.ownBlock=none∨u.ownBlock≠x.ownBlock):=Qa (fun x hx=>by
    cases eu:u.ownBlock with
    | none=>exact .inl rfl
    | some q =>
      refine .inr fun ex=>?_
      have h1:=(o9.lt q eu).1
      have h2:=HVL.out x hx q ex.symm
      omega)
   have hb9:=Qc b9 hsF hbl
   have HO9:=Qa (ZT o9 hsF)
   clear o9 b9
   go_wp2
   exact bodyPost_ret (v:=.tuple #[.slice (some ⟨gT,0,none⟩) k k,u]) (by simp [results,Tryz.results82,go_sem]) rfl ⟨_,V,u,rfl,HOT9.out,HO9.out,HU9.out,hb9⟩
end Go.Proofs.YtembljihmnmmfaaGreat
