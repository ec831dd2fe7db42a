/- Texts of the proof, merged. -/
import Derived.Laws.CopyOwn
import Derived.Maps.AppendAt
import Derived.Test.YtembljihmnmmfaaGreatKB2
import Derived.Deep.RegionHeld3
import Derived.OwnWalk
import Derived.BigQuiet
import Derived.Deep.QuietTactic
import Derived.Test.YtembljihmnmmfaaGreatKB1
set_option maxHeartbeats 4000000
set_option maxRecDepth 100000
namespace Go.Proofs.YtembljihmnmmfaaGreat
set_option linter.unusedVariables false
set_option linter.unusedSimpArgs false
open Go.RowKit
def Lies (w:World) (B:Nat) (a:Option Addr) (cs:List Value):Prop :=
 0<cs.length→∃ b off,a=some ⟨b,off,none⟩∧b<B∧∀ i,i<cs.length→w.cell? ⟨b,off+i,none⟩=cs[i]?
theorem Lies.below {w w':World} {B:Nat} {a:Option Addr} {cs:List Value} (h:Lies w B a cs) (hb:Below B w w'):Lies w' B a cs:=fun h0=>by
 obtain ⟨b,off,e,hB,hc⟩:=h h0
 exact ⟨b,off,e,hB,fun i hi=>(hb.cell (p:=⟨b,off+i,none⟩) hB).trans (hc i hi)⟩
theorem Lies.mono {w:World} {B B':Nat} {a:Option Addr} {cs:List Value} (h:Lies w B a cs) (hB:B≤B'):Lies w B' a cs:=fun h0=>by
 obtain ⟨b,off,e,hb,hc⟩:=h h0
 exact ⟨b,off,e,by omega,hc⟩
theorem Lies.nil (w:World) (B:Nat) (a:Option Addr):Lies w B a []:=fun h=>by simp at h
theorem Lies.own {w:World} {base n c S:Nat} {a:Option Addr} {E:TypeId} {cs:List Value} (h:w.ownsRow base E S (.slice a n c) n cs):Lies w w.heap.size a cs:=fun h0=>by
 have hl:=h.1
 rcases h.2 with ⟨hv,hn0⟩ | ⟨g,cap,cur,hv,_⟩
 ·rw [hn0,Nat.zero_mul] at hl;omega
 ·simp only [Value.slice.injEq] at hv
  obtain ⟨rfl,_,rfl⟩:=hv
  exact ⟨g,0,rfl,(h.lt g rfl).2,fun i hi=>by rw [Nat.zero_add];exact h.cellAt i (by omega)⟩
theorem Lies.take {w:World} {B:Nat} {a:Option Addr} {cs:List Value} (h:Lies w B a cs) (k:Nat):Lies w B a (cs.take k):=fun h0=>by
 rw [List.length_take] at h0
 obtain ⟨b,off,e,hB,hc⟩:=h (by omega)
 refine ⟨b,off,e,hB,fun i hi=>?_⟩
 rw [List.length_take] at hi
 rw [List.getElem?_take,if_pos (by omega)]
 exact hc i (by omega)
theorem Lies.drop {w:World} {B b off:Nat} {cs:List Value} (h:Lies w B (some ⟨b,off,none⟩) cs) (k:Nat):Lies w B (some ⟨b,off+k,none⟩) (cs.drop k):=fun h0=>by
 rw [List.length_drop] at h0
 obtain ⟨b',off',e,hB,hc⟩:=h (by omega)
 injection e with e
 injection e with e1 e2
 subst e1 e2
 refine ⟨b,off+k,rfl,hB,fun i hi=>?_⟩
 rw [List.length_drop] at hi
 rw [List.getElem?_drop,Nat.add_assoc]
 exact hc (k+i) (by omega)
theorem Lies.news {w:World} {B:Nat} {ad:Addr} {cs:List Value} (h:Lies w B (some ad) cs):∀ (j:Nat) (u:Value),cs[j]? = some u→w.cell? (ad.add j)=some u:=by
 intro j u hu
 have hj:=(List.getElem?_eq_some_iff.1 hu).1
 obtain ⟨b,off,e,hB,hc⟩:=h (by omega)
 injection e with e
 subst e
 have e:(⟨b,off,none⟩:Addr).add j=⟨b,off+j,none⟩:=by unfold Addr.add;split <;> simp_all
 rw [e,hc j hj,hu]
theorem Lies.ex {w:World} {B:Nat} {a:Option Addr} {cs:List Value} (h:Lies w B a cs) (h0:0<cs.length):∃ b off,a=some ⟨b,off,none⟩∧b<B:=by
 obtain ⟨b,off,e,hB,_⟩:=h h0
 exact ⟨b,off,e,hB⟩
theorem Lies.cell {w:World} {B b off:Nat} {cs:List Value} (h:Lies w B (.some ⟨b,off,none⟩) cs) (i:Nat) (hi:i<cs.length):w.cell? ⟨b,off+i,none⟩=cs[i]?:=by
 obtain ⟨b',off',e,hB,hc⟩:=h (by omega)
 injection e with e
 injection e with e1 e2
 subst e1 e2
 exact hc i hi
theorem ACz {P:Program} (w:World) (dT sT ty elem:TypeId) (S g o dLen dCap:Nat) (a:Addr) (sLen sCap:Nat) (cur:Array Value) (t:TypeId) (cs:List Value)
 (hu:P.underlying dT=some (.slice elem)) (hs:(P.info? elem).map (·.size)=some S)
 (hg:w.heap[g]? = some (.cells cur t (0,0))) (hn:cs.length=Nat.min sLen dLen*S)
 (hsrc:∀ j v,cs[j]? = some v→w.cell? (a.add j)=some v) (hfit:o+cs.length≤cur.size) (h1:∀ v∈cs,v.oneCell'=true) :
 (Builtin.copy_ #[dT,sT] ty #[.slice (some ⟨g,o,none⟩) dLen dCap,.slice (some a) sLen sCap]).run P w =
   .ok (goInt (Nat.min sLen dLen)) (w.setRow g (cur.toList.take o++cs++cur.toList.drop (o+cs.length)).toArray):=by
 have hl:=run_loadCells_list (P:=P) w a cs hsrc
 have hst:=run_storeCells_at P g o t cs 0 cur w hg (by simpa using hfit) h1
 cases hq:P.info? elem with
 | none=>simp [hq] at hs
 | some i =>
   have hi:i.size=S:=by simpa [hq] using hs
   simp [Builtin.copy_,run_underlying hu,Builtin.lenOf,Builtin.firstCells,sizeOf,typeInfo,hq,hi,←hn,hl,hst]
theorem vD {P:Program} (w:World) (dT sT ty elem:TypeId) (S:Nat) (d a:Option Addr) (dLen dCap sLen sCap:Nat) (hu:P.underlying dT=some (.slice elem)) (hs:(P.info? elem).map (·.size)=some S) (hn:Nat.min sLen dLen=0) :
 (Builtin.copy_ #[dT,sT] ty #[.slice d dLen dCap,.slice a sLen sCap]).run P w=.ok (goInt 0) w:=by
 cases hq:P.info? elem with
 | none=>simp [hq] at hs
 | some i =>
   have hl:∀ (x:Addr),(loadCells x 0).run P w=.ok #[] w:=fun x=>by simpa using run_loadCells_list (P:=P) w x [] (by simp)
   cases d <;> cases a <;> simp [Builtin.copy_,run_underlying hu,Builtin.lenOf,Builtin.firstCells,sizeOf,typeInfo,hq,hn,storeCells,hl]
theorem Ya {P:Program} (w:World) (dT sT ty elem:TypeId) (hu:P.underlying dT=some (.slice elem)) (S:Nat) (hsz:(P.info? elem).map (·.size)=some S) (hS:0<S)
 (base g n c sc B:Nat) (sp:Option Addr) (xs:List Value) (hown:w.ownsRow base elem S (.slice (some ⟨g,0,none⟩) n c) n xs)
 (news:List Value) (hl:news.length=n*S) (hsrc:Lies w B sp news) (h1:∀ u∈news,u.oneCell'=true) :
 ∃ w',(Builtin.copy_ #[dT,sT] ty #[.slice (some ⟨g,0,none⟩) n c,.slice sp n sc]).run P w=.ok (goInt n) w'∧w'.ownsRow base elem S (.slice (some ⟨g,0,none⟩) n c) n news∧w.grownBy w' (some g):=by
 rcases Nat.eq_zero_or_pos n with h0 | h0
 ·subst h0
  have hrun:=vD (P:=P) w dT sT ty elem S (some ⟨g,0,none⟩) sp 0 c 0 sc hu hsz (Nat.min_self 0)
  have hnews:news=[]:=List.eq_nil_of_length_eq_zero (by omega)
  have hxs:xs=[]:=List.eq_nil_of_length_eq_zero (by have:=hown.1;omega)
  subst hnews hxs
  exact ⟨w,hrun,hown,World.grownBy.refl _ _⟩
 ·have hpos:0<news.length:=by rw [hl];exact Nat.mul_pos h0 hS
  obtain ⟨b,off,rfl,hB⟩:=hsrc.ex hpos
  rcases hown.2 with ⟨hv,_⟩ | ⟨g',cap,cur,hv,hb,hcur,hnc,hcm,hcs,htk⟩
  ·cases hv
  ·simp only [Value.slice.injEq,Option.some.injEq,Addr.mk.injEq] at hv
   obtain ⟨⟨rfl,_⟩,_,rfl⟩:=hv
   have hns:n*S≤c*S:=Nat.mul_le_mul_right _ hnc
   have hmin:Nat.min n n=n:=Nat.min_self n
   have hrun:=ACz (P:=P) w dT sT ty elem S g 0 n c ⟨b,off,none⟩ n sc cur elem news hu hsz hcur (by rw [hmin];exact hl) hsrc.news (by rw [hcs,hl];omega) h1
   rw [hmin] at hrun
   refine ⟨_,hrun,⟨hl,.inr ⟨g,c,_,rfl,hb,setRow_heap w g cur _ elem _ hcur,hnc,hcm,?_,?_⟩⟩,⟨rfl,rfl,rfl,by simp [World.setRow],fun k hk hne=>setRow_other w g k _ (fun e=>hne (by rw [e]))⟩⟩
   ·simp [hl,hcs];omega
   ·simp [hl]
end Go.Proofs.YtembljihmnmmfaaGreat
namespace Go.Proofs.YtembljihmnmmfaaGreat
set_option linter.unusedVariables false
set_option linter.unusedSimpArgs false
open Go.RowKit Go.Maps
def ltC (f:Nat→Nat) (a b:Nat):Bool:=decide (f b<f a)
theorem ACr (mb n0:Nat) (f:Nat→Nat) (a b:Nat) (w:World) (hm:Zh w mb n0 f) (ha:a<256) (hb:b<256) :
 Calls Tryz.prog 102 #[.map (some mb),.int .u8 a,.int .u8 b] w fun e w'=>e=.returned (.bool (ltC f a b))∧Below w.heap.size w w':=by
 obtain ⟨D,hown,hC⟩:=hm
 have HE:Hid (ltC f a b=decide ((f b:Int)<(f a:Int))):=Qa (by simp [ltC])
 have HA:=Qa (hC.2.2.1 a ha)
 have HB:=Qa (hC.2.2.1 b hb)
 have hka:=keyB ha
 have hkb:=keyB hb
 obtain ⟨x,hx⟩:∃ x,f a=x:=⟨_,rfl⟩
 obtain ⟨y,hy⟩:∃ y,f b=y:=⟨_,rfl⟩
 rw [hx] at HE HA
 rw [hy] at HE HB
 obtain ⟨cb,hrb,hatb,_⟩:=hown.lookup_int JC Tryz.underlying119 Tryz.underlying3 (yO _) hkb
 obtain ⟨ca,hra,hata,_⟩:=hown.lookup_int JC Tryz.underlying119 Tryz.underlying3 (yO _) hka
 obtain rfl:ca=(x:Int):=by have h1:=hata.symm.trans HA.out;simpa using h1
 obtain rfl:cb=(y:Int):=by have h1:=hatb.symm.trans HB.out;simpa using h1
 clear hC hx hy hata hatb
 have hw:∀ k,((w.drewN k):World).heap=w.heap:=fun _=>rfl
 go_enter Tryz.func102,Tryz.ntmps102
 go_wp2
 go_ret
 exact ⟨Qk (by rw [HE.out];simp),Below.refl _ _⟩
theorem u8sT (L:List Nat) (k:Nat):u8s (L.take k)=(u8s L).take k:=by simp [u8s,List.map_take]
theorem u8sD (L:List Nat) (k:Nat):u8s (L.drop k)=(u8s L).drop k:=by simp [u8s,List.map_drop]
theorem zW {w:World} {base S n:Nat} {E:TypeId} {v:Value} {cs:List Value} (h:w.ownsRow base E S v n cs):∃ a c,v=.slice a n c∧n≤c∧(a=none→n=0∧c=0):=by
 rcases h.2 with ⟨rfl,rfl⟩ | ⟨g,cap,cur,rfl,_,_,hnc,_⟩
 ·exact ⟨none,0,rfl,Nat.le_refl _,fun _=>⟨rfl,rfl⟩⟩
 ·exact ⟨_,cap,rfl,hnc,fun e=>by cases e⟩
theorem Lies.newsO7 {w:World} {B:Nat} {a:Option Addr} {cs:List Value} (h:Lies w B a cs):∀ ad,a=some ad→∀ (j:Nat) (u:Value),cs[j]? = some u→w.cell? (ad.add j)=some u:=by
 rintro ad rfl;exact h.news
theorem AAw {w:World} {B b off:Nat} {x:Nat} {L:List Nat} (h:Lies w B (some ⟨b,off,none⟩) (u8s (x::L))):w.cell? ⟨b,off,none⟩=some (.int .u8 (x:Int))∧b<B∧Lies w B (some ⟨b,off+1,none⟩) (u8s L):=by
 have hl:(u8s (x::L)).length=L.length+1:=by rw [Zo];simp
 have h0:=h.cell 0 (by omega)
 have h2:=h.drop 1
 obtain ⟨b',off',e,hb⟩:=h.ex (by omega)
 injection e with e
 injection e with e1 e2
 subst e1
 exact ⟨h0,hb,h2⟩
theorem ATj (a:Option Addr) (cap B:Nat) (L:List Nat) (w:World) (hz:Lies w B a (u8s L)) (hB:B≤w.heap.size) (hlen:L.length≤1048576) :
 Calls Tryz.prog 145 #[.slice a L.length cap] w fun e w'=>∃ v,e=.returned v∧w'.ownsRow w.heap.size 5 1 v L.length (u8s L)∧Below w.heap.size w w':=by
 obtain ⟨j0,ji,jz0,jz1,jz2⟩:=info_parts Tryz.info5
 obtain ⟨n,hn⟩:∃ n,L.length=n:=⟨_,rfl⟩
 have HN:=Qa hn
 have HZ:=Qa hz
 rw [hn] at hlen ⊢
 clear hn hz
 go_enter Tryz.func145,Tryz.ntmps145
 go_wp2_with (at_make;refine wpList_make_full _ rfl _ _ 61 rfl w.heap.size 5 j0 (.int .u8 0) 1 Tryz.underlying61 ji jz0 jz1 .i64 .i64 _ _ n rfl rfl rfl rfl ?cb1 ?cb2 ?cb3 ?_)
 case cb1=>rw [jz2];omega
 case cb2=>unfold maxLen;omega
 case cb3=>exact Nat.le_refl _
 intro w1 hown hgrow
 have hbl:Below w.heap.size w w1:=⟨hgrow.os,hgrow.tape,hgrow.output,hgrow.size,fun i hi=>hgrow.block i hi (by simp)⟩
 clear hgrow
 obtain ⟨w2,hrun,hown2,hgrow2⟩:=Ya (P:=Tryz.prog) w1 61 61 3 5 Tryz.underlying61 1 (by simp [ji,jz1]) (by decide) w.heap.size w.heap.size n n cap B a _ hown (u8s L) (by rw [Zo,HN.out] <;> omega) (HZ.out.below (hbl.mono hB)) (JA L)
 have hbl2:Below w.heap.size w w2:=hbl.grown hgrow2 hbl.size (fun b hb=>by cases hb;exact Nat.le_refl _)
 clear hgrow2 hown hbl
 go_wp2
 go_ret
 exact ⟨_,rfl,hown2,hbl2⟩
theorem AHj (a1 a2:Option Addr) (c1 c2 B:Nat) (A M:List Nat) (w:World) (mb n0:Nat) (f:Nat→Nat) (hmc:Zh w mb n0 f) (hBA:Byt A) (hBM:Byt M) (hA:Lies w B a1 (u8s A)) (hM:Lies w B a2 (u8s M)) (hB:B≤w.heap.size) (hcA:A.length≤c1) (hcM:M.length≤c2)
 (hn1:a1=none→A.length=0∧c1=0) (hn2:a2=none→M.length=0∧c2=0) (hlA:A.length≤1048576) (hlM:M.length≤1048576) :
 Calls Tryz.prog 146 #[.slice a1 A.length c1,.slice a2 M.length c2,.func (.func 102) #[.map (some mb)] #[]] w fun e w'=>∃ v,e=.returned v∧w'.ownsRow w.heap.size 5 1 v (A.length+M.length) (u8s (mrg (ltC f) A M))∧Below w.heap.size w w':=by
 obtain ⟨i0,hi,hz0,hz1,hz2⟩:=info_parts Tryz.info5
 obtain ⟨la0,hla0⟩:∃ n,A.length=n:=⟨_,rfl⟩
 obtain ⟨lm0,hlm0⟩:∃ n,M.length=n:=⟨_,rfl⟩
 rw [hla0] at hcA hlA hn1 ⊢
 rw [hlm0] at hcM hlM hn2 ⊢
 have HLA:=Qa hla0
 have HLM:=Qa hlm0
 have HA:=Qa hA
 have HM:=Qa hM
 have HN1:=Qa hn1
 have HN2:=Qa hn2
 have HMC:=Qa hmc
 have HYA0:=Qa hBA
 have HYM0:=Qa hBM
 clear hla0 hlm0 hA hM hn1 hn2 hmc hBA hBM
 obtain ⟨N,hN⟩:∃ N,la0+lm0=N:=⟨_,rfl⟩
 have HNN:=Qa hN
 go_enter Tryz.func146,Tryz.ntmps146
 go_wp2_with (at_make;refine wpList_make_own _ rfl _ _ 61 rfl w.heap.size 5 i0 (.int .u8 0) 1 Tryz.underlying61 hi hz0 hz1 _ _ _ N rfl rfl (by omega) ?b2 ?b3 (Nat.le_refl _) ?_)
 case b2=>rw [hz2];omega
 case b3=>unfold maxLen;omega
 intro w0 hown0 hgrow0
 have hbl0:Below w.heap.size w w0:=(Below.refl _ _).grown hgrow0 (Nat.le_refl _) (fun k h=>by cases h)
 clear hgrow0
 go_wp2
 go_loopw [0,1,7] (fun sa sb so wr=>∃ (x1 x2:Option Addr) (la lm lo d1 d2:Nat) (A' M' O:List Nat),sa=.slice x1 la d1∧sb=.slice x2 lm d2∧so=.slice (some ⟨w.heap.size,0,none⟩) lo N∧la≤d1∧lm≤d2∧lo+la+lm=N∧Hid (A'.length=la∧M'.length=lm∧O.length=lo)∧Hid (x1=none→la=0∧d1=0)∧Hid (x2=none→lm=0∧d2=0)∧Hid (Byt A')∧Hid (Byt M') ∧
  Hid (Lies wr B x1 (u8s A'))∧Hid (Lies wr B x2 (u8s M'))∧Hid (O++mrg (ltC f) A' M'=mrg (ltC f) A M)∧wr.ownsRow w.heap.size 5 1 (.slice (some ⟨w.heap.size,0,none⟩) lo N) lo (u8s O)∧Below w.heap.size w wr)
  (fun sa sb _ _=>(match sa with | .slice _ l _=>l | _=>0)+(match sb with | .slice _ l _=>l | _=>0))
 case atStart=>exact ⟨a1,a2,la0,lm0,0,c1,c2,A,M,[],rfl,rfl,rfl,hcA,hcM,by omega,Qa ⟨HLA.out,HLM.out,rfl⟩,HN1,HN2,HYA0,HYM0,Qa (HA.out.below (hbl0.mono hB)),Qa (HM.out.below (hbl0.mono hB)),Qa (by simp),hown0,hbl0⟩
 case round =>
  obtain ⟨x1,x2,la,lm,lo,d1,d2,A',M',O,rfl,rfl,rfl,hd1,hd2,hsum,HLn,HX1,HX2,HYA,HYM,HA',HM',HO,hown,hbl⟩:=hrel
  clear hown0 hbl0
  by_cases h12:0<la∧0<lm
  ·obtain ⟨h1,h2⟩:=h12
   obtain ⟨p1,A2,rfl⟩:∃ x A2,A'=x::A2:=by
    cases A' with
    | nil=>have:=HLn.out.1;simp at this;omega
    | cons x A2=>exact ⟨x,A2,rfl⟩
   obtain ⟨q1,M2,rfl⟩:∃ x M2,M'=x::M2:=by
    cases M' with
    | nil=>have:=HLn.out.2.1;simp at this;omega
    | cons x M2=>exact ⟨x,M2,rfl⟩
   obtain ⟨la,rfl⟩:∃ k,la=k+1:=⟨la-1,by omega⟩
   obtain ⟨lm,rfl⟩:∃ k,lm=k+1:=⟨lm-1,by omega⟩
   obtain ⟨d1,rfl⟩:∃ k,d1=k+1:=⟨d1-1,by omega⟩
   obtain ⟨d2,rfl⟩:∃ k,d2=k+1:=⟨d2-1,by omega⟩
   obtain ⟨b1,o1,rfl,hb1⟩:=HA'.out.ex (by rw [Zo];simp)
   obtain ⟨b2,o2,rfl,hb2⟩:=HM'.out.ex (by rw [Zo];simp)
   obtain ⟨e1,_,HA2⟩:=AAw HA'.out
   obtain ⟨f1,_,HM2⟩:=AAw HM'.out
   replace HA2:=Qa HA2
   replace HM2:=Qa HM2
   have hsz:=hbl.size
   clear h1 h2
   obtain ⟨r,hr⟩:∃ r,(ltC f) q1 p1=r:=⟨_,rfl⟩
   have hp256:=HYA.out p1 (List.mem_cons_self ..)
   have hq256:=HYM.out q1 (List.mem_cons_self ..)
   have hmr:=HMC.out.below hbl
   have HYA2:Hid (Byt A2):=Qa (fun b hb=>HYA.out b (List.mem_cons_of_mem _ hb))
   have HYM2:Hid (Byt M2):=Qa (fun b hb=>HYM.out b (List.mem_cons_of_mem _ hb))
   have KL:=Qa (fun (W:World) (h:Zh W mb n0 f)=>ACr mb n0 f q1 p1 W h hq256 hp256)
   rw [hr] at KL
   skip
   have HR:=Qa hr
   clear hr
   have hl1:b1<wr.heap.size:=by omega
   have hl2:b2<wr.heap.size:=by omega
   cases r
   ·go_wp2
    go_region_held3 (fun w'=>w'.cell? ⟨b1,o1,none⟩=some (.int .u8 (p1:Int))∧w'.cell? ⟨b2,o2,none⟩=some (.int .u8 (q1:Int))) (go_keep) (first | (go_at_call 102;(with_reducible refine (KL.out _ ?hcm).mono ?_);(case hcm=>exact hmr);rintro e wp ⟨rfl,Bp⟩;have g1:=(Bp.cell (p:=⟨b1,o1,none⟩) hl1).trans e1;have g3:=(Bp.cell (p:=⟨b2,o2,none⟩) hl2).trans f1))
    have hbl2:Below w.heap.size w wp:=Qc Bp hsz hbl.drew
    have hown2:wp.ownsRow w.heap.size 5 1 (.slice (some ⟨w.heap.size,0,none⟩) lo N) lo (u8s O):=Ql (w:=wr.drew) hown Bp
    have hsz2:=hbl2.size
    clear hbl hown e1 f1
    go_wp2_with (at_builtin;refine wpList_append_fits _ rfl _ _ 61 rfl w.heap.size 5 i0 1 Tryz.underlying61 hi hz1 w.heap.size lo N _ rfl (hown2.alloc _) ⟨wp.heap.size,0,none⟩ 1 _ [.int .u8 (p1:Int)] rfl rfl ?da2 ?da3 ?da4 ?_)
    case da2=>exact JY _ _ _
    case da3=>exact (fun u hu=>by simp at hu;subst hu;rfl)
    case da4=>omega
    intro w3 hown3 hgrow
    have hblN:Below w.heap.size w w3:=(hbl2.alloc (by omega) _).grown hgrow (by simp;omega) (fun b hb=>by cases hb;exact Nat.le_refl _)
    have hbw3:Below w.heap.size wr w3:=by
     have h1:Below w.heap.size wr wp:=⟨Bp.os,Bp.tape,Bp.output,Bp.size,fun i hi=>Bp.block i (by show i<wr.heap.size;omega)⟩
     exact (h1.alloc (by omega) _).grown hgrow (by simp;omega) (fun b hb=>by cases hb;exact Nat.le_refl _)
    have hownN:w3.ownsRow w.heap.size 5 1 (.slice (some ⟨w.heap.size,0,none⟩) (lo+1) N) (lo+1) (u8s (O++[p1])):=by rw [ZU];exact hown3
    have HO2:Hid ((O++[p1])++mrg (ltC f) A2 (q1::M2)=mrg (ltC f) A M):=Qa (by
     rw [←HO.out,mrg,if_neg (by rw [HR.out];decide),List.append_assoc];rfl)
    have LL:Hid (A2.length=la∧(q1::M2).length=lm+1∧(O++[p1]).length=lo+1):=Qa (by have:=HLn.out;simp at this ⊢;omega)
    have L1:Hid (Lies w3 B (some ⟨b1,o1+1,none⟩) (u8s A2)):=Qa (HA2.out.below (hbw3.mono hB))
    have L2:Hid (Lies w3 B (some ⟨b2,o2,none⟩) (u8s (q1::M2))):=Qa (HM'.out.below (hbw3.mono hB))
    clear hown3 hgrow hown2 hbl2 g1 g3
    by_cases hd:d1=0
    ·subst hd
     obtain rfl:la=0:=by omega
     go_wp2
     refine ⟨⟨_,_,_,_,_,_,_,A2,q1::M2,O++[p1],rfl,rfl,rfl,by omega,by omega,by omega,LL,Qa (fun e=>by cases e),Qa (fun e=>by cases e),HYA2,HYM,Qa ?_,L2,HO2,hownN,hblN⟩,by simp only;omega⟩
     rw [List.eq_nil_of_length_eq_zero (l:=A2) (by have:=LL.out;omega)]
     exact Lies.nil _ _ _
    ·have hd':¬ (d1:Int)+1=1:=by omega
     go_wp2
     exact ⟨⟨_,_,_,_,_,_,_,A2,q1::M2,O++[p1],rfl,rfl,rfl,by omega,by omega,by omega,LL,Qa (fun e=>by cases e),Qa (fun e=>by cases e),HYA2,HYM,L1,L2,HO2,hownN,hblN⟩,by simp only;omega⟩
   ·go_wp2
    go_region_held3 (fun w'=>w'.cell? ⟨b1,o1,none⟩=some (.int .u8 (p1:Int))∧w'.cell? ⟨b2,o2,none⟩=some (.int .u8 (q1:Int))) (go_keep) (first | (go_at_call 102;(with_reducible refine (KL.out _ ?hcm).mono ?_);(case hcm=>exact hmr);rintro e wp ⟨rfl,Bp⟩;have g1:=(Bp.cell (p:=⟨b1,o1,none⟩) hl1).trans e1;have g3:=(Bp.cell (p:=⟨b2,o2,none⟩) hl2).trans f1))
    have hbl2:Below w.heap.size w wp:=Qc Bp hsz hbl.drew
    have hown2:wp.ownsRow w.heap.size 5 1 (.slice (some ⟨w.heap.size,0,none⟩) lo N) lo (u8s O):=Ql (w:=wr.drew) hown Bp
    have hsz2:=hbl2.size
    clear hbl hown e1 f1
    go_wp2_with (at_builtin;refine wpList_append_fits _ rfl _ _ 61 rfl w.heap.size 5 i0 1 Tryz.underlying61 hi hz1 w.heap.size lo N _ rfl (hown2.alloc _) ⟨wp.heap.size,0,none⟩ 1 _ [.int .u8 (q1:Int)] rfl rfl ?da2 ?da3 ?da4 ?_)
    case da2=>exact JY _ _ _
    case da3=>exact (fun u hu=>by simp at hu;subst hu;rfl)
    case da4=>omega
    intro w3 hown3 hgrow
    have hblN:Below w.heap.size w w3:=(hbl2.alloc (by omega) _).grown hgrow (by simp;omega) (fun b hb=>by cases hb;exact Nat.le_refl _)
    have hbw3:Below w.heap.size wr w3:=by
     have h1:Below w.heap.size wr wp:=⟨Bp.os,Bp.tape,Bp.output,Bp.size,fun i hi=>Bp.block i (by show i<wr.heap.size;omega)⟩
     exact (h1.alloc (by omega) _).grown hgrow (by simp;omega) (fun b hb=>by cases hb;exact Nat.le_refl _)
    have hownN:w3.ownsRow w.heap.size 5 1 (.slice (some ⟨w.heap.size,0,none⟩) (lo+1) N) (lo+1) (u8s (O++[q1])):=by rw [ZU];exact hown3
    have HO2:Hid ((O++[q1])++mrg (ltC f) (p1::A2) M2=mrg (ltC f) A M):=Qa (by
     rw [←HO.out,mrg,if_pos HR.out,List.append_assoc];rfl)
    have LL:Hid ((p1::A2).length=la+1∧M2.length=lm∧(O++[q1]).length=lo+1):=Qa (by have:=HLn.out;simp at this ⊢;omega)
    have L1:Hid (Lies w3 B (some ⟨b1,o1,none⟩) (u8s (p1::A2))):=Qa (HA'.out.below (hbw3.mono hB))
    have L2:Hid (Lies w3 B (some ⟨b2,o2+1,none⟩) (u8s M2)):=Qa (HM2.out.below (hbw3.mono hB))
    clear hown3 hgrow hown2 hbl2 g1 g3
    by_cases hd:d2=0
    ·subst hd
     obtain rfl:lm=0:=by omega
     go_wp2
     refine ⟨⟨_,_,_,_,_,_,_,p1::A2,M2,O++[q1],rfl,rfl,rfl,by omega,by omega,by omega,LL,Qa (fun e=>by cases e),Qa (fun e=>by cases e),HYA,HYM2,L1,Qa ?_,HO2,hownN,hblN⟩,by simp only;omega⟩
     rw [List.eq_nil_of_length_eq_zero (l:=M2) (by have:=LL.out;omega)]
     exact Lies.nil _ _ _
    ·have hd':¬ (d2:Int)+1=1:=by omega
     go_wp2
     exact ⟨⟨_,_,_,_,_,_,_,p1::A2,M2,O++[q1],rfl,rfl,rfl,by omega,by omega,by omega,LL,Qa (fun e=>by cases e),Qa (fun e=>by cases e),HYA,HYM2,L1,L2,HO2,hownN,hblN⟩,by simp only;omega⟩
  ·by_cases h1:0<la
   ·go_wp2_with (at_builtin;first
    | (refine wpList_append_fits_any _ rfl _ _ 61 rfl w.heap.size 5 i0 1 Tryz.underlying61 hi hz1 w.heap.size (lo+la) N _ rfl hown1 x2 lm d2 (u8s M') rfl (by rw [Zo,HLn.out.2.1] <;> omega) HX2.out (L2w.newsO7) (JA _) (by omega) ?_)
    | (refine wpList_append_fits_any _ rfl _ _ 61 rfl w.heap.size 5 i0 1 Tryz.underlying61 hi hz1 w.heap.size lo N _ rfl hown x1 la d1 (u8s A') rfl (by rw [Zo,HLn.out.1] <;> omega) HX1.out (HA'.out.newsO7) (JA _) (by omega) ?_;intro w1 hown1 hgrow1;have L2w:Lies w1 B x2 (u8s M'):=HM'.out.below ((show Below w.heap.size wr w1 from (Below.refl _ _).grown hgrow1 hbl.size (fun b hb=>by cases hb;exact Nat.le_refl _)).mono hB)))
    intro w2 hown2 hgrow2
    go_wp2
    go_ret
    have hnot:¬ (0<A'.length∧0<M'.length):=by rw [HLn.out.1,HLn.out.2.1];exact h12
    have em:=xH (ltC f) A' M' 0 0 hnot
    rw [List.drop_zero,List.drop_zero] at em
    rw [←ZU,←ZU,←em,HO.out] at hown2
    rw [HNN.out]
    exact ⟨_,rfl,hown2,(hbl.grown hgrow1 hbl.size (fun b hb=>by cases hb;exact Nat.le_refl _)).grown hgrow2 (Nat.le_trans hbl.size hgrow1.size) (fun b hb=>by cases hb;exact Nat.le_refl _)⟩
   ·go_wp2_with (at_builtin;first
    | (refine wpList_append_fits_any _ rfl _ _ 61 rfl w.heap.size 5 i0 1 Tryz.underlying61 hi hz1 w.heap.size (lo+la) N _ rfl hown1 x2 lm d2 (u8s M') rfl (by rw [Zo,HLn.out.2.1] <;> omega) HX2.out (L2w.newsO7) (JA _) (by omega) ?_)
    | (refine wpList_append_fits_any _ rfl _ _ 61 rfl w.heap.size 5 i0 1 Tryz.underlying61 hi hz1 w.heap.size lo N _ rfl hown x1 la d1 (u8s A') rfl (by rw [Zo,HLn.out.1] <;> omega) HX1.out (HA'.out.newsO7) (JA _) (by omega) ?_;intro w1 hown1 hgrow1;have L2w:Lies w1 B x2 (u8s M'):=HM'.out.below ((show Below w.heap.size wr w1 from (Below.refl _ _).grown hgrow1 hbl.size (fun b hb=>by cases hb;exact Nat.le_refl _)).mono hB)))
    intro w2 hown2 hgrow2
    go_wp2
    go_ret
    have hnot:¬ (0<A'.length∧0<M'.length):=by rw [HLn.out.1,HLn.out.2.1];exact h12
    have em:=xH (ltC f) A' M' 0 0 hnot
    rw [List.drop_zero,List.drop_zero] at em
    rw [←ZU,←ZU,←em,HO.out] at hown2
    rw [HNN.out]
    exact ⟨_,rfl,hown2,(hbl.grown hgrow1 hbl.size (fun b hb=>by cases hb;exact Nat.le_refl _)).grown hgrow2 (Nat.le_trans hbl.size hgrow1.size) (fun b hb=>by cases hb;exact Nat.le_refl _)⟩
theorem AIq (v1 v2:Value) (b1 b2 n1 n2:Nat) (A M:List Nat) (w:World) (mb n0:Nat) (f:Nat→Nat) (hmc:Zh w mb n0 f) (hBA:Byt A) (hBM:Byt M) (h1:w.ownsRow b1 5 1 v1 n1 (u8s A)) (h2:w.ownsRow b2 5 1 v2 n2 (u8s M)) (hl1:A.length=n1) (hl2:M.length=n2) (h3:n1≤1048576) (h4:n2≤1048576) :
 Calls Tryz.prog 146 #[v1,v2,.func (.func 102) #[.map (some mb)] #[]] w fun e w'=>∃ v,e=.returned v∧w'.ownsRow w.heap.size 5 1 v (n1+n2) (u8s (mrg (ltC f) A M))∧Below w.heap.size w w':=by
 obtain ⟨a1,c1,rfl,hc1,hn1⟩:=zW h1
 obtain ⟨a2,c2,rfl,hc2,hn2⟩:=zW h2
 subst hl1 hl2
 exact AHj a1 a2 c1 c2 w.heap.size A M w mb n0 f hmc hBA hBM (Lies.own h1) (Lies.own h2) (Nat.le_refl _) hc1 hc2 hn1 hn2 h3 h4
theorem AIn (mb n0:Nat) (f:Nat→Nat) (n:Nat):∀ (a:Option Addr) (cap B:Nat) (L:List Nat) (w:World),Zh w mb n0 f→Byt L→L.length=n→Lies w B a (u8s L)→B≤w.heap.size→n≤cap→(a=none→n=0∧cap=0)→n≤1048576 →
 Calls Tryz.prog 101 #[.slice a n cap,.func (.func 102) #[.map (some mb)] #[]] w fun e w'=>∃ v,e=.returned v∧w'.ownsRow w.heap.size 5 1 v n (u8s (srt (ltC f) L))∧Below w.heap.size w w':=by
 induction n using Nat.strongRecOn with
 | _ n ih =>
   intro a cap B L w hmc hBL hn hz hB hcap hnone hlen
   by_cases h2:n<2
   ·have KD:=Qa (ATj a cap B L w hz hB (by omega))
    rw [hn] at KD
    have HS:Hid (srt (ltC f) L=L):=Qa (Yn _ _ (by omega))
    clear hn hz ih hnone hmc hBL
    go_enter Tryz.func101,Tryz.ntmps101
    go_wp2_with fail
    refine KD.out.mono ?_
    rintro e w' ⟨v,rfl,hown,hb⟩
    go_wp2
    go_ret
    exact ⟨_,rfl,by rw [HS.out];exact hown,hb⟩
   ·obtain ⟨b,off,rfl,hb⟩:=hz.ex (by rw [Zo,hn];omega)
    obtain ⟨h,hh⟩:∃ h,n / 2=h:=⟨_,rfl⟩
    have K1:=Qa (fun (W:World) (hW:Below w.heap.size w W)=>ih h (by omega) (some ⟨b,off,none⟩) cap B (L.take h) W (hmc.below hW) (fun b hb=>hBL b (List.mem_of_mem_take hb)) (by rw [List.length_take,hn];omega) (by rw [u8sT];exact (hz.below (hW.mono hB)).take _) (Nat.le_trans hB hW.size) (by omega) (fun e=>by cases e) (by omega))
    have K2:=Qa (fun (W:World) (hW:Below w.heap.size w W)=>ih (n-h) (by omega) (some ⟨b,off+h,none⟩) (cap-h) B (L.drop h) W (hmc.below hW) (fun b hb=>hBL b (List.mem_of_mem_drop hb)) (by rw [List.length_drop,hn]) (by rw [u8sD];exact (hz.below (hW.mono hB)).drop _) (Nat.le_trans hB hW.size) (by omega) (fun e=>by cases e) (by omega))
    have K3:=Qa (fun (W:World) (hW:Below w.heap.size w W) (v1 v2:Value) (b1 b2:Nat) (h1:W.ownsRow b1 5 1 v1 h (u8s (srt (ltC f) (L.take h)))) (h2:W.ownsRow b2 5 1 v2 (n-h) (u8s (srt (ltC f) (L.drop h))))=>AIq v1 v2 b1 b2 h (n-h) _ _ W mb n0 f (hmc.below hW) (fun b hb=>hBL b (List.mem_of_mem_take ((XI _ _).mem_iff.1 hb))) (fun b hb=>hBL b (List.mem_of_mem_drop ((XI _ _).mem_iff.1 hb))) h1 h2 (by rw [xD,List.length_take,hn];omega) (by rw [xD,List.length_drop,hn]) (by omega) (by omega))
    have HS:Hid (srt (ltC f) L=mrg (ltC f) (srt (ltC f) (L.take h)) (srt (ltC f) (L.drop h))):=Qa (by rw [qu (ltC f) L (by omega),hn,hh])
    have hq:(n:Int).tdiv 2=(h:Int):=by rw [Int.tdiv_eq_ediv_of_nonneg (by omega)];omega
    have hdn:h+(n-h)=n:=by omega
    have HDN:=Qa hdn
    have i1:(h:Int)≤(n:Int):=by omega
    have i2:(h:Int)≤(cap:Int):=by omega
    have i3:(0:Int)≤(h:Int):=by omega
    have i4:¬ (cap:Int)=(h:Int):=by omega
    have i5:¬ cap=h:=by omega
    have i6:(n:Int)≤(cap:Int):=by omega
    have bb:Below w.heap.size w w:=Below.refl _ _
    clear hn hz ih hnone hmc hBL hh
    go_enter Tryz.func101,Tryz.ntmps101
    go_wp2
    go_region_held3 (fun w'=>Below w.heap.size w w') (exact ⟨bb.os,bb.tape,bb.output,bb.size,bb.block⟩) (first | (go_at_call 101;first | ((with_reducible refine (K1.out _ ?hW).mono ?_);(case hW=>exact ⟨bb.os,bb.tape,bb.output,bb.size,bb.block⟩);rintro e wX ⟨v1,rfl,o1,BX⟩;have yX:=BX.size;(try simp at yX);replace bb:Below w.heap.size w wX:=Qc BX (by (have hbb:=bb.size;(try simp);(try omega))) ⟨bb.os,bb.tape,bb.output,bb.size,bb.block⟩;clear BX) | ((with_reducible refine (K2.out _ ?hW).mono ?_);(case hW=>exact ⟨bb.os,bb.tape,bb.output,bb.size,bb.block⟩);rintro e wX ⟨v2,rfl,o2,BX⟩;have yX:=BX.size;(try simp at yX);replace bb:Below w.heap.size w wX:=Qc BX (by (have hbb:=bb.size;(try simp);(try omega))) ⟨bb.os,bb.tape,bb.output,bb.size,bb.block⟩;replace o1:=Ql o1 BX;clear BX)) | (go_at_call 146;refine (K3.out _ ⟨bb.os,bb.tape,bb.output,bb.size,bb.block⟩ v1 v2 _ _ (by exact o1) (by exact o2)).mono ?_;rintro e wX ⟨v3,rfl,o3,BX⟩;have yX:=BX.size;(try simp at yX);replace o3:=Joins.ownsRow_le o3 bb.size;replace bb:Below w.heap.size w wX:=Qc BX (by (have hbb:=bb.size;(try simp);(try omega))) ⟨bb.os,bb.tape,bb.output,bb.size,bb.block⟩;clear BX))
    all_goals
     rw [←HS.out,HDN.out] at o3
     go_wp2
     go_ret
     exact ⟨_,rfl,o3,⟨bb.os,bb.tape,bb.output,bb.size,bb.block⟩⟩
end Go.Proofs.YtembljihmnmmfaaGreat
