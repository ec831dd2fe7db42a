/- Texts of the proof, merged. -/
import Derived.Test.YtembljihmnmmfaaGreatKB29
import Derived.Test.YtembljihmnmmfaaGreatKB23
import Derived.Test.YtembljihmnmmfaaGreatKB37
namespace Go.Proofs.YtembljihmnmmfaaGreat
set_option maxHeartbeats 4000000
set_option maxRecDepth 100000
set_option linter.unusedVariables false
set_option linter.unusedSimpArgs false
open Go.RowKit Go.Shelf
attribute [local go_sem] Oper.semAt_some
attribute [local go_sem,local simp] AGr
def pkL (L:List Nat) {N:Nat} (pre:List (Chk9 N)):List Nat:=(pre.map Subtype.val).flatMap (pkC (ints L))
theorem AVi (L:List Nat) {N:Nat} (pre:List (Chk9 N)) (x:Chk9 N):pkL L (pre++[x])=pkL L pre++pkC (ints L) x.1:=by simp [pkL]
theorem AKh (L:List Nat) {N:Nat} (hN:N≤600) (x:Chk9 N):(pkC (ints L) x.1).length≤600:=by
 have h:=x.2
 unfold pkC
 split
 ·simp
 ·have:=qi x.1.2;omega
theorem AJs (L:List Nat) {N:Nat} (hN:N≤600):∀ (pre:List (Chk9 N)),(pkL L pre).length≤600*pre.length
 | []=>by simp [pkL]
 | x::pre=>by
   have h1:=AKh L hN x
   have h2:=AJs L hN pre
   have e:pkL L (x::pre)=pkC (ints L) x.1++pkL L pre:=by simp [pkL]
   rw [e,List.length_append,List.length_cons]
   omega
theorem ACx {β:Type} (B k:Nat):OwnFrom B (fun (_:β) (W:World)=>k≤W.heap.size):=fun s X Y row hs hg hr=>Nat.le_trans hs hg.size
theorem JE {W:World} {base:Nat} {e:TypeId} {v:Value} {k:Nat} {xs:List Value} (h:W.ownsRow base e 1 v k xs) (h0:0<k):∃ g cap,v=.slice (some ⟨g,0,none⟩) k cap:=by
 rcases h.2 with ⟨_,h1⟩ | ⟨g,cap,_,rfl,_⟩
 ·omega
 ·exact ⟨g,cap,rfl⟩
theorem xZ (a:Option Addr) (b off cap B m N:Nat) (L:List Nat) (w:World) (hz:Ints w B a (ints L)) (hB:B≤w.heap.size) (hok:rOk (ints L) m=true) (hm1:1≤m) (hm2:m≤256) (hL6:N≤600) (hLm:∀ x∈L,x<m) (hN:L.length=N) (hcap:N≤cap)
 (hI:0<N→a=some ⟨b,off,none⟩∧b<w.heap.size∧∀ j,j<N→w.cell? ⟨b,off+j,none⟩=some (.int .i64 ((ints L).getD j 0))) :
 CallsIn Fence.wide 6 Tryz.prog 58 #[.slice a N cap,.int .i64 m] w fun e w'=>∃ v,e=.returned v∧w'.ownsRow w.heap.size 3 1 v (Ze 0 L++[m+1]).length (Qe (Ze 0 L++[m+1]))∧Below w.heap.size w w':=by
 obtain ⟨i0,hi,hz0,hz1,hz2⟩:=info_parts Tryz.infoInt
 have KR:=Qa (Zs a cap B (ints L) m w hz (by rw [Qj];omega) (by omega) (by omega))
 rw [hok,Qj,hN] at KR
 obtain ⟨W0,hW0⟩:∃ W0,w.alloc (.cells #[.slice none 0 0] 24)=W0:=⟨_,rfl⟩
 have bO:=Boxed.new w 24 (.slice none 0 0)
 have hB0:Below w.heap.size w W0:=by rw [←hW0];exact (Below.refl _ w).alloc (Nat.le_refl _) _
 have hs0:W0.heap.size=w.heap.size+1:=by rw [←hW0];simp
 rw [hW0] at bO
 obtain ⟨Wl,hWl⟩:∃ Wl,(W0.alloc (.cells #[.slice a N cap] 24)).alloc (.cells #[.int .i64 1] 3)=Wl:=⟨_,rfl⟩
 have hBl:Below w.heap.size w Wl:=by rw [←hWl];exact (hB0.alloc (by omega) _).alloc (by simp;omega) _
 have hsl:w.heap.size+3≤Wl.heap.size:=by rw [←hWl];simp;omega
 have bO3:Boxed Wl w.heap.size 24 (.slice none 0 0):=by rw [←hWl];exact (bO.alloc _).alloc _
 have bL:Boxed Wl (w.heap.size+1) 24 (.slice a N cap):=by
  rw [←hWl,←hs0];exact (Boxed.new W0 _ _).alloc _
 have bB:Boxed Wl (w.heap.size+1+1) 3 (.int .i64 1):=by
  have h:=Boxed.new (W0.alloc (.cells #[.slice a N cap] 24)) 3 (.int .i64 1)
  rw [World.size_alloc,hs0] at h
  rw [←hWl];exact h
 have hseq:=ALv 5 (by omega) (w.heap.size+1) (w.heap.size+1+1) w.heap.size b off N cap a 1 (ints L) (by rw [Qj,hN]) (by omega) hcap Wl (by omega) (by omega) (by omega) bL.cell bB.cell hz.2.1
  (fun h=>by
    obtain ⟨h1,h2,h3⟩:=hI h
    exact ⟨h1,h2,fun j hj=>(hBl.cell (p:=⟨b,off+j,none⟩) h2).trans (h3 j hj)⟩)
 refine callsIn_of_wp_marks Tryz.func58 rfl trivial ?_ rfl
 simp only [Tryz.ntmps58,List.size_toArray,List.length_cons,List.length_nil,Nat.reduceAdd,Nat.reduceSub,Array.replicate_succ,Array.replicate_zero,List.push_toArray,List.append_toArray,List.nil_append,List.cons_append]
 gi_wp2_with (first
  | (gi_at_call 92;refine (callsIn_wide.2 KR.out).mono ?_;rintro e w' ⟨rfl,rfl⟩)
  | (gi_at_call 93;refine (callsIn_wide.2 (AUe _ _ _ _ _)).mono ?_;rintro e w' ⟨rfl,rfl⟩))
 refine wpIn_rangeFunc_ownG rfl (by omega) (gf:=138) (lb:=#[.pointer (some ⟨w.heap.size+1,0,none⟩),.pointer (some ⟨w.heap.size+1+1,0,none⟩)]) rfl trivial (enters_of Tryz.func138 (by kernel_rfl) rfl)
  hseq AWm (AWe (by omega) (by omega) (by omega)) (Below.refl _ _) (fun _=>rfl)
  (fun pre W=>(∃ v,Boxed W w.heap.size 24 v∧W.ownsRow (w.heap.size+3) 3 1 v (pkL L pre).length (Qe (pkL L pre))∧True)∧Below w.heap.size w W∧w.heap.size+3≤W.heap.size)
  (fun _ _ _=>False)
  (OwnFrom.and (Own.from (holdsRow_own (w.heap.size+3) w.heap.size 24 3 1 (fun pre:List (Chk9 N)=>(pkL L pre).length) (fun pre=>Qe (pkL L pre)) (fun _ _=>True)) _) (OwnFrom.and (ownFrom_below (Nat.le_refl _) (by omega)) (ACx _ _)))
  (fun _ _ _ _ _ hs _ _=>hs)
  ⟨⟨_,bO3,World.ownsRow_nil _ _ _ _,trivial⟩,hBl,hsl⟩
  (fun x=>{ tmps:=#[.slice a N cap,.int .i64 (m:Int),undef,undef,.slice none 0 0,.pointer (some ⟨w.heap.size,0,none⟩),.slice (some ⟨b,off+x.1.1,none⟩) x.1.2 (cap-x.1.1),undef,.slice a N cap,.int .i64 (m:Int),.bool true,.bool false,.slice a N cap,.func (.func 138) #[] #[.pointer (some ⟨w.heap.size+1,0,none⟩),.pointer (some ⟨w.heap.size+1+1,0,none⟩)],.slice (some ⟨b,off+x.1.1,none⟩) x.1.2 (cap-x.1.1),undef,undef,undef,undef,undef,undef,undef,undef,undef,undef,undef,undef,undef,undef,undef,undef,undef,undef,undef,undef],defers:=[] }) ?assign ?body ?done ?stop
 case assign =>
  intro l x W K hK
  gi_wp2
  exact hK
 case body =>
  rintro l pre ⟨⟨s,e⟩,hse,he1⟩ W ⟨⟨v,hv,hrow,_⟩,hB,hsz⟩ hlt
  dsimp only at hse he1 ⊢
  have hN0:0<N:=by omega
  have hsN:s<N:=by omega
  obtain ⟨ea,hbw,hcz⟩:=hI hN0
  have ck:W.cell? ⟨b,off+s,none⟩=some (.int .i64 ((ints L).getD s 0)):=(hB.cell (p:=⟨b,off+s,none⟩) hbw).trans (hcz s hsN)
  have HLM:Hid (L.getD s 0<m):=Qa (hLm _ (ZE L s (by omega)))
  have HPK:=Qa (AVi L pre ⟨(s,e),hse,he1⟩)
  have HPL:=Qa (AJs L hL6 pre)
  have HPC:Hid (pkC (ints L) (s,e)=if 0<(ints L).getD s 0 then [((ints L).getD s 0).toNat+1] else rsF e):=Qa rfl
  have HPCl:=Qa (AKh L hL6 ⟨(s,e),hse,he1⟩)
  dsimp only at HPK HPCl
  rw [XH] at ck HPC
  obtain ⟨y,hy⟩:∃ y,L.getD s 0=y:=⟨_,rfl⟩
  rw [hy] at ck HLM HPC
  have hym:=HLM.out
  have R0:=Rnd9.refl (w.heap.size+3) w.heap.size W
  have hP:(pkL L pre).length≤360000:=by have:=HPL.out;omega
  obtain ⟨P0,hP0⟩:∃ P0,pkL L pre=P0:=⟨_,rfl⟩
  rw [hP0] at hrow HPK hP
  obtain ⟨lp,hlp⟩:∃ lp,P0.length=lp:=⟨_,rfl⟩
  rw [hlp] at hrow hP
  have hc:=hv.cell
  have hfz:=hv.frozen
  have he0:(0:Int)<(e:Int):=by omega
  have he0':0<e:=by omega
  clear hI hcz hLm HPL hy ea
  by_cases hy0:0<y
  ·have hyI:(0:Int)<(y:Int):=by omega
   have HPC2:Hid (pkC (ints L) (s,e)=[y+1]):=Qa (by rw [HPC.out,if_pos (by omega)];rfl)
   gi_wp2_with (gi_at_builtin;refine wpListIn_append_own _ rfl _ _ 24 rfl (w.heap.size+3) 3 i0 (.int .i64 0) 1 8 Tryz.underlying24 hi hz0 hz1 hz2 rfl (by decide) _ _ _ rfl (hrow.alloc _) ⟨W.heap.size,0,none⟩ 1 1 [.int .i64 ((y:Int)+1)] rfl rfl (cell_one_new _ _ _) (by simp [Value.oneCell']) (by unfold maxLen;omega) (by omega) (by simp;omega) ?_;intro v' w1 hown' hgrow _;obtain ⟨g',cap',rfl⟩:=ownsRow_succ hown';have hv1:=JL (hv.alloc _) (by decide) (hrow.alloc _) hgrow;have hc1:=hv1.cell;have hf1:=hv1.frozen;have R1:=(R0.alloc hsz (.cells #[.int .i64 ((y:Int)+1)] 3)).append hsz (Nat.le_refl _) (hrow.alloc _) hgrow)
   have R2:=R1.store (p:=⟨w.heap.size,0,none⟩) rfl (.slice (some ⟨g',0,none⟩) (lp+1) cap')
   have e1:pkL L (pre++[(⟨(s,e),hse,he1⟩:Chk9 N)])=P0++[y+1]:=by rw [HPK.out,HPC2.out]
   refine ⟨R2.others.from _,R2.keepR (Nat.le_refl _) (by omega) (by omega) (by omega) (by omega) (by omega),⟨⟨_,hv1.set _,?_,trivial⟩,hB.trans (R2.bel (Nat.le_refl _) (by omega)),Nat.le_trans hsz R2.size⟩⟩
   rw [e1,List.length_append,hlp]
   have:=AEv hv1 (by decide) hown' (.slice (some ⟨g',0,none⟩) (lp+1) cap')
   rw [ZM]
   exact this
  ·have hy00:y=0:=by omega
   subst hy00
   have HPC2:Hid (pkC (ints L) (s,e)=rsF e):=Qa (by rw [HPC.out,if_neg (by omega)])
   rw [HPC2.out] at HPCl HPK
   have KS:=Qa (fun Wx=>yJ e Wx (by omega) (by omega))
   have HLE:Hid (0<(rsF e).length∧(rsF e).length≤600):=Qa ⟨List.length_pos_iff.2 (AZs he0'),HPCl.out⟩
   have e1:pkL L (pre++[(⟨(s,e),hse,he1⟩:Chk9 N)])=P0++rsF e:=HPK.out
   have hle:=HLE.out
   obtain ⟨le,hle2⟩:∃ le,(rsF e).length=le:=⟨_,rfl⟩
   rw [hle2] at KS hle
   have fin9:∀ g3 cap3 w3,w3.ownsRow (w.heap.size+3) 3 1 (.slice (some ⟨g3,0,none⟩) (lp+le) cap3) (lp+le) (Qe P0++Qe (rsF e))→Boxed w3 w.heap.size 24 v→Rnd9 (w.heap.size+3) w.heap.size W w3 →
    KeepsFrom Wl.heap.size W (w3.setCell ⟨w.heap.size,0,none⟩ (.slice (some ⟨g3,0,none⟩) (lp+le) cap3))∧keepR w.heap.size (w.heap.size+1) (w.heap.size+1+1) W (w3.setCell ⟨w.heap.size,0,none⟩ (.slice (some ⟨g3,0,none⟩) (lp+le) cap3)) ∧
    ((∃ v',Boxed (w3.setCell ⟨w.heap.size,0,none⟩ (.slice (some ⟨g3,0,none⟩) (lp+le) cap3)) w.heap.size 24 v'∧(w3.setCell ⟨w.heap.size,0,none⟩ (.slice (some ⟨g3,0,none⟩) (lp+le) cap3)).ownsRow (w.heap.size+3) 3 1 v' (pkL L (pre++[(⟨(s,e),hse,he1⟩:Chk9 N)])).length (Qe (pkL L (pre++[(⟨(s,e),hse,he1⟩:Chk9 N)])))∧True)∧Below w.heap.size w (w3.setCell ⟨w.heap.size,0,none⟩ (.slice (some ⟨g3,0,none⟩) (lp+le) cap3))∧w.heap.size+3≤(w3.setCell ⟨w.heap.size,0,none⟩ (.slice (some ⟨g3,0,none⟩) (lp+le) cap3)).heap.size):=by
    intro g3 cap3 w3 hO hv3 R3
    have R4:=R3.store (p:=⟨w.heap.size,0,none⟩) rfl (.slice (some ⟨g3,0,none⟩) (lp+le) cap3)
    refine ⟨R4.others.from _,R4.keepR (Nat.le_refl _) (by omega) (by omega) (by omega) (by omega) (by omega),⟨⟨_,hv3.set _,?_,trivial⟩,hB.trans (R4.bel (Nat.le_refl _) (by omega)),Nat.le_trans hsz R4.size⟩⟩
    rw [e1,List.length_append,hlp,hle2,ZM]
    exact AEv hv3 (by decide) hO _
   have hrowd:(W.drew).ownsRow (w.heap.size+3) 3 1 v lp (Qe P0):=hrow
   clear HLE hle2 hB hlp HPC HPC2 HPCl HPK e1
   gi_wp2
   refine wpIn_region_any (by kernel_rfl) ?_
   try (change wpAnyIn _ _ _ _ _ _ _ _ _ (World.drew _))
   refine wpAnyIn_ready (rs:=[0,1]) (by kernel_rfl) (by simp) ?_
   refine AllReadyIn.cons rfl (fun K hK=>?_) ?_
   ·go_simp
    first | (refine hK _ _ ?_;clear hK K) | skip
    refine wpAnyIn_ready (rs:=[1]) (by kernel_rfl) (by simp) ?_
    refine AllReadyIn.cons rfl (fun K hK=>?_) ?_
    ·go_simp
     first | (refine hK _ _ ?_;clear hK K) | skip
     refine wpAnyIn_ready (rs:=[2]) (by kernel_rfl) (by simp) ?_
     refine AllReadyIn.cons rfl (fun K hK=>?_) ?_
     ·go_simp
      first | (refine hK _ _ ?_;clear hK K) | skip
      refine wpAnyIn_ready (rs:=[3]) (by kernel_rfl) (by simp) ?_
      refine AllReadyIn.cons rfl (fun K hK=>?_) ?_
      ·go_simp
       gi_wp2_with (gi_at_call 94;refine (CallsIn.inRound l (callsIn_wide.2 (KS.out _))).mono ?_;rintro e2 w1 ⟨v2,rfl,hown2,b2⟩;have hv1:Boxed w1 w.heap.size 24 v:=(b2.block _ hv.lt).trans hv;have hrow1:=Ql hrowd b2;have hc1:=hv1.cell;have hf1:=hv1.frozen;have R1:=R0.drew.below hsz b2)
       first | (refine hK _ _ ?_;clear hK K) | skip
       refine wpAnyIn_ready (rs:=[4]) (by kernel_rfl) (by simp) ?_
       refine AllReadyIn.cons rfl (fun K hK=>?_) ?_
       ·refine Xg rfl _ _ 24 rfl (w.heap.size+3) 3 i0 (.int .i64 0) 8 Tryz.underlying24 hi hz0 hz1 hz2 rfl _ _ _ (by simp [Act.eval,Act.put];first | rfl | done) hrow1 _ _ _ _ (by simp [Act.eval,Act.put];first | rfl | done) hown2 (Zr _) (by unfold maxLen;omega) (by omega) (by have:=b2.size;have hh:(W.drew).heap.size=W.heap.size:=rfl;omega) (fun v3 w3 hown3 hgrow3 _=>?_)
        obtain ⟨g3,cap3,rfl⟩:=JE hown3 (by omega)
        have hv3:=JL hv1 (by decide) hrow1 hgrow3
        have hc3:=hv3.cell
        have hf3:=hv3.frozen
        have hfin:=fin9 g3 cap3 w3 hown3 hv3 (R1.append hsz (Nat.le_refl _) hrow1 hgrow3)
        first | (refine hK _ _ ?_;clear hK K) | skip
        refine wpAnyIn_ready (rs:=[5]) (by kernel_rfl) (by simp) ?_
        refine AllReadyIn.cons rfl (fun K hK=>?_) ?_
        ·go_simp
         first | (refine hK _ _ ?_;clear hK K) | skip
         refine wpAnyIn_done (by kernel_rfl) ?_ _
         exact hfin
        exact AllReadyIn.nil
       exact AllReadyIn.nil
      exact AllReadyIn.nil
     exact AllReadyIn.nil
    exact AllReadyIn.nil
   refine AllReadyIn.cons rfl (fun K hK=>?_) ?_
   ·go_simp
    first | (refine hK _ _ ?_;clear hK K) | skip
    refine wpAnyIn_ready (rs:=[0,2]) (by kernel_rfl) (by simp) ?_
    refine AllReadyIn.cons rfl (fun K hK=>?_) ?_
    ·go_simp
     first | (refine hK _ _ ?_;clear hK K) | skip
     refine wpAnyIn_ready (rs:=[2]) (by kernel_rfl) (by simp) ?_
     refine AllReadyIn.cons rfl (fun K hK=>?_) ?_
     ·go_simp
      first | (refine hK _ _ ?_;clear hK K) | skip
      refine wpAnyIn_ready (rs:=[3]) (by kernel_rfl) (by simp) ?_
      refine AllReadyIn.cons rfl (fun K hK=>?_) ?_
      ·go_simp
       gi_wp2_with (gi_at_call 94;refine (CallsIn.inRound l (callsIn_wide.2 (KS.out _))).mono ?_;rintro e2 w1 ⟨v2,rfl,hown2,b2⟩;have hv1:Boxed w1 w.heap.size 24 v:=(b2.block _ hv.lt).trans hv;have hrow1:=Ql hrowd b2;have hc1:=hv1.cell;have hf1:=hv1.frozen;have R1:=R0.drew.below hsz b2)
       first | (refine hK _ _ ?_;clear hK K) | skip
       refine wpAnyIn_ready (rs:=[4]) (by kernel_rfl) (by simp) ?_
       refine AllReadyIn.cons rfl (fun K hK=>?_) ?_
       ·refine Xg rfl _ _ 24 rfl (w.heap.size+3) 3 i0 (.int .i64 0) 8 Tryz.underlying24 hi hz0 hz1 hz2 rfl _ _ _ (by simp [Act.eval,Act.put];first | rfl | done) hrow1 _ _ _ _ (by simp [Act.eval,Act.put];first | rfl | done) hown2 (Zr _) (by unfold maxLen;omega) (by omega) (by have:=b2.size;have hh:(W.drew).heap.size=W.heap.size:=rfl;omega) (fun v3 w3 hown3 hgrow3 _=>?_)
        obtain ⟨g3,cap3,rfl⟩:=JE hown3 (by omega)
        have hv3:=JL hv1 (by decide) hrow1 hgrow3
        have hc3:=hv3.cell
        have hf3:=hv3.frozen
        have hfin:=fin9 g3 cap3 w3 hown3 hv3 (R1.append hsz (Nat.le_refl _) hrow1 hgrow3)
        first | (refine hK _ _ ?_;clear hK K) | skip
        refine wpAnyIn_ready (rs:=[5]) (by kernel_rfl) (by simp) ?_
        refine AllReadyIn.cons rfl (fun K hK=>?_) ?_
        ·go_simp
         first | (refine hK _ _ ?_;clear hK K) | skip
         refine wpAnyIn_done (by kernel_rfl) ?_ _
         exact hfin
        exact AllReadyIn.nil
       exact AllReadyIn.nil
      exact AllReadyIn.nil
     exact AllReadyIn.nil
    refine AllReadyIn.cons rfl (fun K hK=>?_) ?_
    ·go_simp
     first | (refine hK _ _ ?_;clear hK K) | skip
     refine wpAnyIn_ready (rs:=[0,3]) (by kernel_rfl) (by simp) ?_
     refine AllReadyIn.cons rfl (fun K hK=>?_) ?_
     ·go_simp
      first | (refine hK _ _ ?_;clear hK K) | skip
      refine wpAnyIn_ready (rs:=[3]) (by kernel_rfl) (by simp) ?_
      refine AllReadyIn.cons rfl (fun K hK=>?_) ?_
      ·go_simp
       gi_wp2_with (gi_at_call 94;refine (CallsIn.inRound l (callsIn_wide.2 (KS.out _))).mono ?_;rintro e2 w1 ⟨v2,rfl,hown2,b2⟩;have hv1:Boxed w1 w.heap.size 24 v:=(b2.block _ hv.lt).trans hv;have hrow1:=Ql hrowd b2;have hc1:=hv1.cell;have hf1:=hv1.frozen;have R1:=R0.drew.below hsz b2)
       first | (refine hK _ _ ?_;clear hK K) | skip
       refine wpAnyIn_ready (rs:=[4]) (by kernel_rfl) (by simp) ?_
       refine AllReadyIn.cons rfl (fun K hK=>?_) ?_
       ·refine Xg rfl _ _ 24 rfl (w.heap.size+3) 3 i0 (.int .i64 0) 8 Tryz.underlying24 hi hz0 hz1 hz2 rfl _ _ _ (by simp [Act.eval,Act.put];first | rfl | done) hrow1 _ _ _ _ (by simp [Act.eval,Act.put];first | rfl | done) hown2 (Zr _) (by unfold maxLen;omega) (by omega) (by have:=b2.size;have hh:(W.drew).heap.size=W.heap.size:=rfl;omega) (fun v3 w3 hown3 hgrow3 _=>?_)
        obtain ⟨g3,cap3,rfl⟩:=JE hown3 (by omega)
        have hv3:=JL hv1 (by decide) hrow1 hgrow3
        have hc3:=hv3.cell
        have hf3:=hv3.frozen
        have hfin:=fin9 g3 cap3 w3 hown3 hv3 (R1.append hsz (Nat.le_refl _) hrow1 hgrow3)
        first | (refine hK _ _ ?_;clear hK K) | skip
        refine wpAnyIn_ready (rs:=[5]) (by kernel_rfl) (by simp) ?_
        refine AllReadyIn.cons rfl (fun K hK=>?_) ?_
        ·go_simp
         first | (refine hK _ _ ?_;clear hK K) | skip
         refine wpAnyIn_done (by kernel_rfl) ?_ _
         exact hfin
        exact AllReadyIn.nil
       exact AllReadyIn.nil
      exact AllReadyIn.nil
     refine AllReadyIn.cons rfl (fun K hK=>?_) ?_
     ·go_simp
      gi_wp2_with (gi_at_call 94;refine (CallsIn.inRound l (callsIn_wide.2 (KS.out _))).mono ?_;rintro e2 w1 ⟨v2,rfl,hown2,b2⟩;have hv1:Boxed w1 w.heap.size 24 v:=(b2.block _ hv.lt).trans hv;have hrow1:=Ql hrowd b2;have hc1:=hv1.cell;have hf1:=hv1.frozen;have R1:=R0.drew.below hsz b2)
      first | (refine hK _ _ ?_;clear hK K) | skip
      refine wpAnyIn_ready (rs:=[0]) (by kernel_rfl) (by simp) ?_
      refine AllReadyIn.cons rfl (fun K hK=>?_) ?_
      ·go_simp
       first | (refine hK _ _ ?_;clear hK K) | skip
       refine wpAnyIn_ready (rs:=[4]) (by kernel_rfl) (by simp) ?_
       refine AllReadyIn.cons rfl (fun K hK=>?_) ?_
       ·refine Xg rfl _ _ 24 rfl (w.heap.size+3) 3 i0 (.int .i64 0) 8 Tryz.underlying24 hi hz0 hz1 hz2 rfl _ _ _ (by simp [Act.eval,Act.put];first | rfl | done) hrow1 _ _ _ _ (by simp [Act.eval,Act.put];first | rfl | done) hown2 (Zr _) (by unfold maxLen;omega) (by omega) (by have:=b2.size;have hh:(W.drew).heap.size=W.heap.size:=rfl;omega) (fun v3 w3 hown3 hgrow3 _=>?_)
        obtain ⟨g3,cap3,rfl⟩:=JE hown3 (by omega)
        have hv3:=JL hv1 (by decide) hrow1 hgrow3
        have hc3:=hv3.cell
        have hf3:=hv3.frozen
        have hfin:=fin9 g3 cap3 w3 hown3 hv3 (R1.append hsz (Nat.le_refl _) hrow1 hgrow3)
        first | (refine hK _ _ ?_;clear hK K) | skip
        refine wpAnyIn_ready (rs:=[5]) (by kernel_rfl) (by simp) ?_
        refine AllReadyIn.cons rfl (fun K hK=>?_) ?_
        ·go_simp
         first | (refine hK _ _ ?_;clear hK K) | skip
         refine wpAnyIn_done (by kernel_rfl) ?_ _
         exact hfin
        exact AllReadyIn.nil
       exact AllReadyIn.nil
      exact AllReadyIn.nil
     exact AllReadyIn.nil
    exact AllReadyIn.nil
   exact AllReadyIn.nil
 case done =>
  rintro D ys W hD hS ⟨⟨v,hv,hrow,_⟩,hB,hsz⟩ hK
  have hF:pkL L ys=Ze 0 L:=by
   unfold pkL
   rw [hS]
   have:=jc L L.length 0 (by omega)
   rwa [List.drop_zero] at this
  have hPl:=Jw L 0
  rw [hF] at hrow
  have HLn:Hid ((Ze 0 L++[m+1]).length=(Ze 0 L).length+1):=Qa (by simp)
  obtain ⟨lp,hlp⟩:∃ lp,(Ze 0 L).length=lp:=⟨_,rfl⟩
  rw [hlp] at hrow hPl HLn
  have R0:=Rnd9.refl (w.heap.size+3) w.heap.size W
  have hc:=hv.cell
  clear hF hS
  gi_wp2_with (gi_at_builtin;refine wpListIn_append_own _ rfl _ _ 24 rfl (w.heap.size+3) 3 i0 (.int .i64 0) 1 8 Tryz.underlying24 hi hz0 hz1 hz2 rfl (by decide) _ _ _ rfl (hrow.alloc _) ⟨W.heap.size,0,none⟩ 1 1 [.int .i64 ((m:Int)+1)] rfl rfl (cell_one_new _ _ _) (by simp [Value.oneCell']) (by unfold maxLen;omega) (by omega) (by simp;omega) ?_;intro v' w1 hown' hgrow _;have R1:=(R0.alloc hsz (.cells #[.int .i64 ((m:Int)+1)] 3)).append hsz (Nat.le_refl _) (hrow.alloc _) hgrow)
  have hK':=R1.others.same D _ hK rfl
  have hown6:w1.ownsRow (w.heap.size+3) 3 1 v' (lp+1) (Qe (Ze 0 L++[m+1])):=by rw [ZM];exact hown'
  refine ⟨by simp,.inl ⟨_,_,rfl,run_takeDeferred hK',?_⟩⟩
  refine ⟨_,results_tmp rfl _ _ _,v',rfl,?_,?_⟩
  ·rw [HLn.out]
   exact Joins.ownsRow_le (ownsRow_putObj hown6 _ hK' rfl) (by omega)
  ·exact (hB.trans (R1.bel (Nat.le_refl _) (by omega))).trans (belowK_b (w:=w) (Nat.le_refl _) w1 D _ _ (by omega) hK' rfl rfl)
 case stop =>
  rintro D c pre W _ _ h _
  exact h.elim
theorem YY (a:Option Addr) (cap B:Nat) (z:List Int) (n:Int) (w:World) (hz:Ints w B a z) (hB:B≤w.heap.size) (hl:z.length≤1048576) (hcap:z.length≤cap) (n1:-9223372036854775808≤n) (n2:n≤9223372036854775807) :
 Calls Tryz.prog 58 #[.slice a z.length cap,.int .i64 n] w fun e w'=>∃ v,e=.returned v∧w'.ownsRow w.heap.size 3 1 v (ZP z n).length (Qo (ZP z n))∧Below w.heap.size w w':=by
 by_cases hok:rOk z n=true
 ·obtain ⟨L,m,rfl,rfl,hm1,hm2,hL6,hLm⟩:=Za hok
  rw [VJ hok,Qy,Qj,Qj]
  rw [Qj] at hcap
  rcases Nat.eq_zero_or_pos L.length with h0 | h0
  ·exact callsIn_wide.1 (xZ a 0 0 cap B m L.length L w hz hB hok hm1 hm2 hL6 hLm rfl hcap (fun h=>by omega))
  ·obtain ⟨b,off,e,hb,hc⟩:=hz.2.2 (by rw [Qj];exact h0)
   exact callsIn_wide.1 (xZ a b off cap B m L.length L w hz hB hok hm1 hm2 hL6 hLm rfl hcap (fun _=>⟨e,by omega,fun j hj=>hc j (by rw [Qj];exact hj)⟩))
 ·have hno:=QC hok
  have KR:=Qa (Zs a cap B z n w hz hl n1 n2)
  rw [hno] at KR
  rw [jD hno]
  obtain ⟨q,hq⟩:∃ q,z.length=q:=⟨_,rfl⟩
  rw [hq] at KR ⊢
  clear hno hok hz hq hl hcap
  go_enter Tryz.func58,Tryz.ntmps58
  go_wp2_with fail
  refine KR.out.mono ?_
  rintro e w0 ⟨rfl,rfl⟩
  go_wp2
  go_ret
  exact ⟨_,rfl,World.ownsRow_nil _ _ _ _,Below.refl _ _⟩
end Go.Proofs.YtembljihmnmmfaaGreat
