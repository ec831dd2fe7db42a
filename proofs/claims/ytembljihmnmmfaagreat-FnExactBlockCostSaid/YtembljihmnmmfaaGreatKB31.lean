/- Texts of the proof, merged. -/
import Derived.RangeFuncNested
import Derived.RangeFuncBound
import Derived.RangeFuncCalls
import Derived.RangeFuncLeaves
import Derived.RangeFuncBox
import Derived.RangeFuncWrites
import Derived.Shelf.Abstract
import Derived.Shelf.RegionOpen
import Derived.WalkKit
import Derived.OwnWalkIn
import Derived.TacticsInMore
import Derived.LoopNIn
import Derived.LoopIn
import Derived.Lib.MinMax
import Derived.Maps.AppendAt
import Derived.Test.YtembljihmnmmfaaGreatKB17
namespace Go.Proofs.YtembljihmnmmfaaGreat
set_option maxHeartbeats 4000000
set_option maxRecDepth 100000
section
set_option linter.unusedVariables false
set_option linter.unusedSimpArgs false
open Go.RowKit Go.Shelf
attribute [local go_sem] Oper.semAt_some
theorem AOo (f:FuncId):Fence.wide.fn f:=trivial
attribute [local go_sem,local simp] AOo
def chV (b off len k:Nat):Value:=.slice (some ⟨b,off+10*k,none⟩) (min 10 (len-10*k)) (min 10 (len-10*k))
def chVs (b off len:Nat):List Value:=(List.range (grp len)).map (chV b off len)
theorem BAd {k len:Nat}:k<grp len↔10*k<len:=by unfold grp;omega
theorem AMb (n:Nat) (hn:2≤n) (l Bs Bn n₀ b off len cap:Nat) (hl6:len≤1048576) (hcap:len≤cap) (J Jx:List Nat→World→Prop)
 (hY:∀ pre (x:Nat) W,J pre W→pre.length<grp len→YieldAt Fence.wide (n-1) Tryz.prog l #[chV b off len x] W fun e W' =>
   (e=.returned (.bool true)∧J (pre++[x]) W'∧Below n₀ W W')∨(e=.returned (.bool false)∧Jx (pre++[x]) W'))
 (W:World) (hJ:AbidesFrom W.heap.size J) (hBs:W.cell? ⟨Bs,0,none⟩=some (.slice (some ⟨b,off,none⟩) len cap)) (hBn:W.cell? ⟨Bn,0,none⟩=some (.int .i64 10)) (h1:Bs<n₀) (h2:Bn<n₀) (h0:J [] W) :
 CallsIn Fence.wide n Tryz.prog 181 #[.func (.yield l) #[] #[],.pointer (some ⟨Bs,0,none⟩),.pointer (some ⟨Bn,0,none⟩)] W fun e W'=>(∃ v,e=.returned v) ∧
  ((∃ ys:List Nat,ys=List.range (grp len)∧J ys W')∨(∃ pre:List Nat,pre <+: List.range (grp len)∧Jx pre W')):=by
 refine callsIn_of_wp Tryz.func181 rfl trivial ?_ rfl
 simp only [Tryz.ntmps181,List.size_toArray,List.length_cons,List.length_nil,Nat.reduceAdd,Nat.reduceSub,Array.replicate_succ,Array.replicate_zero,List.push_toArray,List.append_toArray,List.nil_append,List.cons_append]
 gi_wp2
 gi_loopw [4,5] (fun si _ wr=>∃ (k q:Nat),k≤grp len∧Hid (q=10*k)∧q≤len+9∧si=.int .i64 q∧Hid (J (List.range k) wr)∧wr.cell? ⟨Bs,0,none⟩=some (.slice (some ⟨b,off,none⟩) len cap)∧wr.cell? ⟨Bn,0,none⟩=some (.int .i64 10))
  (fun si _ _=>len+10-(intOf si).toNat)
 case atStart=>exact ⟨0,0,Nat.zero_le _,Qa rfl,by omega,rfl,Qa h0,hBs,hBn⟩
 case round =>
  obtain ⟨k,q,hk,HQ,hq,rfl,HJ,cs,cn⟩:=hrel
  clear hBs hBn
  by_cases hlt:q<len
  ·have hltI:(q:Int)<(len:Int):=by omega
   have HK:Hid (k<grp len):=Qa (BAd.2 (by rw [←HQ.out];exact hlt))
   obtain ⟨m,hm⟩:∃ m,min 10 (len-q)=m:=⟨_,rfl⟩
   have HV:Hid (chV b off len k=.slice (some ⟨b,off+q,none⟩) m m):=Qa (by unfold chV;rw [←HQ.out,hm])
   have hm1:1≤m:=by omega
   have hm2:m≤10:=by omega
   have hmq:q+m≤len:=by omega
   have hmin:min (10:Int) ((len-q:Nat):Int)=(m:Int):=by omega
   have hcs:¬ cap=q:=by omega
   have hqI:(q:Int)≤(len:Int):=by omega
   have hqc:(q:Int)≤(cap:Int):=by omega
   have hqm:(q:Int)≤(q:Int)+(m:Int):=by omega
   have hmc:(q:Int)+(m:Int)≤(cap:Int):=by omega
   have hml:(q:Int)+(m:Int)≤(len:Int):=by omega
   have hsn:((q:Int)+(m:Int)).toNat-q=m:=by omega
   have hsn2:q+m-q=m:=by omega
   have hsn0:((q:Int)+(m:Int)).toNat=q+m:=by omega
   have hm0:¬ m=0:=by omega
   have h1n:1≤n:=by omega
   have HN:Hid (q+10=10*(k+1)):=Qa (by rw [HQ.out];omega)
   have HR:Hid (List.range (k+1)=List.range k++[k]):=Qa List.range_succ
   have HRL:Hid ((List.range k).length<grp len):=Qa (by rw [List.length_range];exact HK.out)
   have HJD:Hid (∀ x,J (List.range k) (wr.drewN x)):=Qa (fun x=>hJ _ wr (wr.drewN x) none HJ.out ⟨rfl,rfl,rfl,Nat.le_refl _,fun _ _ _=>rfl⟩ (fun r e=>by cases e))
   have HYy:=Qa (fun W hw=>hY (List.range k) k W hw HRL.out)
   rw [HV.out] at HYy
   clear hm HV
   gi_wp2
   gi_big_quiet (fail)
   have hJd:=HJD.out nq
   obtain ⟨fn,tmps,assign,body,hy,hR⟩:=HYy.out (wr.drewN nq) hJd
   (try dsimp only at hy hR)
   have csd:(wr.drewN nq).cell? ⟨Bs,0,none⟩=some (.slice (some ⟨b,off,none⟩) len cap):=cs
   have cnd:(wr.drewN nq).cell? ⟨Bn,0,none⟩=some (.int .i64 10):=cn
   clear cs cn
   gi_wp2
   refine hR.mono ?_
   rintro e W3 (⟨rfl,hJ3,hk3⟩ | ⟨rfl,hJx3⟩)
   ·have cs3:W3.cell? ⟨Bs,0,none⟩=some (.slice (some ⟨b,off,none⟩) len cap):=(hk3.cell (p:=⟨Bs,0,none⟩) h1).trans csd
    have cn3:W3.cell? ⟨Bn,0,none⟩=some (.int .i64 10):=(hk3.cell (p:=⟨Bn,0,none⟩) h2).trans cnd
    rw [←HR.out] at hJ3
    have HJ3:=Qa hJ3
    have hk1:k+1≤grp len:=HK.out
    clear csd cnd hJ3
    gi_wp2
    go_roundw
    case rel=>exact ⟨k+1,q+10,hk1,HN,by omega,by go_num,HJ3,cs3,cn3⟩
    case measure=>simp [intOf];omega
   ·rw [←HR.out] at hJx3
    gi_wp2
    refine bodyPost_ret (results_none rfl _ _ _) rfl ?_
    refine ⟨⟨_,rfl⟩,.inr ⟨List.range (k+1),?_,hJx3⟩⟩
    obtain ⟨d,hd⟩:∃ d,grp len=(k+1)+d:=⟨grp len-(k+1),by have:=HK.out;omega⟩
    rw [hd]
    exact ⟨_,(@List.range_add (k+1) d).symm⟩
  ·have hie:k=grp len:=by
    have h1:=HQ.out
    have:¬ k<grp len:=fun h=>hlt (by rw [h1];exact BAd.1 h)
    omega
   subst hie
   gi_wp2
   go_end0
   exact ⟨⟨_,rfl⟩,.inl ⟨_,rfl,HJ.out⟩⟩
theorem AHn (n:Nat) (l Bs Bn cap:Nat) (a:Option Addr) (J:List Nat→World→Prop) (W:World) (hBs:W.cell? ⟨Bs,0,none⟩=some (.slice a 0 cap)) (h0:J [] W) :
 CallsIn Fence.wide n Tryz.prog 181 #[.func (.yield l) #[] #[],.pointer (some ⟨Bs,0,none⟩),.pointer (some ⟨Bn,0,none⟩)] W fun e W'=>(∃ v,e=.returned v)∧J [] W':=by
 refine callsIn_of_wp Tryz.func181 rfl trivial ?_ rfl
 simp only [Tryz.ntmps181,List.size_toArray,List.length_cons,List.length_nil,Nat.reduceAdd,Nat.reduceSub,Array.replicate_succ,Array.replicate_zero,List.push_toArray,List.append_toArray,List.nil_append,List.cons_append]
 gi_wp2
 gi_loopw [4,5] (fun si _ wr=>si=.int .i64 0∧wr.cell? ⟨Bs,0,none⟩=some (.slice a 0 cap)∧J [] wr) (fun _ _ _=>0)
 case atStart=>exact ⟨rfl,hBs,h0⟩
 case round =>
  obtain ⟨rfl,cl,hJ⟩:=hrel
  gi_wp2
  go_end0
  exact ⟨⟨_,rfl⟩,hJ⟩
theorem AHy (n:Nat) (hn:2≤n) (Bs Bn n₀ b off len cap:Nat) (a:Option Addr) (hl6:len≤1048576) (hcap:len≤cap) (w:World) (h1:Bs<n₀) (h2:Bn<n₀) (h3:n₀≤w.heap.size)
 (hBs:w.cell? ⟨Bs,0,none⟩=some (.slice a len cap)) (hBn:w.cell? ⟨Bn,0,none⟩=some (.int .i64 10)) (hI:0<len→a=some ⟨b,off,none⟩) :
 SeqStopsK Fence.wide n Tryz.prog 181 #[.pointer (some ⟨Bs,0,none⟩),.pointer (some ⟨Bn,0,none⟩)] (fun x:Nat=>#[chV b off len x]) (Below n₀)
  (fun ys=>ys=List.range (grp len)) (fun pre=>pre <+: List.range (grp len)) (grp len) w:=fun l J Jx W hW hJ _ hY h0=>by
 have c1:=(hW.cell (p:=⟨Bs,0,none⟩) (by simp;omega)).trans hBs
 have c2:=(hW.cell (p:=⟨Bn,0,none⟩) (by simp;omega)).trans hBn
 rcases Nat.eq_zero_or_pos len with rfl | hp
 ·exact (AHn n l Bs Bn cap a J W c1 h0).mono fun e W' ⟨he,hj⟩=>⟨he,.inl ⟨[],rfl,hj⟩⟩
 ·obtain rfl:=hI hp
  exact AMb n hn l Bs Bn n₀ b off len cap hl6 hcap J Jx hY W hJ c1 c2 h1 h2 h0
theorem AKt:(Tryz.prog.info? 24).map (fun i=>(i.zero,i.size,i.bytes))=some (some (.slice none 0 0),1,24):=by kernel_rfl
theorem yZ (n:Nat) (hn:3≤n) (Bs Bn b off len cap:Nat) (a:Option Addr) (hl6:len≤1048576) (hcap:len≤cap) (w:World) (h1:Bs<w.heap.size) (h2:Bn<w.heap.size)
 (hBs:w.cell? ⟨Bs,0,none⟩=some (.slice a len cap)) (hBn:w.cell? ⟨Bn,0,none⟩=some (.int .i64 10)) (hI:0<len→a=some ⟨b,off,none⟩) :
 CallsIn Fence.wide n Tryz.prog 180 #[.slice none 0 0,.func (.func 181) #[] #[.pointer (some ⟨Bs,0,none⟩),.pointer (some ⟨Bn,0,none⟩)]] w fun e W' =>
  ∃ v,e=.returned v∧W'.ownsRow w.heap.size 24 1 v (grp len) (chVs b off len)∧Below w.heap.size w W':=by
 have h1n:1≤n:=by omega
 have hgl:grp len≤1048576:=by unfold grp;omega
 obtain ⟨i0,hi,hz0,hz1,hz2⟩:=info_parts AKt
 refine callsIn_of_wp_marks Tryz.func180 rfl trivial ?_ rfl
 simp only [Tryz.ntmps180,List.size_toArray,List.length_cons,List.length_nil,Nat.reduceAdd,Nat.reduceSub,Array.replicate_succ,Array.replicate_zero,List.push_toArray,List.append_toArray,List.nil_append,List.cons_append]
 gi_wp2
 have bO:=Boxed.new w 124 (.slice none 0 0)
 have hB0:Below w.heap.size w (w.alloc (.cells #[.slice none 0 0] 124)):=(Below.refl _ w).alloc (Nat.le_refl _) _
 have hseq:=(AHy (n-1) (by omega) Bs Bn w.heap.size b off len cap a hl6 hcap (w.alloc (.cells #[.slice none 0 0] 124)) h1 h2 (by simp) ((hB0.cell (p:=⟨Bs,0,none⟩) h1).trans hBs) ((hB0.cell (p:=⟨Bn,0,none⟩) h2).trans hBn) hI)
 refine wpIn_rangeFunc_ownG rfl h1n (gf:=181) (lb:=#[.pointer (some ⟨Bs,0,none⟩),.pointer (some ⟨Bn,0,none⟩)]) rfl trivial (enters_of Tryz.func181 (by kernel_rfl) rfl)
  hseq belowK_t (belowK_b (by simp)) (Below.refl _ _) (fun _=>rfl)
  (fun pre W=>(∃ v,Boxed W w.heap.size 124 v∧W.ownsRow w.heap.size 24 1 v pre.length (pre.map (chV b off len))∧(v=.slice none 0 0↔pre=[]))∧Below w.heap.size w W)
  (fun _ _ _=>False)
  (OwnFrom.and (Own.from (holdsRow_own w.heap.size w.heap.size 124 24 1 (fun pre:List Nat=>pre.length) (fun pre=>pre.map (chV b off len)) (fun pre v=>v=.slice none 0 0↔pre=[])) _) (ownFrom_below (Nat.le_refl _) (by simp)))
  (fun _ _ _ _ _ hs _ _=>hs)
  ⟨⟨_,bO,World.ownsRow_nil _ _ _ _,by simp⟩,hB0⟩
  (fun x=>{ tmps:=#[.slice none 0 0,.func (.func 181) #[] #[.pointer (some ⟨Bs,0,none⟩),.pointer (some ⟨Bn,0,none⟩)],.pointer (some ⟨w.heap.size,0,none⟩),undef,.slice none 0 0,chV b off len x,.func (.func 181) #[] #[.pointer (some ⟨Bs,0,none⟩),.pointer (some ⟨Bn,0,none⟩)],chV b off len x,undef,undef,undef,undef,undef],defers:=[] }) ?assign ?body ?done ?stop
 case assign =>
  intro l x W K hK
  gi_wp2
  exact hK
 case body =>
  rintro l pre x W ⟨⟨v,hv,hrow,hnil⟩,hB⟩ hlt
  have hc:=hv.cell
  obtain ⟨m,hm⟩:∃ m,min 10 (len-10*x)=m:=⟨_,rfl⟩
  have hV:chV b off len x=.slice (some ⟨b,off+10*x,none⟩) m m:=by unfold chV;rw [hm]
  have HV:=Qa hV
  (try dsimp only)
  rw [hV]
  clear hm hV
  gi_wp2_with (gi_at_builtin;refine wpListIn_append_own _ rfl _ _ 124 rfl w.heap.size 24 i0 (.slice none 0 0) 1 24 Tryz.underlying124 hi hz0 hz1 hz2 rfl (by decide) _ _ _ rfl (hrow.alloc _) ⟨W.heap.size,0,none⟩ 1 1 [.slice (some ⟨b,off+10*x,none⟩) m m] rfl rfl (cell_one_new _ _ _) (by simp [Value.oneCell']) (by unfold maxLen;omega) (by omega) (by have:=hB.size;simp;omega) ?_;intro v' w1 hown' hgrow _;obtain ⟨g',cap',rfl⟩:=ownsRow_succ hown';obtain ⟨hv1,hv2,hr2,hk2,hb2⟩:=hv.appended (by decide) hrow hB.size (Nat.le_refl _) hown' hgrow;have hc1:=hv1.cell;have hf1:=hv1.frozen)
  exact ⟨hk2.from _,hb2,⟨_,hv2,by simpa [HV.out] using hr2,by simp⟩,hB.trans hb2⟩
 case done =>
  rintro D ys W hD rfl ⟨⟨v,hv,hrow,hnil⟩,hB⟩ hK
  have hc:=hv.cell
  rw [List.length_range] at hrow
  gi_wp2
  refine ⟨by simp,.inl ⟨_,_,rfl,run_takeDeferred hK,?_⟩⟩
  exact ⟨_,results_tmp rfl _ _ _,v,rfl,ownsRow_putObj hrow _ hK rfl,hB.trans (belowK_b (w:=w) (Nat.le_refl _) W D _ _ (by simp at hD;omega) hK rfl rfl)⟩
 case stop =>
  rintro D c pre W _ _ h _
  exact h.elim
end
section
set_option linter.unusedVariables false
set_option linter.unusedSimpArgs false
open Go.RowKit
theorem ADc (Bs Bn b off len cap:Nat) (a:Option Addr) (hl6:len≤1048576) (hcap:len≤cap) (w:World) (h1:Bs<w.heap.size) (h2:Bn<w.heap.size)
 (hBs:w.cell? ⟨Bs,0,none⟩=some (.slice a len cap)) (hBn:w.cell? ⟨Bn,0,none⟩=some (.int .i64 10)) (hI:0<len→a=some ⟨b,off,none⟩) :
 Calls Tryz.prog 156 #[.func (.func 181) #[] #[.pointer (some ⟨Bs,0,none⟩),.pointer (some ⟨Bn,0,none⟩)]] w fun e W' =>
  ∃ v,e=.returned v∧W'.ownsRow w.heap.size 24 1 v (grp len) (chVs b off len)∧Below w.heap.size w W':=by
 have K:=Qa (callsIn_wide.1 (yZ 3 (Nat.le_refl _) Bs Bn b off len cap a hl6 hcap w h1 h2 hBs hBn hI))
 clear hBs hBn hI
 go_enter Tryz.func156,Tryz.ntmps156
 go_wp2_with (fail)
 refine (K.out).mono ?_
 rintro e w1 ⟨v,rfl,h1,h2⟩
 go_wp2
 go_ret
 exact ⟨v,rfl,h1,h2⟩
theorem ARp (a:Option Addr) (len cap:Nat) (w:World) :
 Calls Tryz.prog 157 #[.slice a len cap,.int .i64 10] w fun e w'=>e=.returned (.func (.func 181) #[] #[.pointer (some ⟨w.heap.size,0,none⟩),.pointer (some ⟨w.heap.size+1,0,none⟩)])∧(w.alloc (.cells #[.slice a len cap] 24)).alloc (.cells #[.int .i64 10] 3)=w':=by
 go_enter Tryz.func157,Tryz.ntmps157
 go_wp2
 go_ret
 exact ⟨rfl,rfl⟩
theorem zI (a:Option Addr) (b off len cap:Nat) (w:World) (hl6:len≤1048576) (hcap:len≤cap) (hI:0<len→a=some ⟨b,off,none⟩) :
 Calls Tryz.prog 125 #[.slice a len cap] w fun e w'=>∃ v,e=.returned v∧w'.ownsRow w.heap.size 24 1 v (grp len) (chVs b off len)∧Below w.heap.size w w':=by
 obtain ⟨W1,hW1⟩:∃ W1,(w.alloc (.cells #[.slice a len cap] 24)).alloc (.cells #[.int .i64 10] 3)=W1:=⟨_,rfl⟩
 have hB1:Below w.heap.size w W1:=by rw [←hW1];exact ((Below.refl _ w).alloc (Nat.le_refl _) _).alloc (by simp) _
 have hs1:W1.heap.size=w.heap.size+2:=by rw [←hW1];simp
 have c1:W1.cell? ⟨w.heap.size,0,none⟩=some (.slice a len cap):=by
  rw [←hW1];exact ((Boxed.new w 24 (.slice a len cap)).alloc _).cell
 have c2:W1.cell? ⟨w.heap.size+1,0,none⟩=some (.int .i64 10):=by
  have h:=(Boxed.new (w.alloc (.cells #[.slice a len cap] 24)) 3 (.int .i64 10)).cell
  rw [World.size_alloc] at h
  rw [←hW1];exact h
 have K:=Qa (ADc w.heap.size (w.heap.size+1) b off len cap a hl6 hcap W1 (by omega) (by omega) c1 c2 hI)
 have KC:=Qa (fun W=>ARp a len cap W)
 have HW:=Qa hW1
 clear c1 c2 hI hW1
 go_enter Tryz.func125,Tryz.ntmps125
 go_wp2_with fail
 refine (KC.out _).mono ?_
 rintro e w1 ⟨rfl,h1⟩
 rw [HW.out] at h1
 subst h1
 go_wp2_with fail
 refine (K.out).mono ?_
 rintro e w2 ⟨v,rfl,h1,h2⟩
 have h3:w2.ownsRow w.heap.size 24 1 v (grp len) (chVs b off len):=⟨h1.1,h1.2.imp id fun ⟨g,cap,cur,a,b,c⟩=>⟨g,cap,cur,a,by omega,c⟩⟩
 have h4:=hB1.trans (h2.mono (by omega))
 clear h1 h2
 go_wp2
 go_ret
 exact ⟨v,rfl,h3,h4⟩
end
end Go.Proofs.YtembljihmnmmfaaGreat
