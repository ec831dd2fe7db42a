/- Texts of the proof, merged. -/
import Derived.RangeFuncNested
import Derived.RangeFuncBound
import Derived.RangeFuncCalls
import Derived.RangeFuncLeaves
import Derived.RangeFuncBox
import Derived.Shelf.Abstract
import Derived.Shelf.RegionOpen
import Derived.WalkKit
import Derived.OwnWalkIn
import Derived.TacticsInMore
import Derived.LoopNIn
import Derived.LoopIn
import Derived.Lib.MinMax
import Derived.Test.YtembljihmnmmfaaGreatKB16
import Derived.Test.YtembljihmnmmfaaGreatKB2
namespace Go.Proofs.YtembljihmnmmfaaGreat
set_option maxHeartbeats 2000000
set_option maxRecDepth 100000
set_option linter.unusedVariables false
set_option linter.unusedSimpArgs false
open Go.RowKit Go.Shelf
attribute [local go_sem] Oper.semAt_some
theorem AGr (f:FuncId):Fence.wide.fn f:=trivial
attribute [local go_sem,local simp] AGr
abbrev Chk9 (N:Nat):={ p:Nat × Nat // p.1+p.2≤N∧1≤p.2 }
def keepR (n₀ Bl Bb:Nat) (W W':World):Prop:=∀ i,(i<n₀∨i=Bl∨i=Bb)→W'.heap[i]? = W.heap[i]?
theorem AWm {n₀ Bl Bb:Nat} {A B C:World} (h:keepR n₀ Bl Bb A B) (k:keepR n₀ Bl Bb B C):keepR n₀ Bl Bb A C:=fun i hi=>(k i hi).trans (h i hi)
theorem AWe {n₀ Bl Bb:Nat} {w:World} (h0:n₀≤w.heap.size) (h1:Bl<w.heap.size) (h2:Bb<w.heap.size) (W:World) (l:Nat) (o o':Obj) (hl:w.heap.size≤l) (h:W.heap[l]? = some o) (_:o.isCells=false) (_:o.isWalk=false):keepR n₀ Bl Bb W (W.putObj l o'):=fun i hi=>by
 have hlt:=(Array.getElem?_eq_some_iff.1 h).1
 exact (grownBy_putObj' W l o').block i (by rcases hi with hi | rfl | rfl <;> omega) (fun e=>by injection e with e;rcases hi with hi | rfl | rfl <;> omega)
theorem keepR.cell {n₀ Bl Bb:Nat} {W W':World} (h:keepR n₀ Bl Bb W W') {p:Addr} (hp:p.block<n₀∨p.block=Bl∨p.block=Bb):W'.cell? p=W.cell? p:=World.cell?_of_block (h _ hp)
theorem ARv (n:Nat) (hn:2≤n) (l Bl Bb n₀ b off len cap:Nat) (bd:Int) (z:List Int) (hz:z.length=len) (hl6:len≤1048576) (hcap:len≤cap) (hb:b<n₀) (J Jx:List (Chk9 len)→World→Prop)
 (hY:∀ pre (x:Chk9 len) W,J pre W→pre.length<len→YieldAt Fence.wide (n-1) Tryz.prog l #[.slice (some ⟨b,off+x.1.1,none⟩) x.1.2 (cap-x.1.1)] W fun e W' =>
   (e=.returned (.bool true)∧J (pre++[x]) W'∧keepR n₀ Bl Bb W W')∨(e=.returned (.bool false)∧Jx (pre++[x]) W'))
 (W:World) (hJ:AbidesFrom W.heap.size J) (hBl:W.cell? ⟨Bl,0,none⟩=some (.slice (some ⟨b,off,none⟩) len cap)) (hBb:W.cell? ⟨Bb,0,none⟩=some (.int .i64 bd))
 (hr:∀ x∈z,-9223372036854775808≤x∧x≤9223372036854775807) (hc:∀ j,j<len→W.cell? ⟨b,off+j,none⟩=some (.int .i64 (z.getD j 0))) (h0:J [] W) :
 CallsIn Fence.wide n Tryz.prog 138 #[.func (.yield l) #[] #[],.pointer (some ⟨Bl,0,none⟩),.pointer (some ⟨Bb,0,none⟩)] W fun e W'=>(∃ v,e=.returned v) ∧
  ((∃ ys:List (Chk9 len),ys.map Subtype.val=chR bd z 0∧J ys W')∨(∃ pre:List (Chk9 len),pre.map Subtype.val <+: chR bd z 0∧Jx pre W')):=by
 have HR:Hid (∀ Wx,(∀ j,j<len→Wx.cell? ⟨b,off+j,none⟩=some (.int .i64 (z.getD j 0)))→∀ s,s≤len→Ints Wx (b+1) (some ⟨b,off+s,none⟩) (z.drop s)):=Qa (fun Wx hcx s hs=>by
  have:=AVh (w:=Wx) (B:=b+1) (b:=b) (off:=off) (z:=z) (by omega) hr (by omega) (by rw [hz];exact hcx) (i:=z.length) (f:=s) (Nat.le_refl _)
  rwa [List.take_length] at this)
 have HST:=Qa (fun s (h:s<z.length)=>ADl (b:=bd) h)
 have HFT:=Qa (fun s (h:s<z.length)=>AKi (b:=bd) h)
 have HEN:Hid (chR bd z z.length=[]):=Qa (xB (Nat.le_refl _))
 have HDL:Hid (∀ s,(z.drop s).length=len-s):=Qa (fun s=>by rw [List.length_drop,hz])
 have HCL:=Qa hc
 obtain ⟨A,hA⟩:∃ A,chR bd z 0=A:=⟨_,rfl⟩
 have HA0:Hid (A=[]++chR bd z 0):=Qa (by rw [←hA];rfl)
 rw [hA]
 rw [hz] at HST HFT HEN
 clear hA hc hr
 refine callsIn_of_wp Tryz.func138 rfl trivial ?_ rfl
 simp only [Tryz.ntmps138,List.size_toArray,List.length_cons,List.length_nil,Nat.reduceAdd,Nat.reduceSub,Array.replicate_succ,Array.replicate_zero,List.push_toArray,List.append_toArray,List.nil_append,List.cons_append]
 gi_wp2
 gi_loopw [4,5] (fun si _ wr=>∃ (s:Nat) (pre:List (Chk9 len)),s≤len∧si=.int .i64 s∧Hid (pre.length≤s)∧Hid (A=pre.map Subtype.val++chR bd z s)∧Hid (J pre wr)∧wr.cell? ⟨Bl,0,none⟩=some (.slice (some ⟨b,off,none⟩) len cap)∧wr.cell? ⟨Bb,0,none⟩=some (.int .i64 bd)∧Hid (∀ j,j<len→wr.cell? ⟨b,off+j,none⟩=some (.int .i64 (z.getD j 0))))
  (fun si _ _=>len-(intOf si).toNat)
 case atStart=>exact ⟨0,[],by omega,rfl,Qa (Nat.le_refl _),HA0,Qa h0,hBl,hBb,HCL⟩
 case round =>
  obtain ⟨s,pre,hs,rfl,HPL,HA,HJ,cl,cb,HC⟩:=hrel
  clear hBl hBb
  by_cases hlt:s<len
  ·have hltI:(s:Int)<(len:Int):=by omega
   have HST2:=Qa (HST.out s hlt)
   have HFT2:=Qa (HFT.out s hlt)
   obtain ⟨e,he⟩:∃ e,frZ bd (z.drop s)=e:=⟨_,rfl⟩
   have KF:=Qa (fun Wx (hx:∀ j,j<len→Wx.cell? ⟨b,off+j,none⟩=some (.int .i64 (z.getD j 0))) c=>vt (some ⟨b,off+s,none⟩) c (b+1) (z.drop s) bd Wx (HR.out Wx hx s (by omega)) (by rw [HDL.out];omega))
   rw [he,HDL.out] at KF
   rw [he] at HST2 HFT2
   obtain ⟨E,hE⟩:∃ E,max 1 e=E:=⟨_,rfl⟩
   rw [hE] at HST2 HFT2
   have hmx:max (1:Int) (e:Int)=(E:Int):=by omega
   have hE1:1≤E:=by omega
   have hfit:s+E≤len:=HFT2.out
   have hcs:¬ cap=s:=by omega
   have hsI:(s:Int)≤(len:Int):=by omega
   have hsc:(s:Int)≤(cap:Int):=by omega
   have hsE:(s:Int)≤(s:Int)+(E:Int):=by omega
   have hEc:(s:Int)+(E:Int)≤(cap:Int):=by omega
   have hsn:((s:Int)+(E:Int)).toNat-s=E:=by omega
   have hsn2:s+E-s=E:=by omega
   have h1n:1≤n:=by omega
   clear he hE
   have HCd:Hid (∀ k j,j<len→(wr.drewN k).cell? ⟨b,off+j,none⟩=some (.int .i64 (z.getD j 0))):=Qa (fun k j hj=>HC.out j hj)
   gi_wp2
   gi_big_quiet ((exact CallsIn.quiet_of_same (callsIn_wide.2 ((KF.out _ (HCd.out _) _).mono (fun _ _ h=>⟨h.1,h.2.symm⟩)))))
   have hJd:J pre (wr.drewN nq):=hJ pre wr (wr.drewN nq) none HJ.out ⟨rfl,rfl,rfl,Nat.le_refl _,fun _ _ _=>rfl⟩ (fun r e=>by cases e)
   obtain ⟨fn,tmps,assign,body,hy,hR⟩:=hY pre ⟨(s,E),hfit,hE1⟩ (wr.drewN nq) hJd (by have:=HPL.out;omega)
   dsimp only at hy hR
   have HA2:Hid (A=(pre++[(⟨(s,E),hfit,hE1⟩:Chk9 len)]).map Subtype.val++chR bd z (s+E)):=Qa (by rw [HA.out,HST2.out];simp)
   have HPL2:Hid ((pre++[(⟨(s,E),hfit,hE1⟩:Chk9 len)]).length≤s+E):=Qa (by rw [List.length_append];have:=HPL.out;simp;omega)
   have cld:(wr.drewN nq).cell? ⟨Bl,0,none⟩=some (.slice (some ⟨b,off,none⟩) len cap):=cl
   have cbd:(wr.drewN nq).cell? ⟨Bb,0,none⟩=some (.int .i64 bd):=cb
   have HCc:=Qa (HCd.out nq)
   gi_wp2
   refine hR.mono ?_
   rintro e W3 (⟨rfl,hJ3,hk3⟩ | ⟨rfl,hJx3⟩)
   ·have cl3:W3.cell? ⟨Bl,0,none⟩=some (.slice (some ⟨b,off,none⟩) len cap):=(hk3.cell (p:=⟨Bl,0,none⟩) (.inr (.inl rfl))).trans cld
    have cb3:W3.cell? ⟨Bb,0,none⟩=some (.int .i64 bd):=(hk3.cell (p:=⟨Bb,0,none⟩) (.inr (.inr rfl))).trans cbd
    have HC3:Hid (∀ j,j<len→W3.cell? ⟨b,off+j,none⟩=some (.int .i64 (z.getD j 0))):=Qa (fun j hj=>(hk3.cell (p:=⟨b,off+j,none⟩) (.inl hb)).trans (HCc.out j hj))
    have HJ3:=Qa hJ3
    gi_wp2
    go_roundw
    case rel=>exact ⟨s+E,_,hfit,by go_num,HPL2,HA2,HJ3,cl3,cb3,HC3⟩
    case measure=>first | (simp [intOf];done) | (simp [intOf];omega)
   ·gi_wp2
    refine bodyPost_ret (results_none rfl _ _ _) rfl ?_
    exact ⟨⟨_,rfl⟩,.inr ⟨_,⟨chR bd z (s+E),HA2.out.symm⟩,hJx3⟩⟩
  ·have hie:s=len:=by omega
   subst hie
   have HF:Hid (A=pre.map Subtype.val):=Qa (by rw [HA.out,HEN.out,List.append_nil])
   gi_wp2
   go_end0
   exact ⟨⟨_,rfl⟩,.inl ⟨pre,HF.out.symm,HJ.out⟩⟩
attribute [local go_sem] Oper.semAt_some
theorem AUe (a:Option Addr) (len cap:Nat) (bd:Int) (w:World) :
 Calls Tryz.prog 93 #[.slice a len cap,.int .i64 bd] w fun e w'=>e=.returned (.func (.func 138) #[] #[.pointer (some ⟨w.heap.size,0,none⟩),.pointer (some ⟨w.heap.size+1,0,none⟩)])∧(w.alloc (.cells #[.slice a len cap] 24)).alloc (.cells #[.int .i64 bd] 3)=w':=by
 go_enter Tryz.func93,Tryz.ntmps93
 go_wp2
 go_ret
 exact ⟨rfl,rfl⟩
theorem AMx (n:Nat) (l Bl Bb cap:Nat) (a:Option Addr) (J:List (Chk9 0)→World→Prop) (W:World) (hBl:W.cell? ⟨Bl,0,none⟩=some (.slice a 0 cap)) (h0:J [] W) :
 CallsIn Fence.wide n Tryz.prog 138 #[.func (.yield l) #[] #[],.pointer (some ⟨Bl,0,none⟩),.pointer (some ⟨Bb,0,none⟩)] W fun e W'=>(∃ v,e=.returned v)∧J [] W':=by
 refine callsIn_of_wp Tryz.func138 rfl trivial ?_ rfl
 simp only [Tryz.ntmps138,List.size_toArray,List.length_cons,List.length_nil,Nat.reduceAdd,Nat.reduceSub,Array.replicate_succ,Array.replicate_zero,List.push_toArray,List.append_toArray,List.nil_append,List.cons_append]
 gi_wp2
 gi_loopw [4,5] (fun si _ wr=>si=.int .i64 0∧wr.cell? ⟨Bl,0,none⟩=some (.slice a 0 cap)∧J [] wr) (fun _ _ _=>0)
 case atStart=>exact ⟨rfl,hBl,h0⟩
 case round =>
  obtain ⟨rfl,cl,hJ⟩:=hrel
  gi_wp2
  go_end0
  exact ⟨⟨_,rfl⟩,hJ⟩
theorem ALv (n:Nat) (hn:2≤n) (Bl Bb n₀ b off len cap:Nat) (a:Option Addr) (bd:Int) (z:List Int) (hz:z.length=len) (hl6:len≤1048576) (hcap:len≤cap) (w:World) (h1:Bl<w.heap.size) (h2:Bb<w.heap.size) (h3:n₀≤w.heap.size)
 (hBl:w.cell? ⟨Bl,0,none⟩=some (.slice a len cap)) (hBb:w.cell? ⟨Bb,0,none⟩=some (.int .i64 bd)) (hr:∀ x∈z,-9223372036854775808≤x∧x≤9223372036854775807)
 (hI:0<len→a=some ⟨b,off,none⟩∧b<n₀∧∀ j,j<len→w.cell? ⟨b,off+j,none⟩=some (.int .i64 (z.getD j 0))) :
 SeqStopsK Fence.wide n Tryz.prog 138 #[.pointer (some ⟨Bl,0,none⟩),.pointer (some ⟨Bb,0,none⟩)] (fun x:Chk9 len=>#[.slice (some ⟨b,off+x.1.1,none⟩) x.1.2 (cap-x.1.1)]) (keepR n₀ Bl Bb)
  (fun ys=>ys.map Subtype.val=chR bd z 0) (fun pre=>pre.map Subtype.val <+: chR bd z 0) len w:=fun l J Jx W hW hJ _ hY h0=>by
 have c1:=(hW.cell (p:=⟨Bl,0,none⟩) h1).trans hBl
 have c2:=(hW.cell (p:=⟨Bb,0,none⟩) h2).trans hBb
 rcases Nat.eq_zero_or_pos len with rfl | hp
 ·refine (AMx n l Bl Bb cap a J W c1 h0).mono fun e W' ⟨he,hj⟩=>⟨he,.inl ⟨[],?_,hj⟩⟩
  rw [xB (by omega)];rfl
 ·obtain ⟨rfl,hb,hc⟩:=hI hp
  exact ARv n hn l Bl Bb n₀ b off len cap bd z hz hl6 hcap hb J Jx hY W hJ c1 c2 hr (fun j hj=>(hW.cell (p:=⟨b,off+j,none⟩) (by simp;omega)).trans (hc j hj)) h0
structure Rnd9 (n₁ B:Nat) (W W':World):Prop where
 os:W'.os=W.os
 tape:W'.tape=W.tape
 output:W'.output=W.output
 size:W.heap.size≤W'.heap.size
 block:∀ i,i<n₁→i≠B→W'.heap[i]? = W.heap[i]?
 others:KeepsOthers W W'
theorem Rnd9.refl (n₁ B:Nat) (W:World):Rnd9 n₁ B W W:=⟨rfl,rfl,rfl,Nat.le_refl _,fun _ _ _=>rfl,KeepsOthers.refl _⟩
theorem Rnd9.trans {n₁ B:Nat} {X Y Z:World} (h:Rnd9 n₁ B X Y) (k:Rnd9 n₁ B Y Z):Rnd9 n₁ B X Z:=⟨k.os.trans h.os,k.tape.trans h.tape,k.output.trans h.output,Nat.le_trans h.size k.size,fun i hi hB=>(k.block i hi hB).trans (h.block i hi hB),h.others.trans k.others⟩
theorem Rnd9.drew {n₁ B:Nat} {X Y:World} (h:Rnd9 n₁ B X Y):Rnd9 n₁ B X Y.drew:=⟨h.os,h.tape,h.output,h.size,h.block,h.others.trans (KeepsOthers.drew _)⟩
theorem AGs (W:World) (n:Nat):KeepsOthers W (W.drewN n):=⟨Nat.le_refl _,fun _ _ h _=>h⟩
theorem Rnd9.drewN {n₁ B:Nat} {X Y:World} (h:Rnd9 n₁ B X Y) (n:Nat):Rnd9 n₁ B X (Y.drewN n):=⟨h.os,h.tape,h.output,h.size,h.block,h.others.trans (AGs _ _)⟩
theorem Rnd9.alloc {n₁ B:Nat} {X Y:World} (h:Rnd9 n₁ B X Y) (hn:n₁≤X.heap.size) (o:Obj):Rnd9 n₁ B X (Y.alloc o):=by
 refine h.trans ⟨rfl,rfl,rfl,by simp,fun i hi _=>Below.heap_alloc Y o i ?_,KeepsOthers.alloc _ _⟩
 have:=h.size;omega
theorem Rnd9.below {n₁ B:Nat} {X Y Z:World} (h:Rnd9 n₁ B X Y) (hn:n₁≤X.heap.size) (k:Below Y.heap.size Y Z):Rnd9 n₁ B X Z:=by
 refine h.trans ⟨k.os,k.tape,k.output,k.size,fun i hi _=>k.block i ?_,⟨k.size,fun i o hi _=>(k.block i (Array.getElem?_eq_some_iff.1 hi).1).trans hi⟩⟩
 have:=h.size;omega
theorem Rnd9.append {n₁ B:Nat} {X Y Z:World} {base n:Nat} {e:TypeId} {v:Value} {xs:List Value} (h:Rnd9 n₁ B X Y) (hn:n₁≤X.heap.size) (hbase:n₁≤base) (hown:Y.ownsRow base e 1 v n xs) (hg:Y.grownBy Z v.ownBlock):Rnd9 n₁ B X Z:=by
 refine h.trans ⟨hg.os,hg.tape,hg.output,hg.size,fun i hi _=>hg.block i ?_ ?_,KeepsOthers.of_grownBy hg fun j o ej hj=>?_⟩
 ·have:=h.size;omega
 ·intro e;have:=(hown.lt i e.symm).1;omega
 ·rcases hown.2 with ⟨rfl,_⟩ | ⟨g,cap,cur,rfl,_,hgb,_⟩
  ·simp [Value.ownBlock] at ej
  ·obtain rfl:g=j:=by simpa [Value.ownBlock] using ej
   rw [hgb] at hj;cases hj;rfl
theorem Rnd9.store {n₁ B:Nat} {X Y:World} (h:Rnd9 n₁ B X Y) {p:Addr} (hp:p.block=B) (u:Value):Rnd9 n₁ B X (Y.setCell p u):=by
 refine h.trans ⟨rfl,rfl,rfl,by simp [World.setCell],fun i hi hB=>Below.heap_setCell Y p u i (by rw [hp];exact hB),KeepsOthers.setCell _ _ _⟩
theorem Rnd9.keepR {n₁ B n₀ Bl Bb:Nat} {X Y:World} (h:Rnd9 n₁ B X Y) (h0:n₀≤B) (hB:B<n₁) (h1:Bl<n₁) (h2:Bb<n₁) (h3:Bl≠B) (h4:Bb≠B):keepR n₀ Bl Bb X Y:=fun i hi=>h.block i (by rcases hi with hi | rfl | rfl <;> omega) (by rcases hi with hi | rfl | rfl <;> omega)
theorem Rnd9.bel {n₁ B n₀:Nat} {X Y:World} (h:Rnd9 n₁ B X Y) (h0:n₀≤B) (hB:B<n₁):Below n₀ X Y:=⟨h.os,h.tape,h.output,h.size,fun i hi=>h.block i (by omega) (by omega)⟩
theorem JL {W w1:World} {B:Nat} {t e:TypeId} {v u:Value} {k base:Nat} {xs:List Value} (hv:Boxed W B t u) (hte:t≠e) (hrow:W.ownsRow base e 1 v k xs) (hgrow:W.grownBy w1 v.ownBlock):Boxed w1 B t u:=hv.kept hgrow (hv.not_row hte hrow)
theorem AEv {W:World} {B base n:Nat} {t e:TypeId} {u v:Value} {xs:List Value} (hv:Boxed W B t u) (hte:t≠e) (hown:W.ownsRow base e 1 v n xs) (x:Value):(W.setCell ⟨B,0,none⟩ x).ownsRow base e 1 v n xs:=hown.kept (grownBy_setCell' W B x) (.inr (hv.not_row hte hown).symm)
end Go.Proofs.YtembljihmnmmfaaGreat
