/- Texts of the proof, merged. -/
import Derived.RangeFuncBox
import Derived.RangeFuncWrites
import Derived.RangeFuncLeaves
import Derived.Shelf.Abstract
import Derived.Sort.MapsRangeIn
import Derived.OwnWalkIn
import Derived.TacticsInMore
import Derived.RegionIn
import Derived.LoopNIn
import Derived.LoopIn
import Derived.Maps.AppendAt
import Derived.Test.YtembljihmnmmfaaGreatKB2
import Derived.Test.YtembljihmnmmfaaGreatKB25
import Derived.Test.YtembljihmnmmfaaGreatKB38
namespace Go.Proofs.YtembljihmnmmfaaGreat
set_option maxHeartbeats 4000000
set_option maxRecDepth 100000
section
set_option linter.unusedVariables false
set_option linter.unusedSimpArgs false
open Go.RowKit Go.Sort
theorem AQd (x:Int) (w:World) (h1:1≤x) (h2:x≤1048575) :
 Calls Tryz.prog 112 #[.int .u64 x] w fun e w'=>e=.returned (.int .i64 ((Nat.log2 x.toNat+1:Nat):Int))∧w'=w:=by
 have K:=Qa (fun W=>Ye x W h1 h2)
 generalize Nat.log2 x.toNat+1=g at K ⊢
 clear h1 h2
 go_enter Tryz.func112,Tryz.ntmps112
 go_wp2_with fail
 refine (K.out _).mono ?_
 rintro e w1 ⟨rfl,rfl⟩
 go_wp2
 go_ret
 exact ⟨rfl,rfl⟩
theorem AUg (w:World) :
 Calls Tryz.prog 112 #[.int .u64 0] w fun e w'=>e=.returned (.int .i64 0)∧w'=w:=by
 have K:=Qa (fun W=>yr W)
 go_enter Tryz.func112,Tryz.ntmps112
 go_wp2_with fail
 refine (K.out _).mono ?_
 rintro e w1 ⟨rfl,rfl⟩
 go_wp2
 go_ret
 exact ⟨rfl,rfl⟩
theorem AQz (d:Array Int) (n:Nat) (hd:d.size=n) (g cap:Nat) (w:World) (hB:Bs w g cap d) (h1:1≤n) (h2:n≤1048575) :
 Calls Tryz.prog 174 #[.slice (some ⟨g,0,none⟩) n cap] w fun e w' =>
  e=.returned (.tuple #[])∧∃ R:Array Int,PermIn 0 n d R∧SortedIn ltInt 0 n R∧Bs w' g cap R∧Only g w w':=by
 have K:=Qa (AQd (n:Int) w (by omega) (by omega))
 have hk:=Yp h1 h2
 rw [Int.toNat_natCast] at K
 have K2:=Qa (AWf n g cap 0 n (Nat.log2 n+1) n d w (by omega) hd hB (by omega) (Nat.le_refl _) h2 (by omega) (.inl rfl))
 generalize Nat.log2 n+1=l at K K2
 clear hB
 go_enter Tryz.func174,Tryz.ntmps174
 go_wp2_with (fail)
 refine (K.out).mono ?_
 rintro e w1 ⟨rfl,rfl⟩
 go_wp2_with (fail)
 refine (K2.out).mono ?_
 rintro e w2 ⟨rfl,R,p1,p2,p3,p4⟩
 go_wp2
 go_end0
 exact ⟨rfl,R,p1,p2,p3,p4⟩
theorem ADa (w:World) :
 Calls Tryz.prog 203 #[.slice none 0 0,.int .i64 0,.int .i64 0] w fun e w'=>e=.returned (.tuple #[])∧w=w':=by
 go_enter Tryz.func203,Tryz.ntmps203
 go_wp2
 go_loopw [6] (fun si wr=>si=.int .i64 1∧w=wr) (fun _ _=>0)
 case atStart=>exact ⟨rfl,rfl⟩
 case round =>
  obtain ⟨rfl,rfl⟩:=hrel
  go_wp2
  go_end0
  exact ⟨rfl,rfl⟩
theorem AYo (w:World) :
 Calls Tryz.prog 193 #[.slice none 0 0,.int .i64 0,.int .i64 0,.int .i64 0] w fun e w'=>e=.returned (.tuple #[])∧w=w':=by
 go_enter Tryz.func193,Tryz.ntmps193
 go_wp2
 go_loopw [1,2,3,8,9] (fun s1 s2 s3 s8 s9 wr=>s1=.int .i64 0∧s2=.int .i64 0∧s3=.int .i64 0∧s8=.bool true∧s9=.bool true∧w=wr) (fun _ _ _ _ _ _=>0)
 case atStart=>exact ⟨rfl,rfl,rfl,rfl,rfl,rfl⟩
 case round =>
  obtain ⟨rfl,rfl,rfl,rfl,rfl,rfl⟩:=hrel
  go_wp2_with (fail)
  refine (ADa _).mono ?_
  rintro e w1 ⟨rfl,rfl⟩
  go_wp2
  (try simp only [Exit.inBlock,Exit.then])
  refine bodyPost_ret (results_none rfl _ _ _) rfl ?_
  exact ⟨rfl,rfl⟩
theorem ANy (w:World) :
 Calls Tryz.prog 174 #[.slice none 0 0] w fun e w'=>e=.returned (.tuple #[])∧w=w':=by
 go_enter Tryz.func174,Tryz.ntmps174
 go_wp2_with (fail)
 refine (AUg _).mono ?_
 rintro e w1 ⟨rfl,rfl⟩
 go_wp2_with (fail)
 refine (AYo _).mono ?_
 rintro e w2 ⟨rfl,rfl⟩
 go_wp2
 go_end0
 exact ⟨rfl,rfl⟩
theorem ARu {d R:Array Int} {P:List Int} (h1:PermIn 0 d.size d R) (h2:SortedIn ltInt 0 d.size R) (hp:P.Perm d.toList) (ha:P.Pairwise (·≤·)):R.toList=P:=by
 have hu:∀ x y:Int,ltInt x y=false→ltInt y x=false→x=y:=by
  intro x y h3 h4
  simp [ltInt] at h3 h4
  omega
 have e1:=sorted_unique_holds (lt:=ltInt) swo_ltInt hu d R h1 h2
 rw [e1]
 have hsz:P.toArray.size=d.size:=by simpa using hp.length_eq
 have h3:PermIn 0 d.size d P.toArray:=by
  refine ⟨hsz,fun i h=>?_,?_⟩
  ·rcases h with h | h
   ·omega
   ·rw [getElem!_neg _ i (by omega),getElem!_neg _ i (by omega)]
  ·simp only [Array.toList_extract]
   rw [←hsz]
   simp
   rw [List.take_of_length_le (by rw [hp.length_eq];exact Nat.le_refl _)]
   exact hp
 have h4:SortedIn ltInt 0 d.size P.toArray:=by
  intro i j _ hij hj
  have hj2:j<P.length:=by simp at hsz;omega
  have:=List.pairwise_iff_getElem.1 ha i j (by omega) hj2 hij
  rw [getElem!_pos P.toArray j (by simpa using hj2),getElem!_pos P.toArray i (by simp;omega)]
  simp [ltInt]
  exact this
 have e2:=sorted_unique_holds (lt:=ltInt) swo_ltInt hu d P.toArray h3 h4
 rw [←e2]
end
section
set_option linter.unusedVariables false
set_option linter.unusedSimpArgs false
open Go.RowKit Go.Maps Go.Shelf
attribute [local go_sem] Oper.semAt_some
def encB (x:Nat):Value:=.int .u8 (x:Int)
theorem AUb {x y:Nat} (h:encB x=encB y):x=y:=by unfold encB at h;injection h with _ h;omega
theorem ASt {a:Int} (h:(Lit.int .u8 a).wf=true):∃ x:Nat,a=(x:Int)∧x<256:=by
 simp [Lit.wf,IntKind.min,IntKind.max,IntKind.signed,IntKind.bits] at h
 exact ⟨a.toNat,by omega,by omega⟩
theorem AGm {key:Value} {kl:Lit} (h:keyOf Tryz.prog 5 key=some kl):∃ x:Nat,key=encB x∧kl=kB x∧x<256:=by
 cases key <;> simp [keyOf,Tryz.underlying5,mapKey] at h
 rename_i q a
 obtain ⟨⟨rfl,hw⟩,rfl⟩:=h
 obtain ⟨x,rfl,hx⟩:=ASt hw
 exact ⟨x,rfl,rfl,hx⟩
def Got (D0:DataW Unit) (left:Lit→Bool) (ss:List Nat):Prop:=ss.Nodup∧(∀ x∈ss,x<256)∧∀ x,x<256→(x∈ss↔(Maps.has D0 (kB x)=true∧left (kB x)=false))
theorem Got.start (D0:DataW Unit):Got D0 (Maps.has D0) []:=⟨List.nodup_nil,by simp,fun x _=>by cases Maps.has D0 (kB x) <;> simp⟩
theorem Got.step {D0:DataW Unit} {left:Lit→Bool} {ss:List Nat} (h:Got D0 left ss) {x:Nat} {y:DataW Unit} (hx:x<256) (hlk:left (kB x)=true) (hat:∀ zd,D0.atKey (kB x) zd=y):Got D0 (fun z=>left z && !z.sameKey (kB x)) (ss++[x]):=by
 have hhas:Maps.has D0 (kB x)=true:=has_true_of_atKey hat
 have hnew:x ∉ ss:=fun hm=>by have:=((h.2.2 x hx).1 hm).2;rw [hlk] at this;cases this
 refine ⟨List.nodup_append.2 ⟨h.1,by simp,fun a ha b hb=>by simp at hb;subst hb;exact fun e=>hnew (e ▸ ha)⟩,fun y hy=>?_,fun y hy=>?_⟩
 ·rcases List.mem_append.1 hy with hy | hy
  ·exact h.2.1 y hy
  ·simp at hy;omega
 ·by_cases e:y=x
  ·subst e
   simp only [hhas,true_and]
   simp [Lit.sameKey,kB]
  ·have e2:¬ (y:Int)=(x:Int):=by omega
   rw [List.mem_append,h.2.2 y hy]
   simp [e,Lit.sameKey,kB,e2]
theorem AQo (n:Nat) (hn:1≤n) (l Bm b nn:Nat) (D0:DataW Unit) (J Jx:List Nat→World→Prop)
 (hY:∀ pre x W,J pre W→pre.length<Maps.size D0→YieldAt Fence.wide (n-1) Tryz.prog l #[encB x] W fun e W' =>
   (e=.returned (.bool true)∧J (pre++[x]) W'∧KeepsWalks W W')∨(e=.returned (.bool false)∧Jx (pre++[x]) W'))
 (W:World) (hJ:AbidesFrom W.heap.size J) (hm:W.cell? ⟨Bm,0,none⟩=some (.map (some b))) (hown:W.ownsMap Tryz.prog 5 (plainElem (H:=Unit) Tryz.prog 3) b nn D0) (h0:J [] W) :
 CallsIn Fence.wide n Tryz.prog 175 #[.func (.yield l) #[] #[],.pointer (some ⟨Bm,0,none⟩)] W fun e W'=>(∃ v,e=.returned v) ∧
  ((∃ ss:List Nat,Got D0 (fun _=>false) ss∧J ss W')∨(∃ pre:List Nat,True∧Jx pre W')):=by
 refine callsIn_of_wp Tryz.func175 rfl trivial ?_ rfl
 simp only [Tryz.ntmps175,List.size_toArray,List.length_cons,List.length_nil,Nat.reduceAdd,Nat.reduceSub,Array.replicate_succ,Array.replicate_zero,List.push_toArray,List.append_toArray,List.nil_append,List.cons_append]
 gi_wp2_with (first
  | (gi_at_range;refine wpListIn_range_own _ rfl _ 119 rfl 5 3 JC Tryz.underlying119 _ b nn _ rfl hown ?_;intro w0 hrg0 hg0 hs0)
  | gi_in)
 go_frame
 gi_loopw [3] (fun _ wr=>∃ (left:Lit→Bool) (cnt:Nat) (ss:List Nat),wr.ranges Tryz.prog 5 (plainElem (H:=Unit) Tryz.prog 3) b W.heap.size nn D0 left cnt∧ss.length+cnt≤Maps.size D0∧Got D0 left ss∧J ss wr)
  (fun _ wr=>wr.rangeLeft b W.heap.size)
 case atStart =>
  exact ⟨_,_,[],hrg0,by simp,Got.start D0,hJ [] W w0 none h0 hg0 (fun r e=>by cases e)⟩
 case round =>
  obtain ⟨left,cnt,ss,hrg,hcs,hC,hJs⟩:=hrel
  gi_wp2_with (first
   | (gi_at_next;refine wpListIn_next_ranges _ rfl _ rfl 5 JC (plainElem (H:=Unit) Tryz.prog 3) encB id (fun key kl hk=>by obtain ⟨x,hx,_⟩:=AGm hk;exact ⟨x,hx⟩) (fun v _ _=>⟨v,rfl⟩) b W.heap.size nn _ _ _ rfl hrg ?_ ?_)
   | gi_in)
  ·intro hc0 hl0
   gi_wp2
   go_end0
   refine ⟨⟨_,rfl⟩,.inl ⟨ss,⟨hC.1,hC.2.1,fun x hx=>?_⟩,hJs⟩⟩
   rw [hC.2.2 x hx,hl0]
  ·intro x c kl yd yp w2 cnt2 hkey hlk hv hat hrg2 hlt hg2 hs2 hen
   obtain ⟨x',ex,rfl,hx256⟩:=AGm hkey
   obtain rfl:x=x':=AUb ex
   have hJ2:J ss w2:=hJ ss wr w2 (some W.heap.size) hJs hg2 (fun r e=>by cases e;exact ⟨Nat.le_refl _,hrg.iter_walk⟩)
   obtain ⟨fn,tmps,assign,body,hy,hR⟩:=hY ss x w2 hJ2 (by omega)
   clear hs2
   gi_wp2
   refine hR.mono ?_
   have hC2:=hC.step hx256 hlk hat
   rintro e W3 (⟨rfl,hJ3,hk3⟩ | ⟨rfl,hJx3⟩)
   ·gi_wp2
    have hrg3:=hrg2.of_walks hk3
    go_roundw
    case rel=>exact ⟨_,cnt2,ss++[x],hrg3,by simp;omega,hC2,hJ3⟩
    case measure=>rw [hrg3.left_eq,hrg.left_eq];exact hlt
   ·gi_wp2
    refine bodyPost_ret (results_none rfl _ _ _) rfl ?_
    exact ⟨⟨_,rfl⟩,.inr ⟨ss++[x],trivial,hJx3⟩⟩
theorem ALz (n:Nat) (hn:1≤n) (Bm b nn:Nat) (D0:DataW Unit) (w:World) (hBm:Bm<w.heap.size) (hm:w.cell? ⟨Bm,0,none⟩=some (.map (some b))) (hown:w.ownsMap Tryz.prog 5 (plainElem (H:=Unit) Tryz.prog 3) b nn D0) :
 SeqStopsK Fence.wide n Tryz.prog 175 #[.pointer (some ⟨Bm,0,none⟩)] (fun x=>#[encB x]) KeepsWalks (fun ss=>Got D0 (fun _=>false) ss) (fun _=>True) (Maps.size D0) w:=fun l J Jx W hW hJ _ hY h0=>by
 have hown':W.ownsMap Tryz.prog 5 (plainElem (H:=Unit) Tryz.prog 3) b nn D0:=by
  have hbl:=hown.lt
  obtain ⟨es,clock,hb,Ft,hs,hD⟩:=hown
  exact ⟨es,clock,(hW.block b hbl).trans hb,Ft,hs,hD⟩
 exact AQo n hn l Bm b nn D0 J Jx hY W hJ ((hW.cell (p:=⟨Bm,0,none⟩) hBm).trans hm) hown' h0
theorem BAc:(Tryz.prog.info? 5).map (fun i=>(i.zero,i.size,i.bytes))=some (some (.int .u8 0),1,1):=by kernel_rfl
theorem ACv (n:Nat) (hn:3≤n) (Bm b nn:Nat) (D0:DataW Unit) (w:World) (hBm:Bm<w.heap.size) (hm:w.cell? ⟨Bm,0,none⟩=some (.map (some b))) (hown:w.ownsMap Tryz.prog 5 (plainElem (H:=Unit) Tryz.prog 3) b nn D0) (hN:Maps.size D0≤1048576) :
 CallsIn Fence.wide n Tryz.prog 192 #[.slice none 0 0,.func (.func 175) #[] #[.pointer (some ⟨Bm,0,none⟩)]] w fun e W' =>
  ∃ v ss,e=.returned v∧Got D0 (fun _=>false) ss∧W'.ownsRow w.heap.size 5 1 v ss.length (ss.map encB)∧(v=.slice none 0 0↔ss=[])∧Below w.heap.size w W':=by
 have h1:1≤n:=by omega
 obtain ⟨i0,hi,hz0,hz1,hz2⟩:=info_parts BAc
 refine callsIn_of_wp_marks Tryz.func192 rfl trivial ?_ rfl
 simp only [Tryz.ntmps192,List.size_toArray,List.length_cons,List.length_nil,Nat.reduceAdd,Nat.reduceSub,Array.replicate_succ,Array.replicate_zero,List.push_toArray,List.append_toArray,List.nil_append,List.cons_append]
 gi_wp2
 have bO:=Boxed.new w 61 (.slice none 0 0)
 have hB0:Below w.heap.size w (w.alloc (.cells #[.slice none 0 0] 61)):=(Below.refl _ w).alloc (Nat.le_refl _) _
 have hseq:=(ALz (n-1) (by omega) Bm b nn D0 (w.alloc (.cells #[.slice none 0 0] 61)) (by simp;omega) (hB0.cell (p:=⟨Bm,0,none⟩) hBm ▸ hm) (hown.alloc _))
 refine wpIn_rangeFunc_ownG rfl h1 (gf:=175) (lb:=#[.pointer (some ⟨Bm,0,none⟩)]) rfl trivial (enters_of Tryz.func175 (by kernel_rfl) rfl)
  hseq walksK_t walksK_b (Below.refl _ _) (fun _=>rfl)
  (fun pre W=>(∃ v,Boxed W w.heap.size 61 v∧W.ownsRow w.heap.size 5 1 v pre.length (pre.map encB)∧(v=.slice none 0 0↔pre=[]))∧Below w.heap.size w W)
  (fun _ _ _=>False)
  (OwnFrom.and (Own.from (holdsRow_own w.heap.size w.heap.size 61 5 1 (fun pre:List Nat=>pre.length) (fun pre=>pre.map encB) (fun pre v=>v=.slice none 0 0↔pre=[])) _) (ownFrom_below (Nat.le_refl _) (by simp)))
  (fun _ _ _ _ _ hs _ _=>hs)
  ⟨⟨_,bO,World.ownsRow_nil _ _ _ _,by simp⟩,hB0⟩
  (fun x=>{ tmps:=#[.slice none 0 0,.func (.func 175) #[] #[.pointer (some ⟨Bm,0,none⟩)],.pointer (some ⟨w.heap.size,0,none⟩),undef,.slice none 0 0,.int .u8 (x:Int),.func (.func 175) #[] #[.pointer (some ⟨Bm,0,none⟩)],.int .u8 (x:Int),undef,undef,undef,undef,undef],defers:=[] }) ?assign ?body ?done ?stop
 case assign =>
  intro l x W K hK
  gi_wp2
  exact hK
 case body =>
  rintro l pre x W ⟨⟨v,hv,hrow,hnil⟩,hB⟩ hlt
  have hc:=hv.cell
  gi_wp2_with (gi_at_builtin;refine wpListIn_append_own _ rfl _ _ 61 rfl w.heap.size 5 i0 (.int .u8 0) 1 1 Tryz.underlying61 hi hz0 hz1 hz2 rfl (by decide) _ _ _ rfl (hrow.alloc _) ⟨W.heap.size,0,none⟩ 1 1 [.int .u8 (x:Int)] rfl rfl (cell_one_new _ _ _) (by simp [Value.oneCell']) (by unfold maxLen;omega) (by omega) (by have:=hB.size;simp;omega) ?_;intro v' w1 hown' hgrow _;obtain ⟨g',cap',rfl⟩:=ownsRow_succ hown';obtain ⟨hv1,hv2,hr2,hk2,hb2⟩:=hv.appended (by decide) hrow hB.size (Nat.le_refl _) hown' hgrow;have hc1:=hv1.cell;have hf1:=hv1.frozen)
  exact ⟨hk2.from _,hk2.walks,⟨_,hv2,by simpa [encB] using hr2,by simp⟩,hB.trans hb2⟩
 case done =>
  rintro D ys W hD hS ⟨⟨v,hv,hrow,hnil⟩,hB⟩ hK
  have hc:=hv.cell
  gi_wp2
  refine ⟨by simp,.inl ⟨_,_,rfl,run_takeDeferred hK,?_⟩⟩
  exact ⟨_,results_tmp rfl _ _ _,v,ys,rfl,hS,ownsRow_putObj hrow _ hK rfl,hnil,hB.trans (belowK_b (w:=w) (Nat.le_refl _) W D _ _ (by simp at hD;omega) hK rfl rfl)⟩
 case stop =>
  rintro D c pre W _ _ h _
  exact h.elim
end
section
set_option linter.unusedVariables false
set_option linter.unusedSimpArgs false
open Go.RowKit Go.Maps Go.Sort
theorem ATy {w:World} {base base':Nat} {e:TypeId} {size:Nat} {v:Value} {n:Nat} {xs:List Value} (h:w.ownsRow base e size v n xs) (hb:base'≤base):w.ownsRow base' e size v n xs:=by
 refine ⟨h.1,?_⟩
 rcases h.2 with h2 | ⟨g,cap,cur,e1,e2,e3⟩
 ·exact .inl h2
 ·exact .inr ⟨g,cap,cur,e1,by omega,e3⟩
theorem AZj {w:World} {base n:Nat} {v:Value} {ss:List Nat} (h:w.ownsRow base 5 1 v n (ss.map encB)) (hn:n=ss.length) (h0:0<n) :
 ∃ g cap,v=.slice (some ⟨g,0,none⟩) n cap∧base≤g∧cap≤maxLen∧Bs w g cap (ss.map (fun x:Nat=>(x:Int))).toArray:=by
 rcases h.2 with ⟨rfl,h1⟩ | ⟨g,cap,cur,rfl,hb,hh,hnc,hcm,hcs,htk⟩
 ·omega
 ·refine ⟨g,cap,rfl,hb,hcm,by simp;omega,cur,hh,by omega,fun j hj=>?_⟩
  simp at hj
  have h2:(cur.toList.take (n*1))[j]? = (ss.map encB)[j]?:=by rw [htk]
  rw [List.getElem?_take_of_lt (by omega)] at h2
  rw [←Array.getElem?_toList,h2,List.getElem?_map,List.getElem?_eq_getElem hj,getElem!_pos _ j (by simpa using hj)]
  simp [encB]
theorem AZn {w:World} {g cap base:Nat} {d:Array Int} (h:Bs w g cap d) (hb:base≤g) (hc:cap≤maxLen):w.ownsRow base 5 1 (.slice (some ⟨g,0,none⟩) d.size cap) d.size (d.toList.map (Value.int .u8)):=by
 obtain ⟨h0,cur,h1,h2,h3⟩:=h
 refine ⟨by simp,.inr ⟨g,cap,cur,rfl,hb,h1,h0,hc,by omega,?_⟩⟩
 apply List.ext_getElem?
 intro j
 by_cases hj:j<d.size
 ·rw [List.getElem?_take_of_lt (by omega),Array.getElem?_toList,h3 j hj,List.getElem?_map,Array.getElem?_toList,Array.getElem?_eq_getElem hj,getElem!_pos d j hj]
  rfl
 ·rw [List.getElem?_eq_none (by simp;omega),List.getElem?_eq_none (by simp;omega)]
def pos8 (f:Nat→Nat):List Nat:=(List.range 256).filter (fun b=>decide (0<f b))
theorem AFp (f:Nat→Nat):(pos8 f).Pairwise (·<·):=List.Pairwise.filter _ List.pairwise_lt_range
theorem AUx {D:DataW Unit} {f:Nat→Nat} {ss:List Nat} (hg:Got D (fun _=>false) ss) (hc:Cnt D f):ss.Perm (pos8 f):=by
 refine (List.perm_ext_iff_of_nodup hg.1 ((AFp f).imp (fun h=>Nat.ne_of_lt h))).2 (fun x=>?_)
 unfold pos8
 rw [List.mem_filter,List.mem_range]
 constructor
 ·intro h
  have hx:=hg.2.1 x h
  have:=((hg.2.2 x hx).1 h).1
  rw [hc.2.1 x hx] at this
  exact ⟨hx,this⟩
 ·rintro ⟨hx,h⟩
  exact (hg.2.2 x hx).2 ⟨by rw [hc.2.1 x hx];exact h,rfl⟩
theorem AIk (Bm b nn:Nat) (D0:DataW Unit) (w:World) (hBm:Bm<w.heap.size) (hm:w.cell? ⟨Bm,0,none⟩=some (.map (some b))) (hown:w.ownsMap Tryz.prog 5 (plainElem (H:=Unit) Tryz.prog 3) b nn D0) (hN:Maps.size D0≤1048576) :
 Calls Tryz.prog 173 #[.func (.func 175) #[] #[.pointer (some ⟨Bm,0,none⟩)]] w fun e W' =>
  ∃ v ss,e=.returned v∧Got D0 (fun _=>false) ss∧W'.ownsRow w.heap.size 5 1 v ss.length (ss.map encB)∧(v=.slice none 0 0↔ss=[])∧Below w.heap.size w W':=by
 have K:=Qa (callsIn_wide.1 (ACv 3 (Nat.le_refl _) Bm b nn D0 w hBm hm hown hN))
 clear hm hown
 go_enter Tryz.func173,Tryz.ntmps173
 go_wp2_with (fail)
 refine (K.out).mono ?_
 rintro e w1 ⟨v,ss,rfl,h1,h2,h3,h4⟩
 go_wp2
 go_ret
 exact ⟨v,ss,rfl,h1,h2,h3,h4⟩
theorem ATz (mb:Nat) (w:World) :
 Calls Tryz.prog 144 #[.map (some mb)] w fun e w'=>e=.returned (.func (.func 175) #[] #[.pointer (some ⟨w.heap.size,0,none⟩)])∧w.alloc (.cells #[.map (some mb)] 119)=w':=by
 go_enter Tryz.func144,Tryz.ntmps144
 go_wp2
 go_ret
 exact ⟨rfl,rfl⟩
theorem AJn (Bm b nn:Nat) (D0:DataW Unit) (f:Nat→Nat) (w:World) (hBm:Bm<w.heap.size) (hm:w.cell? ⟨Bm,0,none⟩=some (.map (some b))) (hown:w.ownsMap Tryz.prog 5 (plainElem (H:=Unit) Tryz.prog 3) b nn D0) (hC:Cnt D0 f) :
 Calls Tryz.prog 143 #[.func (.func 175) #[] #[.pointer (some ⟨Bm,0,none⟩)]] w fun e W' =>
  ∃ v,e=.returned v∧W'.ownsRow w.heap.size 5 1 v (pos8 f).length (u8s (pos8 f))∧Below w.heap.size w W':=by
 have hcd:=AKa f
 have hsz:Maps.size D0≤1048576:=by rw [hC.2.2.2];omega
 have K:=Qa (AIk Bm b nn D0 w hBm hm hown hsz)
 have HC:=Qa hC
 clear hm hown hC
 go_enter Tryz.func143,Tryz.ntmps143
 go_wp2_with (fail)
 refine (K.out).mono ?_
 rintro e w1 ⟨v,ss,rfl,hG,hrow,hnil,hb1⟩
 have hp:=AUx hG HC.out
 by_cases h0:ss=[]
 ·obtain rfl:=hnil.2 h0
  subst h0
  have hP:pos8 f=[]:=hp.symm.eq_nil
  have HPE:=Qa hP
  have HROW:=Qa hrow
  clear hrow hnil hG hp K hP
  go_wp2_with (fail)
  refine (ANy _).mono ?_
  rintro e w2 ⟨rfl,rfl⟩
  go_wp2
  go_ret
  refine ⟨_,rfl,?_,hb1⟩
  rw [HPE.out]
  exact HROW.out
 ·have hpl:ss.length=(pos8 f).length:=hp.length_eq
  have hlen:(pos8 f).length≤256:=by
   unfold pos8
   have:=List.length_filter_le (fun b=>decide (0<f b)) (List.range 256)
   simpa using this
  have h1:1≤ss.length:=by
   cases ss with
   | nil=>exact absurd rfl h0
   | cons a l=>simp
  obtain ⟨g,cap,rfl,hbg,hcm,hBs⟩:=AZj hrow rfl (by omega)
  have hgl:=hBs.lt
  have K2:=Qa (AQz (ss.map (fun x:Nat=>(x:Int))).toArray ss.length (by simp) g cap w1 hBs h1 (by omega))
  have HP:=Qa hp
  have HPL:=Qa hpl
  clear hrow hnil hG hp K hBs h0 hpl
  go_wp2_with (fail)
  refine (K2.out).mono ?_
  rintro e w2 ⟨rfl,R,p1,p2,p3,p4⟩
  have hRs:R.size=ss.length:=by rw [p1.1];simp
  have hR:R.toList=(pos8 f).map (fun x:Nat=>(x:Int)):=by
   refine ARu (d:=(ss.map (fun x:Nat=>(x:Int))).toArray) (by simpa using p1) (by simpa using p2) ?_ ?_
   ·simpa using (HP.out.symm.map (fun x:Nat=>(x:Int)))
   ·rw [List.pairwise_map]
    exact (AFp f).imp (fun h=>by omega)
  have hown2:=Qa (AZn (base:=w.heap.size) p3 hbg hcm)
  rw [hR,hRs] at hown2
  have hb2:=Qa (hb1.trans (p4.below hbg hb1.size))
  clear p1 p2 p3 p4 K2
  go_wp2
  go_ret
  refine ⟨_,rfl,?_,hb2.out⟩
  rw [←HPL.out]
  have:=hown2.out
  rw [List.map_map] at this
  exact this
theorem zi (mb n0:Nat) (f:Nat→Nat) (w:World) (hm:Zh w mb n0 f) :
 Calls Tryz.prog 100 #[.map (some mb)] w fun e w' =>
  ∃ v,e=.returned v∧w'.ownsRow w.heap.size 5 1 v (pos8 f).length (u8s (pos8 f))∧Below w.heap.size w w':=by
 have hm1:=hm.alloc (.cells #[.map (some mb)] 119)
 obtain ⟨D,hown,hC⟩:=hm1
 have hb0:Below w.heap.size w (w.alloc (.cells #[.map (some mb)] 119)):=(Below.refl _ _).alloc (Nat.le_refl _) _
 have hc:(w.alloc (.cells #[.map (some mb)] 119)).cell? ⟨w.heap.size,0,none⟩=some (.map (some mb)):=by
  rw [(Has.fresh w 119 #[.map (some mb)]).cell];rfl
 have K:=Qa (AJn w.heap.size mb n0 D f _ (by simp) hc hown hC)
 clear hown hC hc hm
 go_enter Tryz.func100,Tryz.ntmps100
 go_wp2_with (fail)
 refine (ATz mb w).mono ?_
 rintro e w1 ⟨rfl,rfl⟩
 go_wp2_with (fail)
 refine (K.out).mono ?_
 rintro e w2 ⟨v,rfl,hrow,hb⟩
 have HROW:=Qa (ATy (base':=w.heap.size) hrow (by simp))
 go_wp2
 go_ret
 exact ⟨v,rfl,HROW.out,hb0.trans (hb.mono (by simp))⟩
end
end Go.Proofs.YtembljihmnmmfaaGreat
