/- Texts of the proof, merged. -/
import Derived.Deep.RegionHeld3
import Derived.Deep.DrawnRows
import Derived.StillTailTactics
import Derived.Test.YtembljihmnmmfaaGreatKB16
import Derived.Test.YtembljihmnmmfaaGreatKB2
import Derived.Test.YtembljihmnmmfaaGreatKB13
import Derived.Test.YtembljihmnmmfaaGreatKB24
namespace Go.Proofs.YtembljihmnmmfaaGreat
set_option maxHeartbeats 2000000
set_option maxRecDepth 100000
set_option linter.unusedVariables false
set_option linter.unusedSimpArgs false
open Go.RowKit
attribute [local go_sem ↓] Go.wp_at_zero Go.wp_at_succ
theorem AJj (a:Option Addr) (cap B m:Nat) (L:List Nat) (w:World) (hz:Ints w B a (ints L)) (hB:B≤w.heap.size) (hok:rOk (ints L) m=true) (hm1:1≤m) (hm2:m≤256) (hL6:L.length≤600) (hLm:∀ x∈L,x<m) :
 Calls Tryz.prog 24 #[.slice a L.length cap,.int .i64 m] w fun e w'=>∃ v,e=.returned v∧w'.ownsRow w.heap.size 3 1 v L.length (Qe (runF (sbrF m) sb0 L))∧Below w.heap.size w w':=by
 obtain ⟨i0,hi,hz0,hz1,hz2⟩:=info_parts Tryz.infoInt
 have KR:=Qa (Zp a cap B (ints L) m w hz (by rw [Qj];omega) (by omega) (by omega))
 rw [hok,Qj] at KR
 have HZ:=Qa hz
 have HLM:=Qa hLm
 obtain ⟨A,hA⟩:∃ A,runF (sbrF m) sb0 L=A:=⟨_,rfl⟩
 have HA:=Qa hA
 rw [hA]
 obtain ⟨n,hn⟩:∃ n,L.length=n:=⟨_,rfl⟩
 have HN:=Qa hn
 rw [hn] at KR hL6 ⊢
 clear hz hA hn hok hLm
 go_enter Tryz.func24,Tryz.ntmps24
 go_wp2_with fail
 refine KR.out.mono ?_
 rintro e w0 ⟨rfl,rfl⟩
 go_wp2_with (at_make;refine wpList_make_full _ rfl _ _ 24 rfl w.heap.size 3 i0 (.int .i64 0) 1 Tryz.underlying24 hi hz0 hz1 .i64 .i64 _ _ m rfl rfl rfl rfl ?cb1 ?cb2 ?cb3 ?_)
 case cb1=>rw [hz2];omega
 case cb2=>unfold maxLen;omega
 case cb3=>exact Nat.le_refl _
 intro w1 hownA hgrow1
 have b1:=ZQ hgrow1
 have s1:=b1.size
 rw [Zl] at hownA
 have hga:=(hownA.lt w.heap.size rfl).2
 have HOA:=Qa hownA
 clear hgrow1 hownA
 go_wp2_with (at_make;refine wpList_make_full _ rfl _ _ 24 rfl w.heap.size 3 i0 (.int .i64 0) 1 Tryz.underlying24 hi hz0 hz1 .i64 .i64 _ _ m rfl rfl rfl rfl ?cd1 ?cd2 ?cd3 ?_)
 case cd1=>rw [hz2];omega
 case cd2=>unfold maxLen;omega
 case cd3=>exact s1
 intro w2 hownB hgrow2
 have b2:=ZQ hgrow2
 rw [Zl] at hownB
 have hgb:=(hownB.lt w1.heap.size rfl).2
 have HOB:=Qa hownB
 have HOA2:=Qa (Ql HOA.out b2)
 have b12:=Qc b2 s1 b1
 obtain ⟨gb,hgbe⟩:∃ g,w1.heap.size=g:=⟨_,rfl⟩
 obtain ⟨M,hM⟩:∃ M,w2.heap.size=M:=⟨_,rfl⟩
 have HM:Hid (w2.heap.size=M):=Qa hM
 rw [hgbe] at HOB hga hgb ⊢
 rw [hM] at hgb
 have s12:=b12.size
 clear hgrow2 hownB b1 b2 HOA hM hgbe
 have HS0:Hid (nats m (fun _=>0)=nats m sb0.a∧nats m (fun _=>0)=nats m sb0.b):=Qa ⟨rfl,rfl⟩
 have hA0:w2.ownsRow w.heap.size 3 1 (.slice (some ⟨w.heap.size,0,none⟩) m m) m (nats m sb0.a):=by rw [←HS0.out.1];exact HOA2.out
 have hB0:w2.ownsRow w.heap.size 3 1 (.slice (some ⟨gb,0,none⟩) m m) m (nats m sb0.b):=by rw [←HS0.out.2];exact HOB.out
 clear HOA2 HOB HS0
 have hs2M:M≤w2.heap.size:=by rw [HM.out];exact Nat.le_refl _
 have hwM:w.heap.size≤M:=by omega
 have hga0:w.heap.size≤gb:=by omega
 have hga1:w.heap.size<gb:=hga
 go_wp2
 go_loopw [5,8] (fun vo si wr=>∃ (k:Nat) (s:SB) (D:List Nat),k≤n∧si=.int .i64 k∧Hid (A=D++runF (sbrF m) s (L.drop k))∧Hid (D.length=k)∧Hid s.ok∧Hid (s.t=k)∧wr.ownsRow w.heap.size 3 1 (.slice (some ⟨w.heap.size,0,none⟩) m m) m (nats m s.a)∧wr.ownsRow w.heap.size 3 1 (.slice (some ⟨gb,0,none⟩) m m) m (nats m s.b)∧wr.ownsRow M 3 1 vo k (Qe D)∧Below w.heap.size w wr∧M≤wr.heap.size) (fun _ si _=>n-(intOf si).toNat)
 case atStart=>exact ⟨0,sb0,[],by omega,rfl,Qa (by rw [←HA.out];rfl),Qa rfl,Qa ANr,Qa rfl,hA0,hB0,World.ownsRow_nil _ _ _ _,b12,hs2M⟩
 case round =>
  obtain ⟨k,s,D,hk,rfl,HD,HDl,HOK,HT,hAr,hBr,hout,hbl,hMr⟩:=hrel
  clear hA0 hB0 b12 hs2M
  have hsz:=hbl.size
  by_cases hlt:k<n
  ·obtain ⟨b,off,rfl,hb,hc⟩:=(HZ.out.below (hbl.mono hB)).2.2 (by rw [Qj,HN.out];omega)
   have ck:=Xz (B:=B) hc k (by rw [HN.out];exact hlt)
   have hxm:=HLM.out _ (ZE L k (by rw [HN.out];exact hlt))
   have HDR:=Qa (Zx L k (by rw [HN.out];exact hlt))
   obtain ⟨x,hx⟩:∃ x,L.getD k 0=x:=⟨_,rfl⟩
   rw [hx] at ck hxm HDR
   have hkI:(k:Int)<n:=by omega
   have hxI:(x:Int)<m:=by omega
   have KB:=Qa (fun (W:World) h1 h2 h3=>AUz w.heap.size w.heap.size gb m m m s.a s.b W h1 h2 h3 hm1 hm2 (fun q=>by have:=HOK.out q;have:=HT.out;omega) (fun q=>by have:=HOK.out q;have:=HT.out;omega))
   have HSM:Hid ((fun q=>s.a q+s.b q)=s.sm):=Qa rfl
   rw [HSM.out] at KB
   have KP:=Qa (fun (W:World) base g c h1=>jp base g c x m (byL s.sm m) W h1 (qh _ _) hm2 (by omega))
   have hPN:=(Xt s.sm m).1
   have hym:=hPN.idx hxm
   rw [Zu,if_pos ((hPN.mem x).2 hxm)] at KP
   have HST:Hid (A=(D++[(byL s.sm m).idxOf x])++runF (sbrF m) (s.up x) (L.drop (k+1))):=Qa (by
    rw [HD.out,HDR.out,runF,List.append_assoc];rfl)
   obtain ⟨y,hy⟩:∃ y,(byL s.sm m).idxOf x=y:=⟨_,rfl⟩
   rw [hy] at KP HST hym
   have hck0:b<w.heap.size:=by omega
   have ckw:w.cell? ⟨b,off+k,none⟩=some (.int .i64 (x:Int)):=((hbl.cell (p:=⟨b,off+k,none⟩) hck0).symm).trans ck
   have hgaM:w.heap.size<M:=by omega
   have hm8:k+1≤maxLen:=by unfold maxLen;omega
   have hb8:(k+1)*8≤140737488355328:=by omega
   clear hx hc hy hPN
   go_wp2
   go_region_held3 (fun w'=>w'.cell? ⟨b,off+k,none⟩=some (.int .i64 (x:Int))) (go_keep) (first | (go_at_call 56;refine (KB.out _ ?ha ?hb ?hs).mono ?_;(case ha=>exact hAr);(case hb=>exact hBr);(case hs=>exact hsz);rintro e w3 ⟨g3,c3,rfl,hby,b3⟩;have bl3:Below w.heap.size w w3:=⟨b3.os.trans hbl.os,b3.tape.trans hbl.tape,b3.output.trans hbl.output,Nat.le_trans hbl.size b3.size,fun i hi=>(b3.block i (Nat.lt_of_lt_of_le hi hsz)).trans (hbl.block i hi)⟩;have hA3:=Yl hAr (fun i hi=>b3.block i hi);have hB3:=Yl hBr (fun i hi=>b3.block i hi);have hO3:=Yl hout (fun i hi=>b3.block i hi);have hM3:M≤w3.heap.size:=Nat.le_trans hMr b3.size;have ck3:w3.cell? ⟨b,off+k,none⟩=some (.int .i64 (x:Int)):=(b3.cell (p:=⟨b,off+k,none⟩) (Nat.lt_of_lt_of_le hck0 hsz)).trans ck;clear b3) | (go_at_call 54;refine (KP.out _ _ _ _ hby).mono ?_;rintro e w4 ⟨rfl,rfl⟩) | (refine qf _ (by rfl) _ _ _ (by rfl) M 3 i0 (.int .i64 0) 1 8 Tryz.underlying24 hi hz0 hz1 hz2 (by rfl) (by decide) u5 k _ (by rfl) (by exact hO3.alloc _) ⟨w3.heap.size,0,none⟩ 1 1 [.int .i64 (y:Int)] (by rfl) (by rfl) (by exact cell_one_new _ _ _) (fun u hu=>by simp at hu;subst hu;rfl) hm8 hb8 ?hbb ?_;(case hbb=>(simp;omega));intro v6 w6 o6 g6;have bl6:=Zf bl3 (Nat.le_trans hwM hM3) (Joins.ownsRow_le hO3 hwM) g6;have ck6:w6.cell? ⟨b,off+k,none⟩=some (.int .i64 (x:Int)):=(bl6.cell (p:=⟨b,off+k,none⟩) hck0).trans ckw;have hA6:=(hA3.alloc (.cells #[.int .i64 (y:Int)] 3)).kept g6 (.inr (vA hO3 hgaM));have hB6:=(hB3.alloc (.cells #[.int .i64 (y:Int)] 3)).kept g6 (.inr (vA hO3 hgb));have hM6:M≤w6.heap.size:=Nat.le_trans hM3 (Nat.le_trans (Nat.le_of_lt (by simp)) g6.size)))
   rw [←QX] at o6
   clear ck hAr hBr hout hbl hMr hsz bl3 hA3 hB3 hO3 hM3 ck3 hby g6
   have a1:=hA6.cellAt x (by omega)
   rw [Qw _ _ _ hxm] at a1
   have a2:=hB6.cellAt x (by omega)
   rw [Qw _ _ _ hxm] at a2
   have f1:=hA6.frozenAt x
   have f2:=hB6.frozenAt x
   have HU:Hid (nats m (s.up x).a=(nats m s.a).set x (.int .i64 ((k:Int)+1))∧nats m (s.up x).b=(nats m s.b).set x (.int .i64 (s.a x:Int))):=Qa (by
    rw [show ((k:Int)+1)=((k+1:Nat):Int) by omega,Zb,Zb]
    refine ⟨?_,rfl⟩
    show nats m (fun y=>if y=x then s.t+1 else s.a y)=_
    rw [HT.out])
   have HU2:Hid ((s.up x).ok∧(s.up x).t=k+1):=Qa ⟨HOK.out.up x,by show s.t+1=k+1;rw [HT.out]⟩
   obtain ⟨q,hq⟩:∃ q,s.a x=q:=⟨_,rfl⟩
   rw [hq] at a1 HU
   clear hq
   go_wp2
   go_still_tail 13,(by kernel_rfl)
   have hA7:w6.drew.ownsRow w.heap.size 3 1 (.slice (some ⟨w.heap.size,0,none⟩) m m) m (nats m s.a):=hA6
   have hB7:w6.drew.ownsRow w.heap.size 3 1 (.slice (some ⟨gb,0,none⟩) m m) m (nats m s.b):=hB6
   have o7:w6.drew.ownsRow M 3 1 v6 (k+1) (Qe (D++[y])):=o6
   have bl7:Below w.heap.size w w6.drew:=bl6.drew
   have hM7:M≤w6.drew.heap.size:=hM6
   have ck7:w6.drew.cell? ⟨b,off+k,none⟩=some (.int .i64 (x:Int)):=ck6
   have a7:w6.drew.cell? ⟨w.heap.size,x,none⟩=some (.int .i64 (q:Int)):=a1
   have b7:=(hB7.cellAt x (by omega))
   rw [Qw _ _ _ hxm] at b7
   have f7:w6.drew.frozen? ⟨w.heap.size,x,none⟩=false:=f1
   have f8:w6.drew.frozen? ⟨gb,x,none⟩=false:=f2
   clear hA6 hB6 o6 bl6 hM6 ck6 a1 a2 f1 f2
   change wpList _ _ _ _ _ w6.drew
   obtain ⟨wx,hwx⟩:∃ wx,w6.drew=wx:=⟨_,rfl⟩
   rw [hwx] at hA7 hB7 o7 bl7 hM7 ck7 a7 b7 f7 f8 ⊢
   have hsA:=hA7
   have h1:=(hB7.stored x (.int .i64 (q:Int))).1
   rw [←HU.out.2] at h1
   have h2:=YH hA7 (p:=⟨gb,x,none⟩) (by simp [Value.ownBlock];omega) (.int .i64 (q:Int))
   have h3:=Zm o7 (p:=⟨gb,x,none⟩) hgb (.int .i64 (q:Int))
   have h4:=(h2.stored x (.int .i64 ((k:Int)+1))).1
   rw [←HU.out.1] at h4
   have h5:=YH h1 (p:=⟨w.heap.size,x,none⟩) (by simp [Value.ownBlock];omega) (.int .i64 ((k:Int)+1))
   have h6:=Zm h3 (p:=⟨w.heap.size,x,none⟩) hgaM (.int .i64 ((k:Int)+1))
   have bl8:=(bl7.setCell (p:=⟨gb,x,none⟩) hga0 (.int .i64 (q:Int))).setCell (p:=⟨w.heap.size,x,none⟩) (Nat.le_refl _) (.int .i64 ((k:Int)+1))
   have hbg:¬ b=gb:=by omega
   have hgg:¬ w.heap.size=gb:=by omega
   have hbw:¬ b=w.heap.size:=by omega
   clear hwx hA7 hB7 o7 bl7 hsA h1 h2 h3
   go_wp2
   go_roundw
   case rel=>exact ⟨k+1,s.up x,D++[y],by omega,by go_num,HST,Qa (by simp [HDl.out]),Qa HU2.out.1,Qa HU2.out.2,h4,h5,h6,bl8,by simpa using hM7⟩
   case measure=>simp [intOf];omega
  ·have hkn:k=n:=by omega
   subst hkn
   have HE:Hid (A=D):=Qa (by rw [HD.out,←HN.out,List.drop_length,runF,List.append_nil])
   go_wp2
   go_ret
   exact ⟨_,rfl,by rw [HE.out];exact Joins.ownsRow_le hout hwM,hbl⟩
attribute [local go_sem ↓] Go.wp_at_zero Go.wp_at_succ
theorem AHm (a:Option Addr) (cap B:Nat) (z:List Int) (n:Int) (w:World) (hz:Ints w B a z) (hB:B≤w.heap.size) (hl:z.length≤1048576) (n1:-9223372036854775808≤n) (n2:n≤9223372036854775807) :
 Calls Tryz.prog 24 #[.slice a z.length cap,.int .i64 n] w fun e w'=>∃ v,e=.returned v∧w'.ownsRow w.heap.size 3 1 v (sbrZ z n).length (Qo (sbrZ z n))∧Below w.heap.size w w':=by
 by_cases hok:rOk z n=true
 ·obtain ⟨L,m,rfl,rfl,hm1,hm2,hL6,hLm⟩:=Za hok
  rw [Vc hok,Qy,Qj,Qj,Xc]
  exact AJj a cap B m L w hz hB hok hm1 hm2 hL6 hLm
 ·have hno:=QC hok
  have KR:=Qa (Zp a cap B z n w hz hl n1 n2)
  rw [hno] at KR
  rw [AKo hno]
  clear hno hok
  go_enter Tryz.func24,Tryz.ntmps24
  go_wp2_with fail
  refine KR.out.mono ?_
  rintro e w0 ⟨rfl,rfl⟩
  go_wp2
  go_ret
  exact ⟨_,rfl,World.ownsRow_nil _ _ _ _,Below.refl _ _⟩
def tmC (m:Nat) (a b:Nat→Nat):Array Value:=((List.range m).flatMap fun i=>[Value.int .i64 (a i:Int),Value.int .i64 (b i:Int)]).toArray
theorem AJq (m:Nat) (a b:Nat→Nat):∀ (x:Nat),x<m→((List.range m).flatMap fun i=>[Value.int .i64 (a i:Int),Value.int .i64 (b i:Int)])[x*2]? = some (.int .i64 (a x:Int))∧((List.range m).flatMap fun i=>[Value.int .i64 (a i:Int),Value.int .i64 (b i:Int)])[x*2+1]? = some (.int .i64 (b x:Int)):=by
 induction m with
 | zero=>intro x h;omega
 | succ m ih =>
   intro x h
   have hl:((List.range m).flatMap fun i=>[Value.int .i64 (a i:Int),Value.int .i64 (b i:Int)]).length=m*2:=by
    clear ih h
    induction m with
    | zero=>rfl
    | succ m ih=>rw [List.range_succ,List.flatMap_append,List.length_append,ih];simp;omega
   rw [List.range_succ,List.flatMap_append]
   by_cases hx:x<m
   ·obtain ⟨h1,h2⟩:=ih x hx
    rw [List.getElem?_append_left (by omega),List.getElem?_append_left (by omega)]
    exact ⟨h1,h2⟩
   ·obtain rfl:x=m:=by omega
    rw [List.getElem?_append_right (by omega),List.getElem?_append_right (by omega),hl]
    simp
theorem xJ (m:Nat) (a b:Nat→Nat):(tmC m a b).size=m*2:=by
 unfold tmC
 simp only [List.size_toArray]
 induction m with
 | zero=>rfl
 | succ m ih=>rw [List.range_succ,List.flatMap_append,List.length_append,ih];simp;omega
theorem Vy (m:Nat) (a b:Nat→Nat) (x:Nat) (h:x<m):(tmC m a b)[x*2]? = some (.int .i64 (a x:Int)):=by unfold tmC;rw [List.getElem?_toArray];exact (AJq m a b x h).1
theorem Vx (m:Nat) (a b:Nat→Nat) (x:Nat) (h:x<m):(tmC m a b)[x*2+1]? = some (.int .i64 (b x:Int)):=by unfold tmC;rw [List.getElem?_toArray];exact (AJq m a b x h).2
theorem AWq (m:Nat) (a b:Nat→Nat) (x u v:Nat) (h:x<m):((tmC m a b).setIfInBounds (x*2) (.int .i64 (u:Int))).setIfInBounds (x*2+1) (.int .i64 (v:Int))=tmC m (fun y=>if y=x then u else a y) (fun y=>if y=x then v else b y):=by
 apply Array.ext_getElem?
 intro i
 rw [Array.getElem?_setIfInBounds,Array.getElem?_setIfInBounds,Array.size_setIfInBounds,xJ]
 by_cases hi:i<m*2
 ·obtain ⟨y,hy | hy⟩:∃ y,i=y*2∨i=y*2+1:=⟨i / 2,by omega⟩
  ·subst hy
   rw [if_neg (by omega),Vy _ _ _ _ (by omega)]
   by_cases e:y=x
   ·subst e;rw [Vy _ _ _ _ h];simp [hi]
   ·rw [if_neg (by omega),Vy _ _ _ _ (by omega),if_neg e]
  ·subst hy
   rw [Vx _ _ _ _ (by omega)]
   by_cases e:y=x
   ·subst e;rw [Vx _ _ _ _ h];simp [hi]
   ·rw [if_neg (by omega),if_neg (by omega),Vx _ _ _ _ (by omega),if_neg e]
 ·have e1:(tmC m a b)[i]? = none:=by rw [Array.getElem?_eq_none_iff,xJ];omega
  have e2:(tmC m (fun y=>if y=x then u else a y) (fun y=>if y=x then v else b y))[i]? = none:=by rw [Array.getElem?_eq_none_iff,xJ];omega
  rw [e1,e2,if_neg (by omega),if_neg (by omega)]
def syC (S:List Nat):Array Value:=(Qe S).toArray
theorem JD (S:List Nat) (k:Nat) (h:k<S.length):(syC S)[k]? = some (.int .i64 ((S.getD k 0:Nat):Int)):=by
 unfold syC
 rw [List.getElem?_toArray,ZC,Qw _ _ _ h]
theorem xE (S:List Nat) (k x:Nat):(syC S).setIfInBounds k (.int .i64 (x:Int))=syC (S.set k x):=by unfold syC;rw [List.setIfInBounds_toArray,VL]
theorem Has.neT {W:World} {a b:Nat} {T T':TypeId} {c c':Array Value} (h:Has W a T c) (h':Has W b T' c') (hT:T≠T'):a≠b:=fun e=>by
 subst e
 have:=h.symm.trans h'
 simp at this
 exact hT this.2
structure TOw (W:World) (ob tb sb m:Nat) (s:SB) (S:List Nat):Prop where
 o:Has W ob 251 #[.slice (some ⟨tb,0,none⟩) m m,.slice (some ⟨sb,0,none⟩) m m,.int .i64 (s.t:Int)]
 t:Has W tb 254 (tmC m s.a s.b)
 y:Has W sb 3 (syC S)
theorem TOw.keep {W W':World} {ob tb sb m:Nat} {s:SB} {S:List Nat} (h:TOw W ob tb sb m s S) (hk:W'.heap[ob]? = W.heap[ob]?∧W'.heap[tb]? = W.heap[tb]?∧W'.heap[sb]? = W.heap[sb]?):TOw W' ob tb sb m s S :=
 ⟨hk.1.trans h.o,hk.2.1.trans h.t,hk.2.2.trans h.y⟩
theorem TOw.drewN {W:World} {ob tb sb m:Nat} {s:SB} {S:List Nat} (h:TOw W ob tb sb m s S) (n:Nat):TOw (W.drewN n) ob tb sb m s S:=⟨h.o,h.t,h.y⟩
theorem AKe (ob tb sb m x:Nat) (s:SB) (S:List Nat) (w:World) (h:TOw w ob tb sb m s S) (hx:x<m) (hm:m≤256) (hok:s.ok) (ht:s.t≤1000) :
 Calls Tryz.prog 249 #[.pointer (some ⟨ob,0,none⟩),.int .i64 x] w fun e w'=>e=.returned (.int .i64 ((s.sm x:Nat):Int))∧∃ n,w'=w.drewN n:=by
 have c0:=h.o.cell 0
 simp at c0
 have c1:=h.t.cell (x*2)
 rw [Vy _ _ _ _ hx] at c1
 have c2:=h.t.cell (x*2+1)
 rw [Vx _ _ _ _ hx] at c2
 have hb:=hok x
 have HS:Hid (s.sm x=s.a x+s.b x):=Qa rfl
 obtain ⟨p,hp⟩:∃ p,s.a x=p:=⟨_,rfl⟩
 obtain ⟨q,hq⟩:∃ q,s.b x=q:=⟨_,rfl⟩
 rw [hp] at c1 hb HS
 rw [hq] at c2 hb HS
 have hxI:(x:Int)<m:=by omega
 have hx0:(0:Int)≤x:=by omega
 have hmm:(m:Int)≤(m:Int):=Int.le_refl _
 clear h hp hq hok
 go_enter Tryz.func249,Tryz.ntmps249
 go_wp2
 go_big_quiet (fail)
 go_wp2
 go_ret
 exact ⟨ADs (by rw [HS.out];omega),nq,rfl⟩
def bfB (f:Nat→Nat) (x y:Nat):Bool:=decide (f y<f x∨(f x=f y∧x<y))
theorem AJx (f:Nat→Nat) (x y:Nat):bfB f x y=true↔bfS f x y:=by unfold bfB bfS;simp
theorem AMe (ob tb sb m x y:Nat) (s:SB) (S:List Nat) (w:World) (h:TOw w ob tb sb m s S) (hx:x<m) (hy:y<m) (hm:m≤256) (hok:s.ok) (ht:s.t≤1000) :
 Calls Tryz.prog 248 #[.pointer (some ⟨ob,0,none⟩),.int .i64 x,.int .i64 y] w fun e w'=>e=.returned (.bool (bfB s.sm x y))∧∃ n,w'=w.drewN n:=by
 have KX:=Qa (fun (W:World) (h:TOw W ob tb sb m s S)=>AKe ob tb sb m x s S W h hx hm hok ht)
 have KY:=Qa (fun (W:World) (h:TOw W ob tb sb m s S)=>AKe ob tb sb m y s S W h hy hm hok ht)
 have HH:=Qa h
 obtain ⟨f,hf⟩:∃ f,s.sm=f:=⟨_,rfl⟩
 rw [hf] at KX KY ⊢
 have HB:Hid (bfB f x y=decide (f y<f x∨(f x=f y∧x<y))):=Qa rfl
 obtain ⟨p,hp⟩:∃ p,f x=p:=⟨_,rfl⟩
 obtain ⟨q,hq⟩:∃ q,f y=q:=⟨_,rfl⟩
 rw [hp] at KX HB
 rw [hq] at KY HB
 clear h hf hp hq hok
 by_cases he:p=q
 ·have hbe:((p:Int) == (q:Int))=true:=by rw [beq_iff_eq];omega
  have hbi:(p:Int)=q:=by omega
  have HB2:Hid (decide (x<y)=bfB f x y):=Qa (by
   rw [HB.out]
   by_cases h2:x<y
   ·rw [decide_eq_true h2,decide_eq_true (by omega)]
   ·rw [decide_eq_false h2,decide_eq_false (by omega)])
  go_enter Tryz.func248,Tryz.ntmps248
  go_wp2_with fail
  refine (KX.out _ HH.out).mono ?_
  rintro e w1 ⟨rfl,n1,rfl⟩
  go_wp2_with fail
  refine (KY.out (w.drewN n1) (HH.out.drewN n1)).mono ?_
  rintro e w1 ⟨rfl,n2,rfl⟩
  subst he
  go_wp2
  go_ret
  exact ⟨Qk HB2.out,n1+n2,by first | rfl | simp [World.drewN_drewN]⟩
 ·have hbe:((p:Int) == (q:Int))=false:=by rw [beq_eq_false_iff_ne];omega
  have hbi:¬ (p:Int)=q:=by omega
  have HB2:Hid (decide (q<p)=bfB f x y):=Qa (by
   rw [HB.out]
   by_cases h2:q<p
   ·rw [decide_eq_true h2,decide_eq_true (by omega)]
   ·rw [decide_eq_false h2,decide_eq_false (by omega)])
  go_enter Tryz.func248,Tryz.ntmps248
  go_wp2_with fail
  refine (KX.out _ HH.out).mono ?_
  rintro e w1 ⟨rfl,n1,rfl⟩
  go_wp2_with fail
  refine (KY.out (w.drewN n1) (HH.out.drewN n1)).mono ?_
  rintro e w1 ⟨rfl,n2,rfl⟩
  go_wp2_with fail
  refine (KX.out (w.drewN (n1+n2)) (HH.out.drewN (n1+n2))).mono ?_
  rintro e w1 ⟨rfl,n3,rfl⟩
  go_wp2_with fail
  refine (KY.out (w.drewN (n1+n2+n3)) (HH.out.drewN (n1+n2+n3))).mono ?_
  rintro e w1 ⟨rfl,n4,rfl⟩
  go_wp2
  go_ret
  exact ⟨Qk HB2.out,n1+n2+n3+n4,by first | rfl | simp [World.drewN_drewN]⟩
theorem ALq (base E ob tb sb m k:Nat) (s:SB) (w:World) (h:TOw w ob tb sb m s (byL s.sm m)) (hk:k<m) (hm:m≤256) (hok:s.ok) (ht:s.t≤900) (hl:∀ b,b=ob∨b=tb∨b=sb→base≤b∧b<E) :
 Calls Tryz.prog 247 #[.pointer (some ⟨ob,0,none⟩),.int .i64 k] w fun e w'=>e=.returned (.tuple #[])∧TOw w' ob tb sb m (s.up ((byL s.sm m).getD k 0)) (byL (s.up ((byL s.sm m).getD k 0)).sm m)∧Mid base E w w':=by
 have hBy:=Xt s.sm m
 have hLn:=qh s.sm m
 have hxm:=hBy.1.at hk
 have hot:ob≠tb:=h.o.neT h.t (by decide)
 have hos:ob≠sb:=h.o.neT h.y (by decide)
 have hts:tb≠sb:=h.t.neT h.y (by decide)
 obtain ⟨x,hx⟩:∃ x,(byL s.sm m).getD k 0=x:=⟨_,rfl⟩
 have HSP:Hid (byL s.sm m=(byL s.sm m).take k++x::(byL s.sm m).drop (k+1)):=Qa (by rw [←hx];exact AGo _ k (by rw [hLn];exact hk))
 have hPl:((byL s.sm m).take k).length=k:=by rw [List.length_take,hLn];omega
 obtain ⟨P,hP⟩:∃ P,(byL s.sm m).take k=P:=⟨_,rfl⟩
 obtain ⟨Q,hQ⟩:∃ Q,(byL s.sm m).drop (k+1)=Q:=⟨_,rfl⟩
 rw [hP,hQ] at HSP
 rw [hP] at hPl
 have HMV:=Qa (fun p hp h1 h2=>AWw (s:=s) (n:=m) (x:=x) (P:=P) (Q:=Q) (by rw [←HSP.out];exact hBy) hok p hp h1 h2)
 have HBW:Hid (P.Pairwise (bfS s.sm)∧x ∉ P):=Qa (by
  have h1:=hBy.2
  have h2:=hBy.1.nodup
  rw [HSP.out] at h1 h2
  exact ⟨(List.pairwise_append.1 h1).1,fun hm=>(List.nodup_append.1 h2).2.2 x hm x (List.mem_cons_self ..) rfl⟩)
 have HPm:Hid (∀ y∈P,y<m):=Qa (fun y hy=>(hBy.1.mem y).1 (by rw [HSP.out];exact List.mem_append_left _ hy))
 have c0:=h.o.cell 0
 have c1:=h.o.cell 1
 have c2:=h.o.cell 2
 simp at c0 c1 c2
 have d0:=h.y.cell k
 rw [JD _ _ (by rw [hLn];exact hk),hx] at d0
 have a0:=h.t.cell (x*2)
 rw [hx] at hxm
 rw [Vy _ _ _ _ hxm] at a0
 have a1:=h.t.cell (x*2+1)
 rw [Vx _ _ _ _ hxm] at a1
 have f0:=h.o.free 2
 have f1:=h.t.free (x*2)
 have f2:=h.t.free (x*2+1)
 rw [hx]
 have HH:=Qa h
 have hxI:(x:Int)<m:=by omega
 have hx0:(0:Int)≤x:=by omega
 have hkI:(k:Int)<m:=by omega
 have hU:=ALy s x
 have HU:Hid ((s.up x).t=s.t+1∧(s.up x).ok):=Qa ⟨rfl,hok.up x⟩
 obtain ⟨T,hT⟩:∃ T,s.t=T:=⟨_,rfl⟩
 obtain ⟨av,hav⟩:∃ av,s.a x=av:=⟨_,rfl⟩
 have HAV:=Qa hav
 rw [hT] at c2 ht HU
 rw [hav] at a0
 have HA:Hid (tmC m (s.up x).a (s.up x).b=((tmC m s.a s.b).setIfInBounds (x*2) (.int .i64 ((T:Int)+1))).setIfInBounds (x*2+1) (.int .i64 (av:Int))):=Qa (by
  rw [show ((T:Int)+1)=((T+1:Nat):Int) by omega,AWq _ _ _ _ _ _ hxm]
  show tmC m (fun y=>if y=x then s.t+1 else s.a y) (fun y=>if y=x then s.a x else s.b y)=_
  rw [hT,hav])
 obtain ⟨s2,hs2⟩:∃ s2,s.up x=s2:=⟨_,rfl⟩
 rw [hs2] at hU HU HA HMV ⊢
 have HSU:=Qa hU
 have l1:=hl ob (.inl rfl)
 have l2:=hl tb (.inr (.inl rfl))
 have l3:=hl sb (.inr (.inr rfl))
 have hto:¬ tb=ob:=fun e=>hot e.symm
 have hso:¬ sb=ob:=fun e=>hos e.symm
 have hst:¬ sb=tb:=fun e=>hts e.symm
 clear h hBy hLn hx hP hQ hok hT hav hU hl hs2
 go_enter Tryz.func247,Tryz.ntmps247
 go_wp2
 obtain ⟨wa,hwa⟩:∃ wa,w.setCell ⟨ob,2,none⟩ (.int .i64 ((T:Int)+1))=wa:=⟨_,rfl⟩
 have oa:Has wa ob 251 #[.slice (some ⟨tb,0,none⟩) m m,.slice (some ⟨sb,0,none⟩) m m,.int .i64 ((T:Int)+1)]:=by
  rw [←hwa]
  have:=HH.out.o.store 2 (.int .i64 ((T:Int)+1))
  simpa using this
 have ta:Has wa tb 254 (tmC m s.a s.b):=by rw [←hwa];exact HH.out.t.storeAway (by simpa using hto) _
 have ya:Has wa sb 3 (syC (byL s.sm m)):=by rw [←hwa];exact HH.out.y.storeAway (by simpa using hso) _
 have ma:Mid base E w wa:=by rw [←hwa];exact (Mid.refl base E w).store l1.1 l1.2 _
 have e0:=oa.cell 0
 have e1:=oa.cell 1
 have e2:=oa.cell 2
 simp at e0 e1 e2
 have b0:wa.cell? ⟨tb,x*2,none⟩=some (.int .i64 (av:Int)):=by
  have:=ta.cell (x*2)
  rwa [Vy _ _ _ _ hxm,HAV.out] at this
 have b1:=ta.cell (x*2+1)
 rw [Vx _ _ _ _ hxm] at b1
 have g1:=ta.free (x*2)
 have g2:=ta.free (x*2+1)
 rw [hwa]
 clear hwa c0 c1 c2 d0 a0 a1 f0 f1 f2
 go_still_tail 19,(by kernel_rfl)
 have ob0:Has wa.drew ob 251 #[.slice (some ⟨tb,0,none⟩) m m,.slice (some ⟨sb,0,none⟩) m m,.int .i64 ((T:Int)+1)]:=oa
 have tb0:Has wa.drew tb 254 (tmC m s.a s.b):=ta
 have yb0:Has wa.drew sb 3 (syC (byL s.sm m)):=ya
 have mb0:Mid base E w wa.drew:=ma
 change wpList _ _ _ _ _ wa.drew
 obtain ⟨wb,hwb⟩:∃ wb,wa.drew=wb:=⟨_,rfl⟩
 rw [hwb] at ob0 tb0 yb0 mb0 ⊢
 clear hwb oa ta ya ma e0 e1 e2 b0 b1 g1 g2
 have b0:=tb0.cell (x*2)
 rw [Vy _ _ _ _ hxm] at b0
 have b1:=tb0.cell (x*2+1)
 rw [Vx _ _ _ _ hxm] at b1
 have g1:=tb0.free (x*2)
 have g2:=tb0.free (x*2+1)
 have oc:=(ob0.storeAway (p:=⟨tb,x*2,none⟩) (by simpa using hot) (.int .i64 ((T:Int)+1))).storeAway (p:=⟨tb,x*2+1,none⟩) (by simpa using hot) (.int .i64 (av:Int))
 have tc:=(tb0.store (x*2) (.int .i64 ((T:Int)+1))).store (x*2+1) (.int .i64 (av:Int))
 rw [←HA.out] at tc
 have yc:=(yb0.storeAway (p:=⟨tb,x*2,none⟩) (by simpa using hst) (.int .i64 ((T:Int)+1))).storeAway (p:=⟨tb,x*2+1,none⟩) (by simpa using hst) (.int .i64 (av:Int))
 have mc:=(mb0.store (p:=⟨tb,x*2,none⟩) l2.1 l2.2 (.int .i64 ((T:Int)+1))).store (p:=⟨tb,x*2+1,none⟩) l2.1 l2.2 (.int .i64 (av:Int))
 clear ob0 tb0 yb0 mb0
 go_wp2
 have hTO:TOw ((wb.setCell ⟨tb,x*2,none⟩ (.int .i64 ((T:Int)+1))).setCell ⟨tb,x*2+1,none⟩ (.int .i64 (av:Int))) ob tb sb m s2 (byL s.sm m):=⟨by rw [HU.out.1];exact oc,tc,yc⟩
 clear oc tc yc b0 b1 g1 g2
 have HX0:Hid (Sh (byL s.sm m) (P++Q) k):=Qa (by rw [HSP.out,←hPl];exact Sh.mid P Q x)
 have HPQ:Hid ((P++Q).length+1=m):=Qa (by
  have:=qh s.sm m
  rw [HSP.out] at this
  simp only [List.length_append,List.length_cons] at this ⊢
  omega)
 have HGP:Hid (∀ q,q<k→(P++Q).getD q 0=P.getD q 0∧P.getD q 0<m):=Qa (fun q hq=>⟨by
  simp [List.getD_eq_getElem?_getD,List.getElem?_append_left (show q<P.length by omega)],HPm.out _ (ZE P q (by omega))⟩)
 have HOK2:=HU.out.2
 have HT2:Hid (s2.t≤1000):=Qa (by rw [HU.out.1];omega)
 have HSM:Hid (∀ y,y∈P→s2.sm y=s.sm y):=Qa (fun y hy=>by
  rw [HSU.out,if_neg (fun e=>HBW.out.2 (by rw [←e];exact hy))])
 have HOK:=Qa HOK2
 have HDN:Hid (P.Pairwise (bfS s2.sm)):=Qa (by
  refine List.Pairwise.imp_of_mem ?_ HBW.out.1
  intro y z hy hz hb
  unfold bfS at hb ⊢
  rw [HSM.out y hy,HSM.out z hz]
  exact hb)
 -- the end: what stands where x is put
 have HEND:Hid (∀ (X:List Nat) (p:Nat),p≤k→Sh X (P++Q) p→(∀ y∈P.drop p,bfS s2.sm x y)→(∀ y∈P.take p,bfS s2.sm y x)→X.set p x=byL s2.sm m):=Qa (by
  intro X p hp hX h1 h2
  have hpP:p≤P.length:=by omega
  rw [hX.put (by rw [List.length_append];omega) x,List.take_append_of_le_length hpP,List.drop_append_of_le_length hpP]
  exact qx (HMV.out p hpP h1 h2) (Xt s2.sm m))
 clear HOK2
 go_loopg [1] k (fun p sp wr=>∃ X:List Nat,p≤k∧sp=.int .i64 p∧Hid (Sh X (P++Q) p)∧Hid (∀ y∈P.drop p,bfS s2.sm x y)∧TOw wr ob tb sb m s2 X∧Mid base E w wr)
 case atStart=>exact ⟨byL s.sm m,Nat.le_refl _,rfl,HX0,Qa (by rw [List.drop_eq_nil_of_le (by omega)];simp),hTO,mc⟩
 case round =>
  obtain ⟨X,hp,rfl,HX,HD,hT,hM⟩:=hrel
  clear hTO mc
  have HXl:Hid (X.length=m):=Qa (by rw [HX.out.1];exact HPQ.out)
  have c0:=hT.o.cell 0
  have c1:=hT.o.cell 1
  simp at c0 c1
  cases gk with
  | zero =>
    have hE:=HEND.out X 0 hp HX.out HD.out (by intro y hy;simp at hy)
    have d0:=hT.y.cell 0
    rw [JD _ _ (by rw [HXl.out];omega)] at d0
    have f0:=hT.y.free 0
    have o2:=hT.o.storeAway (p:=⟨sb,0,none⟩) (by simpa using hos) (.int .i64 (x:Int))
    have t2:=hT.t.storeAway (p:=⟨sb,0,none⟩) (by simpa using hts) (.int .i64 (x:Int))
    have y2:=hT.y.store 0 (.int .i64 (x:Int))
    rw [xE,hE] at y2
    have m2:=hM.store (p:=⟨sb,0,none⟩) l3.1 l3.2 (.int .i64 (x:Int))
    have hm0:(0:Int)<(m:Int):=by omega
    clear hE hT hM
    go_wp2
    go_end0
    exact ⟨rfl,⟨o2,t2,y2⟩,m2⟩
  | succ q =>
    obtain ⟨hg1,hg2⟩:=HGP.out q (by omega)
    have d0:=hT.y.cell q
    rw [JD _ _ (by rw [HXl.out];omega),HX.out.get,hg1] at d0
    have HST:=Qa (HX.out.step (by have:=HPQ.out;omega))
    rw [hg1] at HST
    have HPd:Hid (P.drop q=P.getD q 0::P.drop (q+1)):=Qa (Zx P q (by omega))
    have HNT:=Qa (fun h=>AGl (x:=x) (q:=q) HDN.out (by omega) h)
    obtain ⟨y,hy⟩:∃ y,P.getD q 0=y:=⟨_,rfl⟩
    rw [hy] at d0 hg2 HST HPd HNT
    have KB:=Qa (AMe ob tb sb m x y s2 X wr hT hxm hg2 hm HOK.out HT2.out)
    have HY:=Qa hy
    have HTT:=Qa hT
    have HMM:=Qa hM
    have hq0:(0:Int)<(q:Int)+1:=by omega
    have hqm:(q:Int)<(m:Int):=by omega
    have hqm1:(q:Int)+1<(m:Int):=by omega
    have hqn:(0:Int)≤(q:Int):=by omega
    clear hy hg1 hT hM
    by_cases hbf:bfB s2.sm x y=true
    ·rw [hbf] at KB
     have HD2:Hid (∀ z∈P.drop q,bfS s2.sm x z):=Qa (by
      intro z hz
      rw [HPd.out] at hz
      rcases List.mem_cons.1 hz with e | e
      ·rw [e];exact (AJx _ _ _).1 hbf
      ·exact HD.out z e)
     go_wp2_with fail
     refine KB.out.mono ?_
     rintro e w3 ⟨rfl,n1,rfl⟩
     obtain ⟨wd,hwd⟩:∃ wd,wr.drewN n1=wd:=⟨_,rfl⟩
     have hT2:TOw wd ob tb sb m s2 X:=by rw [←hwd];exact HTT.out.drewN n1
     have hM2:Mid base E w wd:=by rw [←hwd];exact HMM.out
     rw [hwd]
     clear hwd c0 c1 d0
     have c1:=hT2.o.cell 1
     simp at c1
     have d0:=hT2.y.cell q
     rw [JD _ _ (by rw [HXl.out];omega),HX.out.get,HGP.out q (by omega) |>.1,HY.out] at d0
     have d1:=hT2.y.cell (q+1)
     rw [JD _ _ (by rw [HXl.out];omega)] at d1
     have f1:=hT2.y.free (q+1)
     have hw1:(q:Int)+1-1=q:=by omega
     have hw2:IntKind.i64.wrap (q:Int)=q:=IntWalk.i64_in _ (by omega)
     have hw3:IntKind.i64.wrap ((q:Int)+1-1)=q:=by rw [hw1];exact hw2
     have hq1:(0:Int)≤(q:Int)+1:=by omega
     have hqt:((q:Int)+1).toNat=q+1:=by omega
     go_wp2
     go_still_tail 14,(by kernel_rfl)
     have o3:Has wd.drew ob _ _:=hT2.o
     have t3:Has wd.drew tb _ _:=hT2.t
     have y3:Has wd.drew sb _ _:=hT2.y
     have m3:Mid base E w wd.drew:=hM2
     have d3:wd.drew.cell? ⟨sb,q+1,none⟩=_:=d1
     have f3:wd.drew.frozen? ⟨sb,q+1,none⟩=false:=f1
     change wpList _ _ _ _ _ wd.drew
     obtain ⟨we,hwe⟩:∃ we,wd.drew=we:=⟨_,rfl⟩
     rw [hwe] at o3 t3 y3 m3 d3 f3 ⊢
     clear hwe hT2 hM2 c1 d0 d1 f1
     have o4:=o3.storeAway (p:=⟨sb,q+1,none⟩) (by simpa using hos) (.int .i64 (y:Int))
     have t4:=t3.storeAway (p:=⟨sb,q+1,none⟩) (by simpa using hts) (.int .i64 (y:Int))
     have y4:=y3.store (q+1) (.int .i64 (y:Int))
     rw [xE] at y4
     have m4:=m3.store (p:=⟨sb,q+1,none⟩) l3.1 l3.2 (.int .i64 (y:Int))
     clear o3 t3 y3 m3
     go_wp2
     go_roundg q
     case measure=>omega
     case rel=>exact ⟨X.set (q+1) y,by omega,by go_num,HST,HD2,⟨o4,t4,y4⟩,m4⟩
    ·have hbf2:bfB s2.sm x y=false:=QC hbf
     rw [hbf2] at KB
     have hE:=HEND.out X (q+1) hp HX.out HD.out (by
      intro z hz
      have hnb:=HNT.out (fun h=>hbf ((AJx _ _ _).2 h)) z hz
      rcases zo s2.sm (x:=z) (y:=x) (fun e=>HBW.out.2 (by rw [←e];exact List.mem_of_mem_take hz)) with h | h
      ·exact h
      ·exact absurd h hnb)
     go_wp2_with fail
     refine KB.out.mono ?_
     rintro e w3 ⟨rfl,n1,rfl⟩
     obtain ⟨wd,hwd⟩:∃ wd,wr.drewN n1=wd:=⟨_,rfl⟩
     have hT2:TOw wd ob tb sb m s2 X:=by rw [←hwd];exact HTT.out.drewN n1
     have hM2:Mid base E w wd:=by rw [←hwd];exact HMM.out
     rw [hwd]
     clear hwd c0 c1 d0
     have c1:=hT2.o.cell 1
     simp at c1
     have d1:=hT2.y.cell (q+1)
     rw [JD _ _ (by rw [HXl.out];omega)] at d1
     have f1:=hT2.y.free (q+1)
     have o4:=hT2.o.storeAway (p:=⟨sb,q+1,none⟩) (by simpa using hos) (.int .i64 (x:Int))
     have t4:=hT2.t.storeAway (p:=⟨sb,q+1,none⟩) (by simpa using hts) (.int .i64 (x:Int))
     have y4:=hT2.y.store (q+1) (.int .i64 (x:Int))
     rw [xE,hE] at y4
     have m4:=hM2.store (p:=⟨sb,q+1,none⟩) l3.1 l3.2 (.int .i64 (x:Int))
     clear hT2 hM2 hE
     go_wp2
     go_end0
     exact ⟨rfl,⟨o4,t4,y4⟩,m4⟩
theorem AOz {σ:Type} (N:Nat) (p:Value) (St:Nat→World→σ→Prop) (f:σ→Nat→Nat × σ) (base E B:Nat) (a:Option Addr) (cap:Nat) (L:List Nat) (w:World) (s0:σ)
 (hz:Ints w B a (ints L)) (hB:B≤base) (hbE:base≤E) (hE:E≤w.heap.size) (hL6:L.length≤600) (h0:St 0 w s0)
 (hcf:∀ (args:Array Value) (W:World),(callFunc N args).run Tryz.prog W=.ok (.enter N args) W)
 (hkeep:∀ (W W':World) (s:σ) (k:Nat),St k W s→(∀ i,base≤i→i<E→W'.heap[i]? = W.heap[i]?)→St k W' s)
 (hnext:∀ (W:World) (s:σ) (x k:Nat),k<L.length→St k W s→x∈L→Calls Tryz.prog N #[p,.int .i64 (x:Int)] W fun e W'=>e=.returned (.int .i64 ((f s x).1:Int))∧St (k+1) W' (f s x).2∧Mid base E W W') :
 Calls Tryz.prog 239 #[.slice a L.length cap,.func (.func N) #[p] #[]] w fun e w'=>∃ g,e=.returned (.slice (some ⟨g,0,none⟩) L.length L.length)∧w'.ownsRow w.heap.size 3 1 (.slice (some ⟨g,0,none⟩) L.length L.length) L.length (Qe (runF f s0 L))∧Below base w w':=by
 obtain ⟨j0,ji,jz0,jz1,jz2⟩:=info_parts Tryz.infoInt
 have HZ:=Qa hz
 have HK:=Qa hkeep
 have HX:=Qa hnext
 have H0:=Qa h0
 obtain ⟨A,hA⟩:∃ A,runF f s0 L=A:=⟨_,rfl⟩
 have HA:=Qa hA
 rw [hA]
 obtain ⟨n,hn⟩:∃ n,L.length=n:=⟨_,rfl⟩
 have HN:=Qa hn
 rw [hn] at hL6 ⊢
 clear hz hA hn hkeep hnext h0
 go_enter Tryz.func239,Tryz.ntmps239
 go_wp2_with (at_make;refine wpList_make_full _ rfl _ _ 24 rfl w.heap.size 3 j0 (.int .i64 0) 1 Tryz.underlying24 ji jz0 jz1 .i64 .i64 _ _ n rfl rfl rfl rfl ?cb1 ?cb2 ?cb3 ?_)
 case cb1=>rw [jz2];omega
 case cb2=>unfold maxLen;omega
 case cb3=>exact Nat.le_refl _
 intro w2 hown hgrow
 have hb2:=ZQ hgrow
 rw [Zl] at hown
 have H2:=Qa (HK.out _ w2 s0 0 H0.out (fun i _ hi=>hb2.block i (by omega)))
 have hbb:Below base w w2:=hb2.mono (by omega)
 clear hgrow hb2
 go_wp2
 go_loopw [6,7,13] (fun _ _ sk wr=>∃ (k:Nat) (s:σ) (D:List Nat) (F:Nat→Nat),k≤n∧sk=.int .i64 k∧Hid (A=D++runF f s (L.drop k))∧Hid (D.length=k∧∀ j,j<k→F j=D.getD j 0)∧Hid (St k wr s)∧wr.ownsRow w.heap.size 3 1 (.slice (some ⟨w.heap.size,0,none⟩) n n) n (nats n F)∧Below base w wr) (fun _ _ sk _=>n-(intOf sk).toNat)
 case atStart=>exact ⟨0,s0,[],fun _=>0,by omega,rfl,Qa (by rw [←HA.out];rfl),Qa ⟨rfl,fun j hj=>by omega⟩,H2,hown,hbb⟩
 case round =>
  obtain ⟨k,s,D,F,hk,rfl,HD,HF,HSt,hownF,hblF⟩:=hrel
  clear hown hbb
  have hsz:=hblF.size
  by_cases hlt:k<n
  ·obtain ⟨b,off,rfl,hb,hc⟩:=(HZ.out.below (hblF.mono hB)).2.2 (by rw [Qj,HN.out];omega)
   have ck:=Xz (B:=B) hc k (by rw [HN.out];exact hlt)
   have HM:=Qa (ZE L k (by rw [HN.out];exact hlt))
   have HDR:=Qa (Zx L k (by rw [HN.out];exact hlt))
   obtain ⟨x,hx⟩:∃ x,L.getD k 0=x:=⟨_,rfl⟩
   rw [hx] at ck HM HDR
   have KX:=Qa (HX.out wr s x k (by rw [HN.out];exact hlt) HSt.out HM.out)
   have HS2:Hid (A=(D++[(f s x).1])++runF f (f s x).2 (L.drop (k+1))):=Qa (by rw [HD.out,HDR.out,runF,List.append_assoc];rfl)
   obtain ⟨y,hy⟩:∃ y,(f s x).1=y:=⟨_,rfl⟩
   obtain ⟨s2,hs2⟩:∃ s2,(f s x).2=s2:=⟨_,rfl⟩
   rw [hy,hs2] at KX HS2
   have HO:=Qa hownF
   clear hx hc hy hs2 hownF
   go_wp2_with fail
   refine KX.out.mono ?_
   rintro e w3 ⟨rfl,hSt3,hm3⟩
   have hO3:=hm3.own HO.out hE
   have hb3:Below base w w3:=hblF.trans (hm3.below (by omega))
   have HSt3:=Qa hSt3
   have d0:=hO3.cellAt k (by omega)
   rw [Qw _ _ _ hlt] at d0
   have f0:=hO3.frozenAt k
   have hHN:Hid (w3.heap.size=w3.heap.size):=Qa rfl
   clear hSt3 hm3 hblF
   go_wp2
   go_roundw
   case rel=>exact ⟨k+1,s2,D++[y],fun t=>if t=k then y else F t,by omega,by go_num,HS2,Qa ⟨by simp [HF.out.1],fun j hj=>by
    by_cases e:j=k
    ·show (if j=k then y else F j)=_
     rw [if_pos e,e];simp [List.getD_eq_getElem?_getD,HF.out.1]
    ·show (if j=k then y else F j)=_
     rw [if_neg e,HF.out.2 j (by omega)];simp [List.getD_eq_getElem?_getD,List.getElem?_append_left (show j<D.length by rw [HF.out.1];omega)]⟩,Qa (HK.out _ _ s2 (k+1) HSt3.out (fun i _ hi=>Below.heap_setCell _ _ _ i (by simp;omega))),by rw [←Zb];exact (hO3.stored k _).1,hb3.setCell (by simp;omega) _⟩
   case measure=>simp [intOf];omega
  ·have hkn:k=n:=by omega
   subst hkn
   have HE:Hid (nats k F=Qe A):=Qa (by
    rw [ZC]
    have e:A=D:=by rw [HD.out,←HN.out,List.drop_length,runF,List.append_nil]
    rw [e,HF.out.1]
    exact Qu fun j hj=>HF.out.2 j hj)
   go_wp2
   go_ret
   exact ⟨_,rfl,by rw [←HE.out];exact hownF,hblF⟩
theorem AQk (sb n x:Nat) (S:List Nat) (w:World) (h:Has w sb 3 (syC S)) (hS:S.length=n) (hn:n≤256) (hx:x∈S) :
 Calls Tryz.prog 98 #[.slice (some ⟨sb,0,none⟩) n n,.int .i64 x] w fun e w'=>e=.returned (.int .i64 ((S.idxOf x:Nat):Int))∧w=w':=by
 have HC:Hid (∀ j,j<n→w.cell? ⟨sb,j,none⟩=some (.int .i64 ((S.getD j 0:Nat):Int))):=Qa (fun j hj=>by
  have:=h.cell j
  rwa [JD _ _ (by rw [hS];exact hj)] at this)
 have HIA:=Qa (zx S hx)
 have HIF:=Qa (xe S x)
 have hkn:S.idxOf x<n:=by rw [←hS];exact List.idxOf_lt_length_of_mem hx
 obtain ⟨k,hk⟩:∃ k,S.idxOf x=k:=⟨_,rfl⟩
 rw [hk] at HIA HIF hkn ⊢
 clear h hk hx hS
 go_enter Tryz.func98,Tryz.ntmps98
 go_wp2
 go_loopw [5,8] (fun _ sj wr=>∃ j:Nat,j≤k∧sj=.int .i64 j∧Hid (w=wr)) (fun _ sj _=>k-(intOf sj).toNat)
 case atStart=>exact ⟨0,by omega,rfl,Qa rfl⟩
 case round =>
  obtain ⟨j,hj,rfl,HW⟩:=hrel
  have d0:=HC.out j (by omega)
  rw [HW.out] at d0
  have hjn:(j:Int)<(n:Int):=by omega
  by_cases hlt:j<k
  ·have hne:=HIF.out j hlt
   obtain ⟨y,hy⟩:∃ y,S.getD j 0=y:=⟨_,rfl⟩
   rw [hy] at d0 hne
   have hbe:((x:Int) == (y:Int))=false:=by rw [beq_eq_false_iff_ne];omega
   have hbi:¬ (x:Int)=(y:Int):=by omega
   clear hy
   go_wp2
   go_roundw
   case rel=>exact ⟨j+1,by omega,by go_num,HW⟩
   case measure=>simp [intOf];omega
  ·obtain rfl:j=k:=by omega
   rw [HIA.out] at d0
   go_wp2
   go_ret
   exact ⟨rfl,HW.out⟩
def TO (W:World) (base E ob m k:Nat) (s:SB):Prop:=s.ok∧s.t=k∧∃ tb sb,TOw W ob tb sb m s (byL s.sm m)∧∀ b,b=ob∨b=tb∨b=sb→base≤b∧b<E
theorem TO.keep {W W':World} {base E ob m k:Nat} {s:SB} (h:TO W base E ob m k s) (hk:∀ i,base≤i→i<E→W'.heap[i]? = W.heap[i]?):TO W' base E ob m k s:=by
 obtain ⟨h1,h2,tb,sb,h3,h4⟩:=h
 have l1:=h4 ob (.inl rfl)
 have l2:=h4 tb (.inr (.inl rfl))
 have l3:=h4 sb (.inr (.inr rfl))
 exact ⟨h1,h2,tb,sb,h3.keep ⟨hk _ l1.1 l1.2,hk _ l2.1 l2.2,hk _ l3.1 l3.2⟩,h4⟩
theorem AFn (base E ob m k x:Nat) (s:SB) (w:World) (h:TO w base E ob m k s) (hx:x<m) (hm:m≤256) (hk:k≤900) :
 Calls Tryz.prog 246 #[.pointer (some ⟨ob,0,none⟩),.int .i64 x] w fun e w'=>e=.returned (.int .i64 ((sbrF m s x).1:Int))∧TO w' base E ob m (k+1) (sbrF m s x).2∧Mid base E w w':=by
 obtain ⟨hok,ht,tb,sb,hT,hl⟩:=h
 have hBy:=(Xt s.sm m).1
 have hxm:=(hBy.mem x).2 hx
 have hym:=hBy.idx hx
 have KI:=Qa (AQk sb m x _ w hT.y (qh _ _) hm hxm)
 have KU:=Qa (ALq base E ob tb sb m _ s w hT hym hm hok (by omega) hl)
 rw [zx _ hxm] at KU
 have HU:Hid ((sbrF m s x).2=s.up x∧(sbrF m s x).1=(byL s.sm m).idxOf x∧(s.up x).ok∧(s.up x).t=k+1):=Qa ⟨rfl,rfl,hok.up x,by show s.t+1=k+1;rw [ht]⟩
 rw [HU.out.1,HU.out.2.1]
 have HL:=Qa hl
 have c1:=hT.o.cell 1
 simp at c1
 obtain ⟨y,hy⟩:∃ y,(byL s.sm m).idxOf x=y:=⟨_,rfl⟩
 rw [hy] at KI KU ⊢
 clear hT hy hl hok
 go_enter Tryz.func246,Tryz.ntmps246
 go_wp2_with fail
 refine KI.out.mono ?_
 rintro e w1 ⟨rfl,rfl⟩
 go_wp2_with fail
 refine KU.out.mono ?_
 rintro e w2 ⟨rfl,hT2,hM2⟩
 go_wp2
 go_ret
 exact ⟨rfl,⟨HU.out.2.2.1,HU.out.2.2.2,tb,sb,hT2,HL.out⟩,hM2⟩
theorem AYn (m:Nat):madeCells #[Value.int .i64 0,Value.int .i64 0] (m*2)=tmC m (fun _=>0) (fun _=>0):=by
 apply Array.ext_getElem?
 intro i
 by_cases hi:i<m*2
 ·obtain ⟨y,hy | hy⟩:∃ y,i=y*2∨i=y*2+1:=⟨i / 2,by omega⟩
  ·subst hy
   rw [Vy _ _ _ _ (by omega)]
   simp [madeCells,hi]
  ·subst hy
   rw [Vx _ _ _ _ (by omega)]
   have:(y*2+1) % 2=1:=by omega
   simp [madeCells,hi,this]
 ·have e1:(madeCells #[Value.int .i64 0,Value.int .i64 0] (m*2))[i]? = none:=by rw [Array.getElem?_eq_none_iff];simp [madeCells];omega
  have e2:(tmC m (fun _=>0) (fun _=>0))[i]? = none:=by rw [Array.getElem?_eq_none_iff,xJ];omega
  rw [e1,e2]
theorem AXz (m:Nat):madeCells #[Value.int .i64 0] m=syC (List.replicate m 0):=by
 have:=Zl m
 have h2:(madeCells #[Value.int .i64 0] m)=(nats m (fun _=>0)).toArray:=by rw [←this]
 rw [h2]
 unfold syC
 rw [ZC,List.length_replicate]
 congr 1
 exact Qu fun s hs=>by simp [List.getD_eq_getElem?_getD,hs]
theorem Tryz.infoTimes:(Tryz.prog.info? 254).map (fun i=>(i.zero,i.size,i.bytes))=some (some (.agg #[.int .i64 0,.int .i64 0]),2,16):=by kernel_rfl
theorem AUc (m:Nat) (hm:m≤256) (w:World):(Instr.makeSlice 249 (.int .i64 (m:Int)) (.int .i64 (m:Int))).run Tryz.prog w=.ok (.slice (some ⟨w.heap.size,0,none⟩) m m) (w.alloc (.cells (tmC m (fun _=>0) (fun _=>0)) 254)):=by
 obtain ⟨i,hi,h1,h2,h3⟩:=info_parts Tryz.infoTimes
 have:=run_make (P:=Tryz.prog) w 249 254 i (.agg #[.int .i64 0,.int .i64 0]) Tryz.underlying249 hi h1 .i64 .i64 m m (by omega) (Int.le_refl _) (by rw [h3];omega) (by omega)
 have hz:(Value.agg #[.int .i64 0,.int .i64 0]).cells=#[Value.int .i64 0,Value.int .i64 0]:=rfl
 simp only [Int.toNat_natCast,h2,hz,AYn] at this
 exact this
theorem AYx (m:Nat) (hm:m≤256) (w:World):(Instr.makeSlice 24 (.int .i64 (m:Int)) (.int .i64 (m:Int))).run Tryz.prog w=.ok (.slice (some ⟨w.heap.size,0,none⟩) m m) (w.alloc (.cells (syC (List.replicate m 0)) 3)):=by
 obtain ⟨i,hi,h1,h2,h3⟩:=info_parts Tryz.infoInt
 have:=run_make (P:=Tryz.prog) w 24 3 i (.int .i64 0) Tryz.underlying24 hi h1 .i64 .i64 m m (by omega) (Int.le_refl _) (by rw [h3];omega) (by omega)
 have hz:(Value.int .i64 0).cells=#[Value.int .i64 0]:=rfl
 simp only [Int.toNat_natCast,h2,Nat.mul_one,hz,AXz] at this
 exact this
theorem AVo (m:Nat):byL sb0.sm m=List.range m:=qx (Xt _ m) (AYr m)
theorem jR (m:Nat) (w:World) (hm1:1≤m) (hm:m≤256) (g:Nat) (hg:w.heap.size=g) :
 Calls Tryz.prog 245 #[.int .i64 m] w fun e w'=>∃ ob,e=.returned (.pointer (some ⟨ob,0,none⟩))∧TO w' g w'.heap.size ob m 0 sb0∧Below g w w':=by
 subst hg
 have hmt:=AUc m hm
 have hms:=AYx m hm
 have stA:TOw (((w.alloc (.cells (tmC m (fun _=>0) (fun _=>0)) 254)).alloc (.cells (syC (List.replicate m 0)) 3)).alloc (.cells #[.slice (some ⟨w.heap.size,0,none⟩) m m,.slice (some ⟨w.heap.size+1,0,none⟩) m m,.int .i64 0] 251)).drew (w.heap.size+1+1) w.heap.size (w.heap.size+1) m sb0 (List.replicate m 0) :=
  ⟨Has.freshAt (by simp) _ _,((Has.fresh w _ _).alloc _).alloc _,(Has.freshAt (by simp) _ _).alloc _⟩
 have stB:TOw (((w.alloc (.cells (syC (List.replicate m 0)) 3)).alloc (.cells (tmC m (fun _=>0) (fun _=>0)) 254)).alloc (.cells #[.slice (some ⟨w.heap.size+1,0,none⟩) m m,.slice (some ⟨w.heap.size,0,none⟩) m m,.int .i64 0] 251)).drew (w.heap.size+1+1) (w.heap.size+1) w.heap.size m sb0 (List.replicate m 0) :=
  ⟨Has.freshAt (by simp) _ _,(Has.freshAt (by simp) _ _).alloc _,((Has.fresh w _ _).alloc _).alloc _⟩
 have blA:Below w.heap.size w (((w.alloc (.cells (tmC m (fun _=>0) (fun _=>0)) 254)).alloc (.cells (syC (List.replicate m 0)) 3)).alloc (.cells #[.slice (some ⟨w.heap.size,0,none⟩) m m,.slice (some ⟨w.heap.size+1,0,none⟩) m m,.int .i64 0] 251)).drew :=
  ((((Below.refl _ _).alloc (Nat.le_refl _) _).alloc (by simp) _).alloc (by simp;omega) _).drew
 have blB:Below w.heap.size w (((w.alloc (.cells (syC (List.replicate m 0)) 3)).alloc (.cells (tmC m (fun _=>0) (fun _=>0)) 254)).alloc (.cells #[.slice (some ⟨w.heap.size+1,0,none⟩) m m,.slice (some ⟨w.heap.size,0,none⟩) m m,.int .i64 0] 251)).drew :=
  ((((Below.refl _ _).alloc (Nat.le_refl _) _).alloc (by simp) _).alloc (by simp;omega) _).drew
 have HSA:=Qa stA
 have HSB:=Qa stB
 have HBA:=Qa blA
 have HBB:=Qa blB
 have HZ:=Qa (AVo m)
 clear stA stB blA blB
 go_enter Tryz.func245,Tryz.ntmps245
 go_wp2
 go_region
 all_goals
  go_wp2
  go_loopw [4,12] (fun _ sk wr=>∃ (k tb sb:Nat) (X:List Nat),k≤m∧sk=.int .i64 k∧Hid (X.length=m∧∀ j,j<k→X.getD j 0=j)∧TOw wr (w.heap.size+1+1) tb sb m sb0 X∧Hid (∀ b,b=w.heap.size+1+1∨b=tb∨b=sb→w.heap.size≤b∧b<w.heap.size+3)∧Below w.heap.size w wr∧Hid (w.heap.size+3≤wr.heap.size)) (fun _ sk _=>m-(intOf sk).toNat)
  case atStart=>first | exact ⟨0,_,_,List.replicate m 0,by omega,rfl,Qa ⟨by simp,fun j hj=>by omega⟩,HSA.out,Qa (fun b hb=>by omega),HBA.out,Qa (by simp)⟩ | exact ⟨0,_,_,List.replicate m 0,by omega,rfl,Qa ⟨by simp,fun j hj=>by omega⟩,HSB.out,Qa (fun b hb=>by omega),HBB.out,Qa (by simp)⟩
  case round =>
   obtain ⟨k,tb,sb,X,hk,rfl,HX,hT,HL,hbl,HE⟩:=hrel
   have hos:w.heap.size+1+1≠sb:=hT.o.neT hT.y (by decide)
   have hts:tb≠sb:=hT.t.neT hT.y (by decide)
   by_cases hlt:k<m
   ·have c1:=hT.o.cell 1
    simp at c1
    have d0:=hT.y.cell k
    rw [JD _ _ (by rw [HX.out.1];exact hlt)] at d0
    have f0:=hT.y.free k
    have o2:=hT.o.storeAway (p:=⟨sb,k,none⟩) (by simpa using hos) (.int .i64 (k:Int))
    have t2:=hT.t.storeAway (p:=⟨sb,k,none⟩) (by simpa using hts) (.int .i64 (k:Int))
    have y2:=hT.y.store k (.int .i64 (k:Int))
    rw [xE] at y2
    have l3:=HL.out sb (.inr (.inr rfl))
    have b2:=hbl.setCell (p:=⟨sb,k,none⟩) l3.1 (.int .i64 (k:Int))
    have HX2:Hid ((X.set k k).length=m∧∀ j,j<k+1→(X.set k k).getD j 0=j):=Qa ⟨by rw [List.length_set,HX.out.1],fun j hj=>by
     by_cases e:j=k
     ·subst e
      have:j<X.length:=by rw [HX.out.1];exact hlt
      simp [List.getD_eq_getElem?_getD,this]
     ·have:=HX.out.2 j (by omega)
      rw [List.getD_eq_getElem?_getD] at this ⊢
      rw [List.getElem?_set_ne (fun h=>e h.symm)]
      exact this⟩
    clear hT hbl
    go_wp2
    go_roundw
    case rel=>exact ⟨k+1,tb,sb,X.set k k,by omega,by go_num,HX2,⟨o2,t2,y2⟩,HL,b2,Qa (by simpa using HE.out)⟩
    case measure=>simp [intOf];omega
   ·have hkm:k=m:=by omega
    subst hkm
    have HE2:Hid (X=byL sb0.sm k):=Qa (by
     rw [HZ.out]
     apply List.ext_getElem
     ·rw [HX.out.1,List.length_range]
     ·intro j h1 h2
      have:=HX.out.2 j (by rw [HX.out.1] at h1;exact h1)
      rw [List.getElem_range]
      simpa [List.getD_eq_getElem?_getD,h1] using this)
    go_wp2
    go_ret
    refine ⟨_,rfl,⟨ANr,rfl,tb,sb,by rw [←HE2.out];exact hT,fun b hb=>?_⟩,hbl⟩
    have:=HL.out b hb
    have:=HE.out
    omega
end Go.Proofs.YtembljihmnmmfaaGreat
