/- Texts of the proof, merged. -/
import Derived.Test.YtembljihmnmmfaaGreatKB31
import Derived.Test.YtembljihmnmmfaaGreatKB16
import Derived.Test.YtembljihmnmmfaaGreatKB8
import Derived.Test.YtembljihmnmmfaaGreatKB7
import Derived.Deep.LoopGhost
import Derived.ChangeKeysEq
import Derived.Test.YtembljihmnmmfaaGreatKB2
namespace Go.Proofs.YtembljihmnmmfaaGreat
set_option maxHeartbeats 2000000
set_option maxRecDepth 1000000
set_option linter.unusedVariables false
set_option linter.unusedSimpArgs false
open Go.RowKit
theorem zQ (r c k:Nat) (w:World) (hk:r*c=k) (hk6:k≤1048576) (hr:r≤1048576) (hc:c≤1048576) :
 Calls Tryz.prog 158 #[.int .i64 r,.int .i64 c] w fun e w'=>e=.returned (.agg #[.int .i64 c,.slice (some ⟨w.heap.size+1,0,none⟩) k k])∧Has w' (w.heap.size+1) 3 (iC (List.replicate k 0))∧Below w.heap.size w w':=by
 have hkI:(r:Int)*(c:Int)=(k:Int):=by rw [←hk];simp
 have hmk:=AXb k hk6
 have hR:=(Has.fresh w 173 #[.int .i64 0,.slice none 0 0]).alloc (.cells (iC (List.replicate k 0)) 3)
 have hS:=Has.freshAt (w:=w.alloc (.cells #[.int .i64 0,.slice none 0 0] 173)) (g:=w.heap.size+1) (by simp) 3 (iC (List.replicate k 0))
 have bb:Below w.heap.size w ((w.alloc (.cells #[.int .i64 0,.slice none 0 0] 173)).alloc (.cells (iC (List.replicate k 0)) 3)):=((Below.refl _ _).alloc (Nat.le_refl _) _).alloc (by simp) _
 obtain ⟨w2,hw2⟩:∃ w2,(w.alloc (.cells #[.int .i64 0,.slice none 0 0] 173)).alloc (.cells (iC (List.replicate k 0)) 3)=w2:=⟨_,rfl⟩
 have hmk2:(Instr.makeSlice 24 (.int .i64 (k:Int)) (.int .i64 (k:Int))).run Tryz.prog (w.alloc (.cells #[.int .i64 0,.slice none 0 0] 173))=.ok (.slice (some ⟨w.heap.size+1,0,none⟩) k k) w2:=by
  rw [hmk,←hw2];simp
 rw [hw2] at hR hS bb
 have e0:=hR.cell 0
 have e1:=hR.cell 1
 have g0:=hR.free 0
 have g1:=hR.free 1
 simp at e0 e1
 have hs2:=bb.size
 have hS7:=Qa ((hS.storeAway (p:=⟨w.heap.size,0,none⟩) (by simp) (.int .i64 (c:Int))).storeAway (p:=⟨w.heap.size,1,none⟩) (by simp) (.slice (some ⟨w.heap.size+1,0,none⟩) k k))
 have hR7:=Qa ((hR.store 0 (.int .i64 (c:Int))).store 1 (.slice (some ⟨w.heap.size+1,0,none⟩) k k))
 clear hmk hw2 hR hS hk
 go_enter Tryz.func158,Tryz.ntmps158
 go_wp2
 have hS8:=hS7.out
 have e0':=(hR7.out).cell 0
 have e1':=(hR7.out).cell 1
 simp at e0' e1'
 refine bodyPost_ret (v:=.agg #[.int .i64 c,.slice (some ⟨w.heap.size+1,0,none⟩) k k]) (by simp [results,Tryz.results158,go_sem,e0',e1']) rfl ⟨rfl,hS8,?_⟩
 repeat (first | exact Below.refl _ _ | assumption | refine Below.alloc ?_ (by (try simp);(try omega)) _ | refine Below.setCell ?_ (by (try simp);(try omega)) _)
theorem vv (g n c i q:Nat) (w:World) (hq:i*c=q) (hn:q+c≤n) (hc:0<c) (hn6:n≤1048576) (hi:i≤1048576) :
 Calls Tryz.prog 159 #[.agg #[.int .i64 c,.slice (some ⟨g,0,none⟩) n n],.int .i64 i] w fun e w'=>e=.returned (.slice (some ⟨g,q,none⟩) c (n-q))∧Below w.heap.size w w':=by
 have h1:(i:Int)*(c:Int)=(q:Int):=by rw [←hq];simp
 have h2:((i:Int)+1)*(c:Int)=(q:Int)+(c:Int):=by rw [Int.add_mul,h1,Int.one_mul]
 have h3:(q:Int)≤(q:Int)+(c:Int):=by omega
 have h4:(q:Int)+(c:Int)≤(n:Int):=by omega
 have h5:((q:Int)+(c:Int)).toNat-q=c:=by omega
 have h6:((q:Int)+(c:Int)).toNat=q+c:=by omega
 have h7:q+c-q=c:=by omega
 have h8:¬ n=q:=by omega
 have bb:Below w.heap.size w (w.alloc (.cells #[.int .i64 c,.slice (some ⟨g,0,none⟩) n n] 173)):=(Below.refl _ _).alloc (Nat.le_refl _) _
 clear hq
 go_enter Tryz.func159,Tryz.ntmps159
 go_wp2
 go_ret
 exact ⟨rfl,bb⟩
theorem AOc (g q c cap:Nat) (f:Nat→Int) (w:World) (hc:1≤c) (hc6:c≤1048576) (hf:∀ j,j<c→w.cell? ⟨g,q+j,none⟩=some (.int .i64 (f j))) :
 Calls Tryz.prog 186 #[.slice (some ⟨g,q,none⟩) c cap] w fun e w'=>∃ m:Int,e=.returned (.int .i64 m)∧(∃ j,j<c∧f j=m)∧(∀ j,j<c→m≤f j)∧w=w':=by
 have HF:=Qa hf
 have f0:=hf 0 (by omega)
 rw [Nat.add_zero] at f0
 have hc0:¬ (c:Int)<1:=by omega
 clear hf
 go_enter Tryz.func186,Tryz.ntmps186
 go_wp2
 go_loop [3,4] (fun sv si=>∃ (k:Nat) (v:Int),1≤k∧k≤c∧si=.int .i64 k∧sv=.int .i64 v∧Hid (∃ j,j<k∧f j=v)∧Hid (∀ j,j<k→v≤f j)) (fun _ si=>c-(intOf si).toNat)
 case atStart=>exact ⟨1,f 0,by omega,by omega,rfl,rfl,Qa ⟨0,by omega,rfl⟩,Qa (fun j hj=>by
  have h0:j=0:=(by omega)
  subst h0
  exact Int.le_refl _)⟩
 case round =>
  clear f0
  obtain ⟨k,v,hk1,hk,rfl,rfl,HE,HA⟩:=hrel
  by_cases hlt:k<c
  ·have ck:=HF.out k hlt
   obtain ⟨y,hy⟩:∃ y,f k=y:=⟨_,rfl⟩
   rw [hy] at ck
   have HY:=Qa hy
   clear hy
   go_wp2
   go_round
   case rel=>exact ⟨k+1,min v y,by omega,by omega,by go_num,rfl,Qa (by
    rcases Int.le_total v y with h | h
    ·obtain ⟨j,hj,e⟩:=HE.out;exact ⟨j,by omega,by rw [e];omega⟩
    ·exact ⟨k,by omega,by rw [HY.out];omega⟩),Qa (fun j hj=>by
    by_cases e:j=k
    ·subst e;rw [HY.out];omega
    ·have:=HA.out j (by omega);omega)⟩
   case measure=>simp [intOf];omega
  ·obtain rfl:k=c:=by omega
   go_wp2
   go_ret
   exact ⟨v,rfl,HE.out,HA.out,rfl⟩
theorem AJd (g q c cap:Nat) (f:Nat→Int) (m:Int) (w:World) (hc6:c≤1048576) (hf:∀ j,j<c→w.cell? ⟨g,q+j,none⟩=some (.int .i64 (f j))) (hm:∃ j,j<c∧f j=m) :
 Calls Tryz.prog 98 #[.slice (some ⟨g,q,none⟩) c cap,.int .i64 m] w fun e w'=>∃ j:Nat,e=.returned (.int .i64 j)∧j<c∧f j=m∧(∀ i,i<j→f i≠m)∧w=w':=by
 have HF:=Qa hf
 have HM:=Qa hm
 clear hf hm
 go_enter Tryz.func98,Tryz.ntmps98
 go_wp2
 go_loop [5,8] (fun _ si=>∃ (k:Nat),k≤c∧si=.int .i64 k∧Hid (∀ i,i<k→f i≠m)) (fun _ si=>c-(intOf si).toNat)
 case atStart=>exact ⟨0,by omega,rfl,Qa (fun i hi=>by omega)⟩
 case round =>
  obtain ⟨k,hk,rfl,HA⟩:=hrel
  by_cases hlt:k<c
  ·have ck:=HF.out k hlt
   obtain ⟨y,hy⟩:∃ y,f k=y:=⟨_,rfl⟩
   rw [hy] at ck
   have HY:=Qa hy
   clear hy
   by_cases e:m=y
   ·subst e
    go_wp2
    go_ret
    exact ⟨k,rfl,hlt,HY.out,HA.out,rfl⟩
   ·have hb:(m == y)=false:=by simpa using e
    have HA2:Hid (∀ i,i<k+1→f i≠m):=Qa (fun i hi=>by
     by_cases e2:i=k
     ·subst e2;rw [HY.out];exact fun h=>e h.symm
     ·exact HA.out i (by omega))
    clear e
    go_wp2
    go_round
    case rel=>exact ⟨k+1,by omega,by go_num,HA2⟩
    case measure=>simp [intOf];omega
  ·obtain rfl:k=c:=by omega
   exact absurd HM.out (fun ⟨j,hj,e⟩=>HA.out j hj e)
theorem AHh (g n c i q:Nat) (f:Nat→Int) (w:World) (hq:i*c=q) (hn:q+c≤n) (hc:0<c) (hn6:n≤1048576) (hi:i≤1048576) (hg:g<w.heap.size) (hf:∀ j,j<c→w.cell? ⟨g,q+j,none⟩=some (.int .i64 (f j))) :
 Calls Tryz.prog 162 #[.agg #[.int .i64 c,.slice (some ⟨g,0,none⟩) n n],.int .i64 i] w fun e w'=>∃ j:Nat,e=.returned (.int .i64 j)∧j<c∧(∀ k,k<c→f j≤f k)∧(∀ k,k<j→f j<f k)∧Below w.heap.size w w':=by
 have bb:Below w.heap.size w (w.alloc (.cells #[.int .i64 c,.slice (some ⟨g,0,none⟩) n n] 173)):=(Below.refl _ _).alloc (Nat.le_refl _) _
 have KR:=Qa (fun W=>vv g n c i q W hq hn hc hn6 hi)
 have HFB:Hid (∀ W,Below w.heap.size w W→∀ j,j<c→W.cell? ⟨g,q+j,none⟩=some (.int .i64 (f j))):=Qa (fun W hW j hj=>(hW.cell (p:=⟨g,q+j,none⟩) hg).trans (hf j hj))
 clear hf hq
 go_enter Tryz.func162,Tryz.ntmps162
 go_wp2_with fail
 refine (KR.out _).mono ?_
 rintro e w1 ⟨rfl,b1⟩
 have bb1:=Qc b1 bb.size bb
 have KM:=Qa (AOc g q c (n-q) f w1 hc (by omega) (HFB.out _ bb1))
 clear b1 bb
 go_wp2_with fail
 refine KM.out.mono ?_
 rintro e w2 ⟨m,rfl,hm1,hm2,hw2⟩
 subst hw2
 have KI:=Qa (AJd g q c (n-q) f m w1 (by omega) (HFB.out _ bb1) hm1)
 have HM2:=Qa hm2
 clear hm1 hm2
 go_wp2_with fail
 refine KI.out.mono ?_
 rintro e w3 ⟨j,rfl,hj,hfj,hne,hw3⟩
 subst hw3
 have HP:Hid ((∀ k,k<c→f j≤f k)∧(∀ k,k<j→f j<f k)):=Qa ⟨fun k hk=>by rw [hfj];exact HM2.out k hk,fun k hk=>by
  rw [hfj]
  have h1:=HM2.out k (by omega)
  have h2:=hne k hk
  omega⟩
 clear hfj hne
 go_wp2
 go_ret
 exact ⟨j,rfl,hj,HP.out.1,HP.out.2,bb1⟩
def asC (z:List Int):Array Value:=iC (z++List.replicate (200-z.length) 0)
theorem Jm {z:List Int} (h:z.length≤200):(asC z).size=200:=by
 unfold asC iC
 rw [List.size_toArray]
 unfold Qo
 rw [List.length_map,List.length_append,List.length_replicate]
 omega
theorem xK (z:List Int):(asC z).all (·.oneCell')=true:=by
 rw [Array.all_eq_true_iff_forall_mem]
 intro x hx
 unfold asC iC Qo at hx
 rw [List.mem_toArray,List.mem_map] at hx
 obtain ⟨y,_,rfl⟩:=hx
 rfl
theorem vI {z:List Int} {i:Nat} (h:i<z.length):(asC z)[i]? = some (.int .i64 (z.getD i 0)):=by
 unfold asC
 rw [qg _ _ (by rw [List.length_append];omega),List.getD_eq_getElem?_getD,List.getElem?_append_left h,←List.getD_eq_getElem?_getD]
theorem YG {z:List Int} {i:Nat} (hz:z.length≤200) (h:i<200):(asC z)[i]? = some (.int .i64 (z.getD i 0)):=by
 by_cases h2:i<z.length
 ·exact vI h2
 ·unfold asC
  rw [qg _ _ (by rw [List.length_append,List.length_replicate];omega),List.getD_eq_getElem?_getD,List.getElem?_append_right (by omega),List.getElem?_replicate,if_pos (by omega),List.getD_eq_getElem?_getD,List.getElem?_eq_none (by omega)]
  rfl
theorem vx:asC []=iC (List.replicate 200 0):=by unfold asC;simp
theorem AGn {z:List Int} {i:Nat} (h:z.length=i) (h2:i<200) (x:Int):(asC z).setIfInBounds i (.int .i64 x)=asC (z++[x]):=by
 subst h
 unfold asC
 rw [AEa,AVs z 200 x h2,List.length_append]
 rfl
theorem AWx {y z:List Int} (hy:y.length≤200) (hz:z.length=y.length) (h:∀ i,i<200→y.getD i 0=z.getD i 0):y=z:=by
 apply List.ext_getElem (by omega)
 intro i h1 h2
 have:=h i (by omega)
 rwa [List.getD_eq_getElem?_getD,List.getElem?_eq_getElem h1,List.getD_eq_getElem?_getD,List.getElem?_eq_getElem h2] at this
theorem vW:(Tryz.prog.info? 145).map (fun i=>(i.zero,i.size))=some (some (.agg (Array.replicate 200 (.int .i64 0))),200):=by kernel_rfl
theorem AFg (n:Nat):Array.replicate n (Value.int .i64 0)=iC (List.replicate n 0):=by
 unfold iC Qo
 rw [List.map_replicate]
 simp
theorem ANi (Q k:Nat) (S:List Int) (w:World) (hQ:Q=grp S.length) (hQ2:Q≤200) (hk:k≤4) :
 Calls Tryz.prog 126 #[.int .i64 Q,.int .i64 k] w fun e w'=>e=.returned (.agg (asC (sel0 S k)))∧Below w.heap.size w w':=by
 obtain ⟨z80,i80⟩:=zero_of_info vW
 rw [AFg,←vx] at z80
 have hs0:Hid (sel0 S k=(List.range Q).map fun i=>((i*k / Q:Nat):Int)):=Qa (by unfold sel0;rw [hQ])
 clear hQ
 go_enter Tryz.func126,Tryz.ntmps126
 go_wp2
 clear z80
 go_loopg [6,8] 201 (fun g _ i wr=>∃ j:Nat,j+g=201∧j≤Q∧i=.int .i64 j∧Hid (Has wr w.heap.size 145 (asC []))∧Hid (Has wr (w.heap.size+1) 145 (asC ((List.range j).map fun i=>((i*k / Q:Nat):Int))))∧Below w.heap.size w wr)
 case atStart=>exact ⟨0,by omega,by omega,rfl,Qa ((Has.fresh _ _ _).alloc _),Qa (Has.freshAt (by simp) _ _),((Below.refl _ _).alloc (Nat.le_refl _) _).alloc (by simp) _⟩
 case round =>
  obtain ⟨j,hjg,hjQ,rfl,HR,HT,hB⟩:=hrel
  by_cases hlt:j<Q
  ·obtain ⟨P,hP⟩:∃ P,j*k=P:=⟨_,rfl⟩
   have hPI:(j:Int)*(k:Int)=(P:Int):=by rw [←hP];simp
   have hP8:P≤800:=by
    rw [←hP]
    exact Nat.le_trans (Nat.mul_le_mul (by omega:j≤200) hk) (by decide)
   obtain ⟨D,hD⟩:∃ D,P / Q=D:=⟨_,rfl⟩
   have hDI:(P:Int).tdiv (Q:Int)=(D:Int):=by rw [Int.tdiv_eq_ediv_of_nonneg (by omega),←hD];simp
   have hDI2:(P:Int) / (Q:Int)=(D:Int):=by rw [←hD];simp
   have hDP:D≤P:=by rw [←hD];exact Nat.div_le_self _ _
   have hwD:wrap64 (D:Int)=(D:Int):=QT _ (by omega)
   have hQ0:¬ (Q:Int)=0:=by omega
   have hQ0n:¬ Q=0:=by omega
   have HX:Hid ((List.range (j+1)).map (fun i=>((i*k / Q:Nat):Int))=(List.range j).map (fun i=>((i*k / Q:Nat):Int))++[(D:Int)]):=Qa (by
    rw [List.range_succ,List.map_append]
    simp only [List.map_cons,List.map_nil]
    rw [hP,hD])
   have hT:=HT.out
   have cT:=hT.cell j
   have fT:=hT.free j
   obtain ⟨c0,hc0⟩:∃ c0,(asC ((List.range j).map fun i=>((i*k / Q:Nat):Int)))[j]? = some c0:=by
    have hl:((List.range j).map fun i=>((i*k / Q:Nat):Int)).length≤200:=by rw [List.length_map,List.length_range];omega
    exact ⟨_,YG hl (by omega)⟩
   rw [hc0] at cT
   have hT2:=hT.store j (.int .i64 (D:Int))
   rw [AGn (by rw [List.length_map,List.length_range]) (by omega),←HX.out] at hT2
   have HT2:=Qa hT2
   have HR2:=Qa (HR.out.storeAway (p:=⟨w.heap.size+1,j,none⟩) (by simp) (.int .i64 (D:Int)))
   have hB2:=hB.setCell (p:=⟨w.heap.size+1,j,none⟩) (by simp) (.int .i64 (D:Int))
   clear hT hT2 hP hD HX hc0
   go_wp2
   go_roundg (gk-1)
   case measure=>omega
   case rel=>exact ⟨j+1,by omega,by omega,by go_num,HR2,HT2,hB2⟩
  ·obtain rfl:j=Q:=by omega
   have hT:=HT.out
   have hR:=HR.out
   have hsl:(sel0 S k).length≤200:=by rw [hs0.out,List.length_map,List.length_range];exact hQ2
   have hs0l:([]:List Int).length≤200:=by simp
   rw [←hs0.out] at hT
   obtain ⟨A,hA⟩:∃ A,asC (sel0 S k)=A:=⟨_,rfl⟩
   have hAs:A.size=200:=by rw [←hA];exact Jm hsl
   have hA1:A.all (·.oneCell')=true:=by rw [←hA];exact xK _
   have HA:=Qa hA
   rw [hA] at hT
   have hiT:(Tryz.prog.info? 145).map (·.size)=some A.size:=by rw [hAs];exact i80
   obtain ⟨A0,hA0⟩:∃ A,asC []=A:=⟨_,rfl⟩
   have hA0s:A0.size=200:=by rw [←hA0];exact Jm hs0l
   rw [hA0] at hR
   clear hA hA0 HR HT hs0
   go_wp2
   refine ZX 145 (.tmp 5) rfl (w.heap.size+1) (by rfl) _ _ _ hT Tryz.underlying145 rfl hiT ?_
   have hsc:=run_storeCells_from (P:=Tryz.prog) w.heap.size 145 A.toList 0 A0 wr hR (by simp [hAs,hA0s]) (fun v hv=>(Array.all_eq_true_iff_forall_mem.1 hA1) v (by simpa using hv))
   simp only [List.take_zero,List.nil_append,Array.toArray_toList] at hsc
   have hR2:=hR.setRow A
   have hB2:=hB.trans (below_setRow (Below.refl w.heap.size wr) (Nat.le_refl _) A)
   have hld:=run_loadVar_row (P:=Tryz.prog) _ _ _ _ _ _ _ hR2 Tryz.underlying145 rfl hiT
   clear hR hB hT
   go_wp2
   (try simp only [Exit.inBlock,Exit.then])
   refine bodyPost_ret (v:=.agg A) ?_ rfl ⟨by rw [HA.out],hB2⟩
   rw [Vm rfl]
   simp [asAddr,Result.andThen,hld]
theorem yu:Tryz.prog.plainKey 3=true:=by kernel_rfl
theorem AMd:Tryz.prog.cellsOf 3=1:=by kernel_rfl
theorem zV (d:Nat) (f g:Nat→Int) (xs ys:Array Value) (w:World):∀ is:List Nat,(∀ i∈is,xs[i]? = some (.int .i64 (f i))∧ys[i]? = some (.int .i64 (g i))) →
 (Op.eqItems (d+1) 3 1 xs ys is).run Tryz.prog w=.ok (decide (∀ i∈is,f i=g i)) w
 | [],_=>by simp [Op.eqItems]
 | i::is,h=>by
   obtain ⟨h1,h2⟩:=h i (List.mem_cons_self ..)
   have p1:=run_part_plain (P:=Tryz.prog) (w:=w) yu h1
   have p2:=run_part_plain (P:=Tryz.prog) (w:=w) yu h2
   have p3:(Op.equalIn (d+1) 3 (.int .i64 (f i)) (.int .i64 (g i))).run Tryz.prog w=.ok (f i == g i) w:=by
    simp [Op.equalIn,Sem.run_bind,run_underlying Tryz.underlying3,Result.andThen]
   have ih:=zV d f g xs ys w is (fun j hj=>h j (List.mem_cons_of_mem _ hj))
   simp only [Op.eqItems,Nat.mul_one,Sem.run_bind,p1,p2,p3,Result.andThen_ok]
   by_cases e:f i=g i
   ·simp [e,ih]
   ·simp [e]
theorem AHf (d:Nat) {y z:List Int} (hy:y.length≤200) (hz:z.length=y.length) (w:World):(Op.equalIn (d+2) 145 (.agg (asC y)) (.agg (asC z))).run Tryz.prog w=.ok (decide (y=z)) w:=by
 obtain ⟨i0,hi,_,hz1,_⟩:=info_parts Tryz.infoInt
 rw [run_equalIn_array w (d+1) (asC y) (asC z) Tryz.underlying145 hi,AMd]
 have h:=zV d (fun i=>y.getD i 0) (fun i=>z.getD i 0) (asC y) (asC z) w (List.range 200) (fun i hi=>by
  rw [List.mem_range] at hi
  exact ⟨YG hy hi,YG (by omega) hi⟩)
 rw [h]
 congr 1
 rw [decide_eq_decide]
 constructor
 ·intro h
  exact AWx hy hz (fun i hi=>h i (by rw [List.mem_range];exact hi))
 ·intro h i _
  rw [h]
end Go.Proofs.YtembljihmnmmfaaGreat
