/- Texts of the proof, merged. -/
import Derived.Deep.WholeRow
import Derived.Laws.CopyOwn
import Derived.Laws.ResultCell
import Derived.Test.YtembljihmnmmfaaGreatKB2
import Derived.Deep.LoopGhost
import Derived.Test.YtembljihmnmmfaaGreatKB3
namespace Go.Proofs.YtembljihmnmmfaaGreat
set_option maxHeartbeats 1000000
set_option maxRecDepth 1000000
set_option linter.unusedVariables false
set_option linter.unusedSimpArgs false
open Go.RowKit
theorem ZX {P:Program} {op:Oper} {a:Act} {w:World} {K:Act→World→Prop} {Q:Exit→Act→World→Prop} (ty:TypeId) (x:Operand) (ho:op.op=.load ty x)
 (g:Nat) (hx:a.eval x=.pointer (some ⟨g,0,none⟩)) (t:TypeId) (cs:Array Value) (d:TypeDesc) (hH:Has w g t cs)
 (hu:P.underlying ty=some d) (hd:(match d with | .struct _ | .array _ _=>true | _=>false)=true) (hi:(P.info? ty).map (·.size)=some cs.size)
 (h:K (a.put op.dst (.agg cs)) w):op.wp P a w K Q:=by
 unfold Oper.wp execOp
 simp only [ho,hx,Instr.loadAt,Instr.sureAddr,Sem.run_bind,Sem.run_pure,Result.andThen_ok,run_loadVar_row w g t ty cs (0,0) d hH hu hd hi]
 exact h
theorem Has.setRow {w:World} {g:Nat} {t:TypeId} {cs:Array Value} (h:Has w g t cs) (new:Array Value):Has (w.setRow g new) g t new:=setRow_heap w g cs new t (0,0) h
theorem Vm {fn:Func} {p:Tmp} {ty:TypeId} (h:fn.results=#[.cell p ty]) (tmps:Array Value) (P:Program) (w:World) :
 (results fn tmps).run P w=((asAddr (tmps.getD p undef)).run P w).andThen fun a w1=>(loadVar ty a).run P w1:=by
 simp only [results,h]
 simp [Sem.run_bind,Result.andThen]
def tabK (k:Nat):Array Value:=((List.range 256).map fun j=>Value.int .u32 (if j<k then (Yc j:Int) else 0)).toArray
theorem ABq (k:Nat):(tabK k).size=256:=by simp [tabK]
theorem ASv (k:Nat):(tabK k).all (·.oneCell')=true:=by simp [tabK,Value.oneCell']
theorem ARs:tabK 0=Array.replicate 256 (.int .u32 0):=by
 apply Array.ext
 ·simp [tabK]
 ·intro i h1 h2;simp [tabK]
theorem ARo (k:Nat) (h:k<256):(tabK k).setIfInBounds k (.int .u32 (Yc k))=tabK (k+1):=by
 apply Array.ext
 ·simp [tabK]
 ·intro i h1 h2
  by_cases e:k=i
  ·subst e;simp [tabK]
  ·have:(i<k+1)↔i<k:=by omega
   simp [tabK,Array.getElem_setIfInBounds,e,this]
theorem AVb (k:Nat) (h:k<256):(tabK 256)[k]? = some (.int .u32 (Yc k)):=by simp [tabK,h]
theorem Tryz.zero80:(Tryz.prog.info? 134).map (fun i=>(i.zero,i.size))=some (some (.agg (Array.replicate 256 (.int .u32 0))),256):=by kernel_rfl
theorem yG (w:World) :
 Calls Tryz.prog 115 #[] w fun e w'=>e=.returned (.agg (tabK 256))∧Below w.heap.size w w':=by
 obtain ⟨z80,i80⟩:=zero_of_info Tryz.zero80
 go_enter Tryz.func115,Tryz.ntmps115
 go_wp2
 rw [←ARs]
 clear z80
 go_loopg [3] 256 (fun g i wr=>∃ k:Nat,k+g=256∧i=.int .i64 k∧Has wr w.heap.size 134 (tabK 0)∧Has wr (w.heap.size+1) 134 (tabK k)∧Below w.heap.size w wr)
 case atStart=>exact ⟨0,by omega,rfl,(Has.fresh _ _ _).alloc _,Has.freshAt (by simp) _ _,((Below.refl _ _).alloc (Nat.le_refl _) _).alloc (by simp) _⟩
 case round =>
  obtain ⟨k,hkg,rfl,hR,hT,hB⟩:=hrel
  cases gk with
  | zero =>
    obtain rfl:k=256:=by omega
    have hiT:(Tryz.prog.info? 134).map (·.size)=some (tabK 256).size:=by rw [ABq];exact i80
    go_wp2
    refine ZX 134 (.tmp 1) rfl (w.heap.size+1) (by rfl) _ _ _ hT Tryz.underlying134 rfl hiT ?_
    have hsc:=run_storeCells_from (P:=Tryz.prog) w.heap.size 134 (tabK 256).toList 0 (tabK 0) wr hR (by simp [ABq]) (fun v hv=>(Array.all_eq_true_iff_forall_mem.1 (ASv 256)) v (by simpa using hv))
    simp only [List.take_zero,List.nil_append,Array.toArray_toList] at hsc
    have hR2:=hR.setRow (tabK 256)
    have hB2:=hB.trans (below_setRow (Below.refl w.heap.size wr) (Nat.le_refl _) (tabK 256))
    have hld:=run_loadVar_row (P:=Tryz.prog) _ _ _ _ _ _ _ hR2 Tryz.underlying134 rfl hiT
    clear hR hB hT
    go_wp2
    (try simp only [Exit.inBlock,Exit.then])
    refine bodyPost_ret (v:=.agg (tabK 256)) ?_ rfl ⟨rfl,hB2⟩
    rw [Vm rfl]
    simp [asAddr,Result.andThen,hld]
  | succ g =>
    have hk:k<256:=by omega
    have cT:=hT.cell k
    have fT:=hT.free k
    rw [show (tabK k)[k]? = some (.int .u32 0) by simp [tabK,hk]] at cT
    go_wp2_with (go_at_call 154;refine (AEd k _ hk).mono ?_;rintro e w' ⟨rfl,rfl⟩)
    go_roundg g
    case measure=>omega
    case rel=>exact ⟨k+1,by omega,by go_num,hR.storeAway (by simp) _,by have:=hT.store k (.int .u32 (Yc k));rwa [ARo k hk] at this,hB.setCell (by simp) _⟩
theorem AJi (m:Nat) (s:ByteArray) (w:World) (hm:m<4294967296) (hs:s.size≤maxLen) :
 Calls Tryz.prog 114 #[.agg (tabK 256),.int .u32 m,.string s] w fun e w'=>e=.returned (.int .u32 (crcL m (Qb s)))∧Below w.heap.size w w':=by
 unfold maxLen at hs
 obtain ⟨T,hT⟩:∃ T,T=tabK 256:=⟨_,rfl⟩
 have HT:Hid (∀ k,k<256→T[k]? = some (.int .u32 (Yc k))):=Qa (by rw [hT];exact AVb)
 rw [←hT]
 clear hT
 go_enter Tryz.func114,Tryz.ntmps114
 go_wp2
 go_loopw [1,10] (fun v i wr=>∃ k:Nat,k≤s.size∧i=.int .i64 k∧v=.int .u32 (crcK m s k)∧Has wr w.heap.size 134 T∧Below w.heap.size w wr) (fun _ i _=>s.size-(intOf i).toNat)
 case atStart=>exact ⟨0,by omega,rfl,by rw [AQp],Has.fresh _ _ _,(Below.refl _ _).alloc (Nat.le_refl _) _⟩
 case round =>
  obtain ⟨k,hk,rfl,rfl,hB,hb⟩:=hrel
  by_cases hlt:k<s.size
  ·obtain ⟨u,hu⟩:∃ u,u=crcK m s k:=⟨_,rfl⟩
   have hul:u<4294967296:=by rw [hu];exact AYm _ _ _ hm
   have hx:s[k].toNat<256:=UInt8.toNat_lt _
   have ht:=APp u s[k].toNat hul hx
   have c:=hB.cell (top u s[k].toNat)
   rw [HT.out _ ht] at c
   have f:=hB.free (top u s[k].toNat)
   rw [←hu]
   have H:=Qa hu;clear hu
   have htu:=AZp u s[k].toNat hul hx
   have hsu:=Qa (ATd u s[k].toNat hul hx)
   go_wp2
   go_round
   case rel=>exact ⟨k+1,by omega,by go_num,by rw [AOw _ _ _ hlt,←H.out,←hsu.out],hB,hb⟩
   case measure=>simp [intOf];omega
  ·have hk8:k=s.size:=by omega
   subst hk8
   have hK:=Qa (ASh m s)
   go_wp2
   go_ret
   refine ⟨?_,hb⟩
   exact (QN (by rw [hK.out]))
theorem yK (m:Int) (s:ByteArray) (w:World) (m1:-9223372036854775808≤m) (m2:m≤9223372036854775807) (hs:s.size≤maxLen) :
 Calls Tryz.prog 78 #[.int .i64 m,.string s] w fun e w'=>e=.returned (.int .i64 (crcI m s))∧Below w.heap.size w w':=by
 by_cases h:0≤m∧m≤4294967295
 ·have hd:decide (0≤m∧m≤4294967295)=true:=by simp;omega
  obtain ⟨m',rfl⟩:∃ q:Nat,m=q:=⟨m.toNat,by omega⟩
  have hm:m'<4294967296:=by omega
  have hcl:=xM m' (Qb s) hm (YI s)
  rw [ADq _ _ hm]
  obtain ⟨T,hT⟩:∃ T,T=tabK 256:=⟨_,rfl⟩
  have HT:Hid (T=tabK 256):=Qa hT
  clear hT h
  go_enter Tryz.func78,Tryz.ntmps78
  go_wp2_with (go_at_call 113;refine (yR _ _ (by omega) (by omega)).mono ?_;rintro e w' ⟨rfl,rfl⟩;rw [hd])
  go_wp2_with (go_at_call 115;refine (yG _).mono ?_;rintro e w1 ⟨rfl,B1⟩;rw [←HT.out])
  go_wp2_with (go_at_call 114;rw [HT.out];refine (AJi m' s _ hm hs).mono ?_;rintro e w2 ⟨rfl,B2⟩)
  go_ret
  exact ⟨rfl,B1.trans (B2.mono B1.size)⟩
 ·have hd:decide (0≤m∧m≤4294967295)=false:=by simp;omega
  rw [AXr _ _ h]
  go_enter Tryz.func78,Tryz.ntmps78
  go_wp2_with (go_at_call 113;refine (yR _ _ (by omega) (by omega)).mono ?_;rintro e w' ⟨rfl,rfl⟩;rw [hd])
  go_ret
  exact ⟨rfl,Below.refl _ _⟩
def crcN (s:ByteArray):Nat:=crcL 4294967295 (Qb s) ^^^ 4294967295
theorem vu (s:ByteArray):crcN s<4294967296:=jO (xM _ _ (by omega) (YI s)) (by omega)
theorem ASk (s:ByteArray):crcI 4294967295 s=(crcL 4294967295 (Qb s):Int):=ADq 4294967295 s (by omega)
theorem AXa (s:ByteArray):bits .xor .i64 (crcL 4294967295 (Qb s):Int) 4294967295=(crcN s:Int) :=
 AIj (crcL 4294967295 (Qb s)) 4294967295 (by have:=xM 4294967295 (Qb s) (by omega) (YI s);omega) (by omega)
theorem VT (s:ByteArray) (w:World) (hs:s.size≤maxLen) :
 Calls Tryz.prog 38 #[.string s] w fun e w'=>e=.returned (.int .i64 (crcN s))∧Below w.heap.size w w':=by
 have H:=Qa (AXa s)
 go_enter Tryz.func38,Tryz.ntmps38
 go_wp2_with (go_at_call 78;refine (yK 4294967295 s _ (by omega) (by omega) hs).mono ?_;rintro e w1 ⟨rfl,B⟩;rw [ASk])
 go_ret
 exact ⟨QN H.out,B⟩
end Go.Proofs.YtembljihmnmmfaaGreat
