/- Texts of the proof, merged. -/
import Derived.Stop.Asserts
import Derived.Test.YtembljihmnmmfaaGreatKB24
import Derived.Test.YtembljihmnmmfaaGreatKB22
namespace Go.Proofs.YtembljihmnmmfaaGreat
set_option maxHeartbeats 1000000
set_option maxRecDepth 100000
set_option linter.unusedVariables false
set_option linter.unusedSimpArgs false
open Go.RowKit
theorem VV (a:Option Addr) (cap B m:Nat) (L:List Nat) (w:World) (hz:Ints w B a (ints L)) (hB:B≤w.heap.size) (hok:rOk (ints L) m=true) (hm2:m≤256) (hL6:L.length≤600) (hLm:∀ x∈L,x<m) :
 Calls Tryz.prog 96 #[.iface 83 (.agg #[]),.slice a L.length cap,.int .i64 m] w fun e w'=>∃ g,e=.returned (.agg #[.slice none 0 0,.slice (some ⟨g,0,none⟩) L.length L.length])∧w'.ownsRow w.heap.size 3 1 (.slice (some ⟨g,0,none⟩) L.length L.length) L.length (Qe (runF mtfF (List.range m) L))∧Below w.heap.size w w':=by
 have bb:Below w.heap.size w (w.alloc (.cells #[.slice none 0 0,.slice none 0 0] 87)):=(Below.refl _ _).alloc (Nat.le_refl _) _
 have hR:=Has.fresh w 87 #[.slice none 0 0,.slice none 0 0]
 have hz0:=hz.below (bb.mono hB)
 have hX:(w.alloc (.cells #[.slice none 0 0,.slice none 0 0] 87)).heap.size=w.heap.size+1:=by simp
 have KR:=Qa (Zs a cap B (ints L) m _ hz0 (by rw [Qj];omega) (by omega) (by omega))
 rw [hok,Qj] at KR
 have KE:=Qa (ACf (.agg #[]) a cap B m L _ rfl hz0 (by rw [hX];omega) hm2 hL6 hLm)
 rw [hX] at KE
 have hme:=AVa (.agg #[])
 obtain ⟨n,hn⟩:∃ n,L.length=n:=⟨_,rfl⟩
 rw [hn] at KE KR ⊢
 clear hz hn hok hz0 hX
 go_enter Tryz.func96,Tryz.ntmps96
 go_wp2_with fail
 refine KR.out.mono ?_
 rintro e w1 ⟨rfl,rfl⟩
 go_wp2_with fail
 refine KE.out.mono ?_
 rintro e w2 ⟨g,rfl,hown,b2⟩
 have hgw:=(hown.lt g rfl).1
 replace hR:=hR.below b2 (by omega)
 replace bb:=bb.trans (b2.mono (by omega))
 have HO:=Qa (Joins.ownsRow_le hown (Nat.le_succ _))
 have e0:=hR.cell 0
 have e1:=hR.cell 1
 have g0:=hR.free 0
 have g1:=hR.free 1
 simp at e0 e1
 have hs2:=bb.size
 clear b2 hown
 go_wp2
 refine bodyPost_ret (v:=.agg #[.slice none 0 0,.slice (some ⟨g,0,none⟩) n n]) (by simp [results,Tryz.results96,go_sem,e0,e1,g0,g1]) rfl ⟨g,rfl,?_,?_⟩
 ·exact ownsRow_setCell_other (ownsRow_setCell_other HO.out (by simp [Value.ownBlock];omega) _) (by simp [Value.ownBlock];omega) _
 ·exact (bb.setCell (by simp) _).setCell (by simp) _
theorem ACw (v:Value) (a:Option Addr) (cap B:Nat) (z:List Int) (m:Int) (w:World) (hz:Ints w B a z) (hB:B≤w.heap.size) (hl:z.length≤1048576) (n1:-9223372036854775808≤m) (n2:m≤9223372036854775807) (hno:rOk z m=false) :
 Calls Tryz.prog 96 #[v,.slice a z.length cap,.int .i64 m] w fun e w'=>e=.returned (.agg #[.slice none 0 0,.slice none 0 0])∧Below w.heap.size w w':=by
 have bb:Below w.heap.size w (w.alloc (.cells #[.slice none 0 0,.slice none 0 0] 87)):=(Below.refl _ _).alloc (Nat.le_refl _) _
 have hR:=Has.fresh w 87 #[.slice none 0 0,.slice none 0 0]
 have KR:=Qa (Zs a cap B z m _ (hz.below (bb.mono hB)) hl n1 n2)
 rw [hno] at KR
 obtain ⟨n,hn⟩:∃ n,z.length=n:=⟨_,rfl⟩
 rw [hn] at KR ⊢
 have e0:=hR.cell 0
 have e1:=hR.cell 1
 have g0:=hR.free 0
 have g1:=hR.free 1
 simp at e0 e1
 clear hz hn hno
 go_enter Tryz.func96,Tryz.ntmps96
 go_wp2_with fail
 refine KR.out.mono ?_
 rintro e w1 ⟨rfl,rfl⟩
 clear hR
 go_wp2
 refine bodyPost_ret (v:=.agg #[.slice none 0 0,.slice none 0 0]) (by simp [results,Tryz.results96,go_sem,e0,e1,g0,g1]) rfl ⟨rfl,?_⟩
 repeat (first | exact Below.refl _ _ | assumption | refine Below.alloc ?_ (by (try simp);(try omega)) _ | refine Below.setCell ?_ (by (try simp);(try omega)) _ | refine Below.drew ?_ | refine Qc (by assumption) (by (try simp);(try omega)) ?_)
theorem qH (u v:Value) (W:World):(Instr.field 87 (.agg #[u,v]) 1).run Tryz.prog W=.ok v W:=by kernel_rfl
theorem AHi (a:Option Addr) (cap B:Nat) (z:List Int) (n:Int) (w:World) (hz:Ints w B a z) (hB:B≤w.heap.size) (hl:z.length≤1048576) (n1:-9223372036854775808≤n) (n2:n≤9223372036854775807) :
 Calls Tryz.prog 130 #[.slice a z.length cap,.int .i64 n] w fun e w'=>∃ v,e=.returned v∧w'.ownsRow w.heap.size 3 1 v (mtfZ z n).length (Qo (mtfZ z n))∧Below w.heap.size w w':=by
 by_cases hok:rOk z n=true
 ·obtain ⟨L,m,rfl,rfl,hm1,hm2,hL6,hLm⟩:=Za hok
  rw [JS hok,Qy,Qj,Qj,Xc]
  have KE:=Qa (VV a cap B m L w hz hB hok hm2 hL6 hLm)
  obtain ⟨q,hq⟩:∃ q,L.length=q:=⟨_,rfl⟩
  rw [hq] at KE ⊢
  clear hz hok hq
  have hfd:=qH
  go_enter Tryz.func130,Tryz.ntmps130
  go_wp2_with fail
  refine KE.out.mono ?_
  rintro e w2 ⟨g,rfl,hown,b2⟩
  go_wp2
  go_ret
  exact ⟨_,rfl,hown,b2⟩
 ·have hno:=QC hok
  have KE:=Qa (ACw (.iface 83 (.agg #[])) a cap B z n w hz hB hl n1 n2 hno)
  rw [vR hno]
  clear hz hok hno
  have hfd:=qH
  go_enter Tryz.func130,Tryz.ntmps130
  go_wp2_with fail
  refine KE.out.mono ?_
  rintro e w2 ⟨rfl,b2⟩
  go_wp2
  go_ret
  exact ⟨_,rfl,World.ownsRow_nil _ _ _ _,b2⟩
def recV (m:Nat):Value:=if m=1 then .iface 83 (.agg #[]) else if m=2 then .iface 84 (.agg #[]) else .iface 85 (.agg #[])
def Vu (m:Nat) (b:Bool) (t:Int):Value :=
 if m=0 then .iface 70 (.agg #[]) else if m=3 then .iface 59 (.agg #[recV 3,.bool b]) else .iface 53 (.agg #[recV m,.bool b,.int .i64 t])
theorem YU (m:Nat) (t:Int) (b:Bool) (w:World) (hm:m≤3) :
 Calls Tryz.prog 28 #[.agg #[.int .i64 m,.bool b,.int .i64 t]] w fun e w'=>e=.returned (Vu m b t)∧Below w.heap.size w w':=by
 rcases (by omega:m=0∨m=1∨m=2∨m=3) with rfl | rfl | rfl | rfl
 all_goals
  go_enter Tryz.func28,Tryz.ntmps28
  go_wp2
  go_ret
  exact ⟨rfl,(Below.refl _ _).alloc (Nat.le_refl _) _⟩
theorem jx (v:Value) (W:World):(Instr.typeAssert (.iface 53 v) 20 53 true).run Tryz.prog W=.ok (.tuple #[v,.bool true]) W:=by kernel_rfl
theorem jW (v:Value) (W:World):(Instr.typeAssert (.iface 53 v) 20 70 true).run Tryz.prog W=.ok (.tuple #[.agg #[],.bool false]) W:=by kernel_rfl
theorem xN (v:Value) (W:World):(Instr.typeAssert (.iface 59 v) 20 53 true).run Tryz.prog W=.ok (.tuple #[.agg #[.nilIface,.bool false,.int .i64 0],.bool false]) W:=by kernel_rfl
theorem zU (v:Value) (W:World):(Instr.typeAssert (.iface 59 v) 20 59 true).run Tryz.prog W=.ok (.tuple #[v,.bool true]) W:=by kernel_rfl
theorem xR (v:Value) (W:World):(Instr.typeAssert (.iface 59 v) 20 70 true).run Tryz.prog W=.ok (.tuple #[.agg #[],.bool false]) W:=by kernel_rfl
theorem jy (v:Value) (W:World):(Instr.typeAssert (.iface 70 v) 20 70 true).run Tryz.prog W=.ok (.tuple #[v,.bool true]) W:=by kernel_rfl
end Go.Proofs.YtembljihmnmmfaaGreat
