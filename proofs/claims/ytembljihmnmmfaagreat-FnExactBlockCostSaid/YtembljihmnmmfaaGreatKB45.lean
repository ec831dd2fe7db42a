/- Texts of the proof, merged. -/
import Derived.Test.YtembljihmnmmfaaGreatKB28
import Derived.Test.YtembljihmnmmfaaGreatKB37
namespace Go.Proofs.YtembljihmnmmfaaGreat
set_option maxHeartbeats 1000000
set_option maxRecDepth 100000
set_option linter.unusedVariables false
set_option linter.unusedSimpArgs false
open Go.RowKit
theorem AUl (v : Value) (w : World) : (Go.method 357 85 v "loop.example/g00674/impl.encode").run Tryz.prog w = .ok (251, v) w := by kernel_rfl
theorem vC (a:Option Addr) (cap B m:Nat) (L:List Nat) (w:World) (hz:Ints w B a (ints L)) (hB:B≤w.heap.size) (hok:rOk (ints L) m=true) (hm1:1≤m) (hm2:m≤256) (hL6:L.length≤600) (hLm:∀ x∈L,x<m) :
 Calls Tryz.prog 96 #[.iface 85 (.agg #[]),.slice a L.length cap,.int .i64 m] w fun e w'=>∃ cb aG nG cG,e=.returned (.agg #[.slice (some ⟨cb,0,none⟩) m m,.slice aG nG cG])∧w'.ownsRow w.heap.size 3 1 (.slice (some ⟨cb,0,none⟩) m m) m (Qe ((List.range m).map fun x=>L.count x))∧w'.ownsRow w.heap.size 3 1 (.slice aG nG cG) (Qs L (m-1)).length (Qe (Qs L (m-1)))∧Hid ((Value.slice aG nG cG).ownBlock≠some cb)∧Below w.heap.size w w':=by
 have bb:Below w.heap.size w (w.alloc (.cells #[.slice none 0 0,.slice none 0 0] 87)):=(Below.refl _ _).alloc (Nat.le_refl _) _
 have hR:=Has.fresh w 87 #[.slice none 0 0,.slice none 0 0]
 have hz0:=hz.below (bb.mono hB)
 have hX:(w.alloc (.cells #[.slice none 0 0,.slice none 0 0] 87)).heap.size=w.heap.size+1:=by simp
 have KR:=Qa (Zs a cap B (ints L) m _ hz0 (by rw [Qj];omega) (by omega) (by omega))
 rw [hok,Qj] at KR
 have KE:=Qa (ACn (.agg #[]) a cap B m L _ rfl hz0 (by rw [hX];omega) hm1 hm2 hL6 hLm)
 rw [hX] at KE
 have hme:=AUl (.agg #[])
 obtain ⟨n,hn⟩:∃ n,L.length=n:=⟨_,rfl⟩
 rw [hn] at KE KR ⊢
 clear hz hn hok hz0 hX
 go_enter Tryz.func96,Tryz.ntmps96
 go_wp2_with fail
 refine KR.out.mono ?_
 rintro e w1 ⟨rfl,rfl⟩
 go_wp2_with fail
 refine KE.out.mono ?_
 rintro e w2 ⟨cb,aG,nG,cG,rfl,hown,hownG,HAp,b2⟩
 replace hR:=hR.below b2 (by omega)
 replace bb:=bb.trans (b2.mono (by omega))
 have HO:=Qa hown
 have HOG:=Qa hownG
 have e0:=hR.cell 0
 have e1:=hR.cell 1
 have g0:=hR.free 0
 have g1:=hR.free 1
 simp at e0 e1
 have hs2:=bb.size
 clear b2 hown hownG
 go_wp2
 refine bodyPost_ret (v:=.agg #[.slice (some ⟨cb,0,none⟩) m m,.slice aG nG cG]) (by simp [results,Tryz.results96,go_sem,e0,e1,g0,g1]) rfl ⟨cb,aG,nG,cG,rfl,?_,?_,HAp,?_⟩
 ·exact Joins.ownsRow_le (Zm (Zm HO.out (p:=⟨w.heap.size,0,none⟩) (Nat.lt_succ_self _) _) (p:=⟨w.heap.size,1,none⟩) (Nat.lt_succ_self _) _) (Nat.le_succ _)
 ·exact Joins.ownsRow_le (Zm (Zm HOG.out (p:=⟨w.heap.size,0,none⟩) (Nat.lt_succ_self _) _) (p:=⟨w.heap.size,1,none⟩) (Nat.lt_succ_self _) _) (Nat.le_succ _)
 ·exact (bb.setCell (by simp) _).setCell (by simp) _
end Go.Proofs.YtembljihmnmmfaaGreat
