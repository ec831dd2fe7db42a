/- Texts of the proof, merged. -/
import Derived.Deep.RegionHeld3
import Derived.Test.YtembljihmnmmfaaGreatKB33
import Derived.Test.YtembljihmnmmfaaGreatKB37
namespace Go.Proofs.YtembljihmnmmfaaGreat
set_option maxHeartbeats 1000000
set_option maxRecDepth 100000
set_option linter.unusedVariables false
set_option linter.unusedSimpArgs false
open Go.RowKit
theorem ATl (v : Value) (w : World) : (Go.method 357 84 v "loop.example/g00674/impl.encode").run Tryz.prog w = .ok (244, v) w := by kernel_rfl
theorem AIb (args:Array Value) (W:World):(callFunc 246 args).run Tryz.prog W=.ok (.enter 246 args) W:=by kernel_rfl
theorem ACt (r0:Value) (a:Option Addr) (cap B m:Nat) (L:List Nat) (w:World) (hr0:r0=.agg #[]) (hz:Ints w B a (ints L)) (hB:B≤w.heap.size) (hm1:1≤m) (hm2:m≤256) (hL6:L.length≤600) (hLm:∀ x∈L,x<m) :
 Calls Tryz.prog 244 #[r0,.slice a L.length cap,.int .i64 m] w fun e w'=>∃ g,e=.returned (.agg #[.slice none 0 0,.slice (some ⟨g,0,none⟩) L.length L.length])∧w'.ownsRow w.heap.size 3 1 (.slice (some ⟨g,0,none⟩) L.length L.length) L.length (Qe (runF (sbrF m) sb0 L))∧Below w.heap.size w w':=by
 subst hr0
 have bb:Below w.heap.size w ((w.alloc (.cells #[] 84)).alloc (.cells #[.slice none 0 0,.slice none 0 0] 87)):=((Below.refl _ _).alloc (Nat.le_refl _) _).alloc (by simp) _
 have hR:=Has.freshAt (w:=w.alloc (.cells #[] 84)) (g:=w.heap.size+1) (by simp) 87 #[.slice none 0 0,.slice none 0 0]
 have hX:((w.alloc (.cells #[] 84)).alloc (.cells #[.slice none 0 0,.slice none 0 0] 87)).heap.size=w.heap.size+2:=by simp
 have HZ:=Qa hz
 have KF:=Qa (fun (W:World) (g:Nat) (hg:W.heap.size=g)=>jR m W hm1 hm2 g hg)
 obtain ⟨n,hn⟩:∃ n,L.length=n:=⟨_,rfl⟩
 have KE:=Qa (fun (h base E:Nat) (W:World) hz' hB' hbE hE h0=>AOz 246 (.pointer (some ⟨h,0,none⟩)) (fun k W s=>TO W base E h m k s) (sbrF m) base E B a cap L W sb0 hz' hB' hbE hE hL6 h0 AIb
  (fun W W' s k hs hk=>hs.keep hk) (fun W s x k hk hs hx=>AFn base E h m k x s W hs (hLm x hx) hm2 (by omega)))
 rw [hn] at KE ⊢
 clear hz hn
 go_enter Tryz.func244,Tryz.ntmps244
 go_wp2_with fail
 refine (KF.out _ (w.heap.size+2) hX).mono ?_
 rintro e w1 ⟨ob,rfl,hF1,b1⟩
 have s1:w.heap.size+2≤w1.heap.size:=by rw [←hX];exact b1.size
 replace bb:=bb.trans (b1.mono (by omega))
 replace hR:=hR.below b1 (by omega)
 have hz1:=HZ.out.below (bb.mono hB)
 have K2:=Qa (KE.out ob (w.heap.size+2) w1.heap.size w1 hz1 (by omega) s1 (Nat.le_refl _) hF1)
 clear hF1 b1 hz1 hX
 go_wp2_with fail
 refine K2.out.mono ?_
 rintro e w2 ⟨g,rfl,hown,b2⟩
 have hs1:w.heap.size≤w1.heap.size:=bb.size
 replace bb:=bb.trans (b2.mono (by omega))
 replace hR:=hR.below b2 (by omega)
 have HO:=Qa (Joins.ownsRow_le hown hs1)
 have hgw:=(hown.lt g rfl).1
 have e0:=hR.cell 0
 have e1:=hR.cell 1
 have g0:=hR.free 0
 have g1:=hR.free 1
 simp at e0 e1
 have hs2:=bb.size
 clear b2 hown
 go_wp2
 refine bodyPost_ret (v:=.agg #[.slice none 0 0,.slice (some ⟨g,0,none⟩) n n]) (by simp [results,Tryz.results244,go_sem,e0,e1,g0,g1]) rfl ⟨g,rfl,?_,?_⟩
 ·exact ownsRow_setCell_other (ownsRow_setCell_other HO.out (by simp [Value.ownBlock];omega) _) (by simp [Value.ownBlock];omega) _
 ·exact (bb.setCell (by simp) _).setCell (by simp) _
theorem AAa (a:Option Addr) (cap B m:Nat) (L:List Nat) (w:World) (hz:Ints w B a (ints L)) (hB:B≤w.heap.size) (hok:rOk (ints L) m=true) (hm1:1≤m) (hm2:m≤256) (hL6:L.length≤600) (hLm:∀ x∈L,x<m) :
 Calls Tryz.prog 96 #[.iface 84 (.agg #[]),.slice a L.length cap,.int .i64 m] w fun e w'=>∃ g,e=.returned (.agg #[.slice none 0 0,.slice (some ⟨g,0,none⟩) L.length L.length])∧w'.ownsRow w.heap.size 3 1 (.slice (some ⟨g,0,none⟩) L.length L.length) L.length (Qe (runF (sbrF m) sb0 L))∧Below w.heap.size w w':=by
 have bb:Below w.heap.size w (w.alloc (.cells #[.slice none 0 0,.slice none 0 0] 87)):=(Below.refl _ _).alloc (Nat.le_refl _) _
 have hR:=Has.fresh w 87 #[.slice none 0 0,.slice none 0 0]
 have hz0:=hz.below (bb.mono hB)
 have hX:(w.alloc (.cells #[.slice none 0 0,.slice none 0 0] 87)).heap.size=w.heap.size+1:=by simp
 have KR:=Qa (Zs a cap B (ints L) m _ hz0 (by rw [Qj];omega) (by omega) (by omega))
 rw [hok,Qj] at KR
 have KE:=Qa (ACt (.agg #[]) a cap B m L _ rfl hz0 (by rw [hX];omega) hm1 hm2 hL6 hLm)
 rw [hX] at KE
 have hme:=ATl (.agg #[])
 obtain ⟨n,hn⟩:∃ n,L.length=n:=⟨_,rfl⟩
 rw [hn] at KE KR ⊢
 clear hz hn hok hz0 hX
 go_enter Tryz.func96,Tryz.ntmps96
 go_wp2_with fail
 refine KR.out.mono ?_
 rintro e w1 ⟨rfl,rfl⟩
 go_wp2_with fail
 refine KE.out.mono ?_
 rintro e w2 ⟨g,rfl,hown,b2⟩
 have hgw:=(hown.lt g rfl).1
 replace hR:=hR.below b2 (by omega)
 replace bb:=bb.trans (b2.mono (by omega))
 have HO:=Qa (Joins.ownsRow_le hown (Nat.le_succ _))
 have e0:=hR.cell 0
 have e1:=hR.cell 1
 have g0:=hR.free 0
 have g1:=hR.free 1
 simp at e0 e1
 have hs2:=bb.size
 clear b2 hown
 go_wp2
 refine bodyPost_ret (v:=.agg #[.slice none 0 0,.slice (some ⟨g,0,none⟩) n n]) (by simp [results,Tryz.results96,go_sem,e0,e1,g0,g1]) rfl ⟨g,rfl,?_,?_⟩
 ·exact ownsRow_setCell_other (ownsRow_setCell_other HO.out (by simp [Value.ownBlock];omega) _) (by simp [Value.ownBlock];omega) _
 ·exact (bb.setCell (by simp) _).setCell (by simp) _
end Go.Proofs.YtembljihmnmmfaaGreat
