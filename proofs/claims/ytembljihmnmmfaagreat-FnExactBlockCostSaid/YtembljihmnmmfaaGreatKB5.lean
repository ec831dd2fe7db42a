/- Texts of the proof, merged. -/
import Derived.Deep.RegionHeld3
import Derived.Deep.Cut
import Derived.Deep.DeepCutAuto
import Derived.Test.YtembljihmnmmfaaGreatKB2
import Derived.Test.YtembljihmnmmfaaGreatKB3
import Derived.OpenShut
import Derived.Lib.SmallJoins
set_option maxHeartbeats 4000000
set_option maxRecDepth 100000
namespace Go.Proofs.YtembljihmnmmfaaGreat
set_option linter.unusedVariables false
set_option linter.unusedSimpArgs false
open Go.RowKit Go.ChangeShapes Go.WideShapes Go.ChangeAt
theorem Ints.ofRowE {w:World} {a:Option Addr} {len cap:Nat} {zs:List Int} (h:AMy .i64 w a len cap zs) (hle:len≤1048576):∃ ys:List Int,ys.length=len∧Ints w w.heap.size a ys:=by
 rcases h with ⟨rfl,rfl,rfl,rfl⟩ | ⟨x,rfl,hl,hm,hz,hc,hwz⟩
 ·exact ⟨[],rfl,by simp,by simp,fun h=>by simp at h⟩
 ·have hlen:(zs.take len).length=len:=by rw [List.length_take];omega
  refine ⟨zs.take len,hlen,by rw [hlen];omega,fun n hn=>?_,fun h0=>?_⟩
  ·exact bounds_i64 (hwz n (List.mem_of_mem_take hn))
  ·have h1:=hc 0 (by omega)
   obtain ⟨b,off,spot⟩:=x
   have hspot:spot=none:=by simpa [Addr.add] using World.cell?_spot h1
   subst hspot
   refine ⟨b,off,rfl,?_,fun i hi=>?_⟩
   ·have:=AKm h1
    simpa [Addr.add] using this
   ·rw [hlen] at hi
    have:=hc i (by omega)
    have e2:(zs.take len).getD i 0=zs.getD i 0:=by simp [List.getD_eq_getElem?_getD,List.getElem?_take,hi]
    rw [e2]
    by_cases e:i=0
    ·subst e;simpa [Addr.add] using this
    ·simpa [Addr.add,e] using this
theorem AFr {w:World} {base n:Nat} {v:Value} {xs:List Value} {E:TypeId} {S:Nat} (h:w.ownsRow base E S v n xs):∃ a c,v=.slice a n c:=by
 rcases h.2 with ⟨rfl,rfl⟩ | ⟨g,cap,cur,rfl,_⟩
 ·exact ⟨none,0,rfl⟩
 ·exact ⟨_,cap,rfl⟩
def yA (v:Value) (lo hi:Nat):Prop:=∀ k,v.ownBlock=some k→lo≤k∧k<hi
theorem AKz {w:World} {base n S:Nat} {v:Value} {xs:List Value} {E:TypeId} (h:w.ownsRow base E S v n xs):yA v base w.heap.size:=h.lt
end Go.Proofs.YtembljihmnmmfaaGreat
namespace Go.Proofs.YtembljihmnmmfaaGreat
set_option linter.unusedVariables false
set_option linter.unusedSimpArgs false
open Go.ChangeShapes Go.WideShapes Go.ChangeAt Go.RowKit Go.Joins Go.Deep
theorem AKx (m:Int) (b:Bool) (t:Int) (w:World) :
 Calls Tryz.prog 7 #[.agg #[.int .i64 m,.bool b,.int .i64 t]] w fun e w'=>e=.returned (.agg #[.int .i64 m,.bool b,.int .i64 t])∧Below w.heap.size w w':=by
 go_enter Tryz.func7,Tryz.ntmps7
 go_wp2
 refine bodyPost_ret (v:=.agg #[.int .i64 m,.bool b,.int .i64 t]) (by simp [results,Tryz.results7,go_sem]) rfl ⟨rfl,?_⟩
 repeat (first | exact Below.refl _ _ | refine Below.alloc ?_ (by (try simp);(try omega)) _ | refine Below.setCell ?_ (by (try simp);(try omega)) _ | refine Below.drew ?_)
theorem ATc {H:Type} {enc:TypeId × Value→H} {P:Program} {w:World} {base:Nat} {spare:Nat→Bool} {held:Bool} {r:Reach} {b0:Nat} {t:TypeId} {v:Value} {d:DataW H} {p:List MemPlace}
 {f0 f1 f2:Field} (hs:P.underlying t=some (.struct #[f0,f1,f2])) (hone:oneCellFields P #[f0,f1,f2]=true) (hC:P.cellsOf t=3) (e0:P.underlying f0.type=some (.int .i64)) (e1:P.underlying f1.type=some .bool) (e2:P.underlying f2.type=some (.int .i64))
 (hv:Value.okWide P w r b0 t v) (h:DataW.Trod enc P w base spare held t v d p) :
 ∃ (m:Int) (b:Bool) (n:Int),v=.agg #[.int .i64 m,.bool b,.int .i64 n]∧(Lit.int .i64 m).wf=true∧(Lit.int .i64 n).wf=true:=by
 obtain ⟨c0,c1,c2,y0,y1,y2,k,rfl,_,_,hy0,hy1,hy2⟩:=Joins.open_agg3 hs hone hC hv h
 obtain ⟨m,q0,_,wm⟩:=DataW.trod_int e0 hy0
 obtain ⟨b,q1,_⟩:=DataW.trod_bool e1 hy1
 obtain ⟨n,q2,_,wn⟩:=DataW.trod_int e2 hy2
 simp at q0 q1 q2
 subst q0 q1 q2
 exact ⟨m,b,n,rfl,wm,wn⟩
end Go.Proofs.YtembljihmnmmfaaGreat
namespace Go.Proofs.YtembljihmnmmfaaGreat
set_option linter.unusedVariables false
set_option linter.unusedSimpArgs false
open Go.RowKit Go.ChangeShapes Go.WideShapes Go.ChangeAt
def VX:Prop:=∀ (s0:ByteArray) (wm1:Int) (wb1:Bool) (wt1:Int),s0.size≤1048576→-9223372036854775808≤wm1→wm1≤9223372036854775807→-9223372036854775808≤wt1→wt1≤9223372036854775807→∃ (r0:Int),(∀ (W:World),Calls Tryz.prog 15 #[.string s0,.agg #[.int .i64 wm1,.bool wb1,.int .i64 wt1]] W fun e w'=>e=.returned (.int .i64 r0)∧Below W.heap.size W w')∧(∀ (W:World),Calls Tryz.prog 16 #[.string s0,.agg #[.int .i64 wm1,.bool wb1,.int .i64 wt1]] W fun e w'=>e=.returned (.int .i64 r0)∧Below W.heap.size W w')
theorem zn (w:World) (s0:ByteArray) (hb0:s0.size≤1048576) (wm1:Int) (wb1:Bool) (wt1:Int) (b1:-9223372036854775808≤wm1) (d1:wm1≤9223372036854775807) (bt1:-9223372036854775808≤wt1) (dt1:wt1≤9223372036854775807) (r0:Int)
 (KS:Hid (∀ (W:World),Calls Tryz.prog 15 #[.string s0,.agg #[.int .i64 wm1,.bool wb1,.int .i64 wt1]] W fun e w'=>e=.returned (.int .i64 r0)∧Below W.heap.size W w'))
 (KI:Hid (∀ (W:World),Calls Tryz.prog 16 #[.string s0,.agg #[.int .i64 wm1,.bool wb1,.int .i64 wt1]] W fun e w'=>e=.returned (.int .i64 r0)∧Below W.heap.size W w')) :
 Calls Tryz.prog 5 #[.string s0,.agg #[.int .i64 wm1,.bool wb1,.int .i64 wt1]] w fun e w'=>e=.returned (.bool true)∧Below w.heap.size w w':=by
 have hg0:¬ (1048576:Int)<(s0.size:Int):=by omega
 go_enter Tryz.func5,Tryz.ntmps5
 obtain ⟨N1,hN1⟩:∃ N,N=(w.alloc (.cells #[.int .i64 wm1,.bool wb1,.int .i64 wt1] 23)):=⟨_,rfl⟩
 have hb1_:Below w.heap.size w N1:=by rw [hN1];exact (Below.refl _ _).alloc (Nat.le_refl _) _
 have HA:Hid (Has N1 w.heap.size 23 #[.int .i64 wm1,.bool wb1,.int .i64 wt1]):=Qa (by rw [hN1];exact Has.fresh _ _ _)
 have lHA:=HA.out.lt
 have e1_HAa:=HA.out.cell 0
 have e1_HAb:=HA.out.cell 1
 have e1_HAc:=HA.out.cell 2
 simp at e1_HAa e1_HAb e1_HAc
 go_wp2_with fail
 rw [←hN1]
 refine (AKx wm1 wb1 wt1 N1).mono ?_
 rintro e W2 ⟨rfl,b2⟩
 clear e1_HAa e1_HAb e1_HAc hN1
 have B2:Below w.heap.size w W2:=Qc b2 hb1_.size hb1_
 have sB2:=b2.size
 have HA_2:=Qa (HA.out.below b2 HA.out.lt)
 clear HA
 clear b2
 go_wp2_with fail
 refine (KS.out W2  ).mono ?_
 rintro e W3 ⟨rfl,b3⟩
 have B3:Below w.heap.size w W3:=Qc b3 B2.size B2
 have sB3:=b3.size
 have HA_3:=Qa (HA_2.out.below b3 HA_2.out.lt)
 clear HA_2
 clear b3
 have e3_HAa:=HA_3.out.cell 0
 have e3_HAb:=HA_3.out.cell 1
 have e3_HAc:=HA_3.out.cell 2
 simp at e3_HAa e3_HAb e3_HAc
 go_wp2_with fail
 refine (AKx wm1 wb1 wt1 W3).mono ?_
 rintro e W4 ⟨rfl,b4⟩
 clear e3_HAa e3_HAb e3_HAc
 have B4:Below w.heap.size w W4:=Qc b4 B3.size B3
 have sB4:=b4.size
 have HA_4:=Qa (HA_3.out.below b4 HA_3.out.lt)
 clear HA_3
 clear b4
 go_wp2_with fail
 refine (KI.out W4  ).mono ?_
 rintro e W5 ⟨rfl,b5⟩
 have B5:Below w.heap.size w W5:=Qc b5 B4.size B4
 have sB5:=b5.size
 have HA_5:=Qa (HA_4.out.below b5 HA_4.out.lt)
 clear HA_4
 clear b5
 go_wp2
 go_ret
 exact ⟨rfl,B5⟩
theorem VW (hM:VX) (w:World) (s0:ByteArray) (w0:s0.size≤maxLen) (wm1:Int) (wb1:Bool) (wt1:Int) (b1:-9223372036854775808≤wm1) (d1:wm1≤9223372036854775807) (bt1:-9223372036854775808≤wt1) (dt1:wt1≤9223372036854775807) :
 Calls Tryz.prog 5 #[.string s0,.agg #[.int .i64 wm1,.bool wb1,.int .i64 wt1]] w fun e w'=>e=.returned (.bool true)∧Below w.heap.size w w':=by
 by_cases hb0:s0.size≤1048576
 rotate_left
 ·have hx:(1048576:Int)<(s0.size:Int):=by omega
  unfold maxLen at *
  clear hM
  go_enter Tryz.func5,Tryz.ntmps5
  go_wp2
  go_ret
  first | exact ⟨rfl,Below.refl _ _⟩ | exact ⟨rfl,(Below.refl _ _).alloc (Nat.le_refl _) _⟩
 obtain ⟨r0,hs,hi⟩:=hM s0 wm1 wb1 wt1 hb0 b1 d1 bt1 dt1
 exact zn w s0 hb0 wm1 wb1 wt1 b1 d1 bt1 dt1 r0  (Qa hs) (Qa hi)
end Go.Proofs.YtembljihmnmmfaaGreat
