/- Texts of the proof, merged. -/
import Derived.Test.YtembljihmnmmfaaGreatKB22
import Derived.Test.YtembljihmnmmfaaGreatKB2
import Derived.Test.YtembljihmnmmfaaGreatKB12
import Derived.Test.YtembljihmnmmfaaGreatKB16
import Derived.Test.YtembljihmnmmfaaGreatKB33
import Derived.Test.YtembljihmnmmfaaGreatKB23
import Derived.Test.YtembljihmnmmfaaGreatKB34
import Derived.Test.YtembljihmnmmfaaGreatKB6
import Derived.Deep.LoopGhost
import Derived.Test.YtembljihmnmmfaaGreatKB24
namespace Go.Proofs.YtembljihmnmmfaaGreat
set_option maxHeartbeats 4000000
set_option maxRecDepth 100000
set_option linter.unusedVariables false
set_option linter.unusedSimpArgs false
open Go.RowKit
theorem XV (s:ByteArray) (m t:Int) (b:Bool) (w:World) (hs:s.size≤1048576) :
 Calls Tryz.prog 20 #[.string s,.agg #[.int .i64 m,.bool b,.int .i64 t]] w fun e w'=>e=.returned (.string (Qg (ordB (Qb s) b)))∧Byt (ordB (Qb s) b)∧(ordB (Qb s) b).length≤256∧Hid (QO (Qb s) (ordB (Qb s) b)∨ordB (Qb s) b=Qm (Qb s))∧Below w.heap.size w w':=by
 have KU:=Qa (fun W=>Xb s W hs)
 have KC:=Qa (fun W=>vp s W hs)
 have hsz:(w.alloc (.cells #[.int .i64 m,.bool b,.int .i64 t] 26)).heap.size=w.heap.size+1:=by simp
 have ba:Below w.heap.size w (w.alloc (.cells #[.int .i64 m,.bool b,.int .i64 t] 26)):=(Below.refl _ _).alloc (Nat.le_refl _) _
 cases b
 ·rw [zH]
  have h1:=Xk (Qb s)
  have h2:=QK h1 (ZB (Qb s))
  have H:=Qa (And.intro h1 h2)
  clear h1 h2 KC
  go_enter Tryz.func20,Tryz.ntmps20
  go_wp2_with fail
  refine (KU.out _).mono ?_
  rintro e w1 ⟨rfl,b1⟩
  have B1:=Qc b1 ba.size ba
  go_wp2
  go_ret
  exact ⟨rfl,H.out.1,H.out.2,Qa (by first | exact .inr rfl | exact .inr trivial),B1⟩
 ·clear KU
  go_enter Tryz.func20,Tryz.ntmps20
  go_wp2_with fail
  refine (KC.out _).mono ?_
  rintro e w1 ⟨R,hR,rfl,b1⟩
  have hR2:=(jq hR).symm
  subst hR2
  have B1:=Qc b1 ba.size ba
  have h1:=yS (QA s) hR
  have h2:=QK h1 (zu hR)
  have H:=Qa (And.intro h1 h2)
  have HRR:Hid (QO (Qb s) (ordB (Qb s) true)∨ordB (Qb s) true=Qm (Qb s)):=Qa (.inl hR)
  clear hR h1 h2
  go_wp2
  go_ret
  exact ⟨rfl,H.out.1,H.out.2,HRR,B1⟩
theorem Jl (s:ByteArray) (m t:Int) (b:Bool) (w:World) (hs:s.size≤1048576) :
 Calls Tryz.prog 6 #[.string s,.agg #[.int .i64 m,.bool b,.int .i64 t]] w fun e w'=>∃ v,e=.returned v∧w'.ownsRow w.heap.size 3 1 v (stgZ s m b t).length (Qo (stgZ s m b t))∧Below w.heap.size w w':=by
 obtain ⟨i0,hi,hz0,hz1,hz2⟩:=info_parts Tryz.infoInt
 have KO:=Qa (fun W=>XL s W hs)
 have KW:=Qa (fun W=>Ys m t b W)
 have KL:=Qa (fun W=>XP s W hs)
 have KR:=Qa (fun W=>XV s m t b W hs)
 have hsz:(w.alloc (.cells #[.int .i64 m,.bool b,.int .i64 t] 26)).heap.size=w.heap.size+1:=by simp
 have ba:Below w.heap.size w (w.alloc (.cells #[.int .i64 m,.bool b,.int .i64 t] 26)):=(Below.refl _ _).alloc (Nat.le_refl _) _
 have hWb:=Has.fresh w 26 #[.int .i64 m,.bool b,.int .i64 t]
 by_cases h6:0<s.size∧s.size≤600
 ·by_cases hw:QH m b t=true
  ·obtain ⟨O,hO⟩:∃ O,ordB (Qb s) b=O:=⟨_,rfl⟩
   have hst:stgZ s m b t=stgR (rkS s O) m (O.length:Int):=by unfold stgZ;rw [if_pos ⟨h6.1,h6.2,hw⟩,hO]
   rw [hst]
   rw [hO] at KR
   rw [hw] at KW
   rw [decide_eq_true h6] at KO
   obtain ⟨n,hn⟩:∃ n,O.length=n:=⟨_,rfl⟩
   obtain ⟨R,hR⟩:∃ R,rkS s O=R:=⟨_,rfl⟩
   rw [hR,hn]
   have hm:=AJe hw
   have KT:Hid (∀ W,Byt O→O.length≤256→Calls Tryz.prog 21 #[.string (lstZ s),.string (Qg O)] W fun e w'=>∃ v b,e=.returned (.tuple #[v,.bool b])∧w'.ownsRow W.heap.size 3 1 v (rkS s O).length (Qo (rkS s O))∧Below W.heap.size W w'):=Qa (fun W h1 h2=>by
    have h:=yP (lstZ s) (Qg O) W (by have:=xr s;omega) (by rw [QB];omega)
    rw [QI h1] at h
    exact h.mono fun e w' ⟨v,hh⟩=>⟨v,_,hh⟩)
   have HRB:Hid (Byt O→R.length≤600∧∀ x∈R,0≤x∧x≤1000):=Qa (fun h=>by rw [←hR];exact AYf _ _ h)
   have hzO:(Qg O).size=n:=by rw [QB,hn]
   obtain ⟨q,hq⟩:∃ q,R.length=q:=⟨_,rfl⟩
   rw [hR,hq] at KT
   rw [hq] at HRB
   have HQ:=Qa hq
   clear hq
   clear hst hO hw h6 hR
   go_enter Tryz.func6,Tryz.ntmps6
   go_wp2_with fail
   refine (KO.out _).mono ?_
   rintro e w0 ⟨rfl,rfl⟩
   go_wp2_with fail
   refine (KW.out _).mono ?_
   rintro e w1 ⟨rfl,b1⟩
   have B1:=Qc b1 ba.size ba
   have H1:=hWb.below b1 (by simp)
   have s1:=b1.size
   clear KO KW hWb
   go_wp2_with fail
   refine (KL.out _).mono ?_
   rintro e w2 ⟨rfl,b2⟩
   have B2:=Qc b2 B1.size B1
   have H2:=H1.below b2 (by simp at s1;omega)
   have s2:=b2.size
   have c0:=H2.cell 0
   have c1:=H2.cell 1
   have c2:=H2.cell 2
   simp at c0 c1 c2
   clear KL H1
   go_wp2_with fail
   refine (KR.out _).mono ?_
   rintro e w3 ⟨rfl,hB,hO6,_,b3⟩
   have B3:=Qc b3 B2.size B2
   have H3:=H2.below b3 (by simp at s1;omega)
   have s3:=b3.size
   have KT3:=Qa (KT.out w3 hB hO6)
   have hRb:=HRB.out hB
   have hn6:n≤256:=by omega
   clear KR H2 KT hB hn HRB c0 c1 c2
   have c0:=H3.cell 0
   simp at c0
   go_wp2_with fail
   refine KT3.out.mono ?_
   rintro e w4 ⟨v,bb,rfl,hown,b4⟩
   have B4:=Qc b4 B3.size B3
   have s4:=b4.size
   obtain ⟨av,cv,rfl⟩:=Qq hown
   rw [←HQ.out] at hown
   have HI:=Qa (Ints.ofOwn hown (by rw [HQ.out];omega) (fun x hx=>by have:=hRb.2 x hx;omega)).2
   have H4:=H3.below b4 (by simp at s1;omega)
   have c4:=H4.cell 0
   simp at c4
   clear KT3 hown c0 H3
   have KM:=Qa (fun W (h:Ints W w4.heap.size av R) (hB:w4.heap.size≤W.heap.size)=>jb av cv w4.heap.size R (n:Int) W h hB (by rw [HQ.out];omega) (by omega) (by omega))
   have KS:=Qa (fun W (h:Ints W w4.heap.size av R) (hB:w4.heap.size≤W.heap.size)=>AHm av cv w4.heap.size R (n:Int) W h hB (by rw [HQ.out];omega) (by omega) (by omega))
   have KI:=Qa (fun W (h:Ints W w4.heap.size av R) (hB:w4.heap.size≤W.heap.size)=>AJa av cv w4.heap.size R (n:Int) W h hB (by rw [HQ.out];omega) (by omega) (by omega))
   rw [HQ.out] at KM KS KI
   clear hRb
   rcases (by omega:m=0∨m=1∨m=2∨m=3) with rfl | rfl | rfl | rfl
   ·clear KM KS KI
    go_wp2
    go_ret
    exact ⟨_,rfl,by simp [stgR];exact World.ownsRow_nil _ _ _ _,B4⟩
   ·clear KS KI
    go_wp2_with fail
    refine (KM.out _ HI.out (Nat.le_refl _)).mono ?_
    rintro e w5 ⟨v5,rfl,own5,b5⟩
    have hb5:=AEb R (n:Int)
    have e5:stgR R 1 (n:Int)=ZP (mtfZ R (n:Int)) (n:Int):=by simp [stgR]
    obtain ⟨D,hD⟩:∃ D,mtfZ R (n:Int)=D:=⟨_,rfl⟩
    rw [hD] at own5 hb5 e5
    have E5:=Qa e5
    obtain ⟨d,hd⟩:∃ d,D.length=d:=⟨_,rfl⟩
    rw [hd] at own5
    obtain ⟨a5,c5,rfl⟩:=Qq own5
    rw [←hd] at own5
    have HI5:=Qa (Ints.ofOwn own5 (by omega) (fun x hx=>by have:=hb5.2 x hx;omega)).2
    have KP:=Qa (Vo a5 c5 w5.heap.size D (n:Int) w5 HI5.out (Nat.le_refl _) (by omega) (by omega) (by omega))
    have B5:=Qc b5 B4.size B4
    rw [hd] at KP
    clear KM own5 hb5 e5 hD hd
    go_wp2_with fail
    refine KP.out.mono ?_
    rintro e w6 ⟨v6,rfl,own6,b6⟩
    have B6:=Qc b6 B5.size B5
    have H6:=Qa (Joins.ownsRow_le own6 B5.size)
    clear own6 KP
    go_wp2
    go_ret
    rw [E5.out]
    exact ⟨_,rfl,H6.out,B6⟩
   ·clear KM KI
    go_wp2_with fail
    refine (KS.out _ HI.out (Nat.le_refl _)).mono ?_
    rintro e w5 ⟨v5,rfl,own5,b5⟩
    have hb5:=ADy R (n:Int)
    have e5:stgR R 2 (n:Int)=ZP (sbrZ R (n:Int)) (n:Int):=by simp [stgR]
    obtain ⟨D,hD⟩:∃ D,sbrZ R (n:Int)=D:=⟨_,rfl⟩
    rw [hD] at own5 hb5 e5
    have E5:=Qa e5
    obtain ⟨d,hd⟩:∃ d,D.length=d:=⟨_,rfl⟩
    rw [hd] at own5
    obtain ⟨a5,c5,rfl⟩:=Qq own5
    rw [←hd] at own5
    have HI5:=Qa (Ints.ofOwn own5 (by omega) (fun x hx=>by have:=hb5.2 x hx;omega)).2
    have KP:=Qa (Vo a5 c5 w5.heap.size D (n:Int) w5 HI5.out (Nat.le_refl _) (by omega) (by omega) (by omega))
    have B5:=Qc b5 B4.size B4
    rw [hd] at KP
    clear KS own5 hb5 e5 hD hd
    go_wp2_with fail
    refine KP.out.mono ?_
    rintro e w6 ⟨v6,rfl,own6,b6⟩
    have B6:=Qc b6 B5.size B5
    have H6:=Qa (Joins.ownsRow_le own6 B5.size)
    clear own6 KP
    go_wp2
    go_ret
    rw [E5.out]
    exact ⟨_,rfl,H6.out,B6⟩
   ·clear KM KS
    go_wp2_with fail
    refine (KI.out _ HI.out (Nat.le_refl _)).mono ?_
    rintro e w5 ⟨v0,v1,rfl,own5,own5b,hap,b5⟩
    have hb5:=AEe R (n:Int)
    have hb6:=AGw R (n:Int)
    have B5:=Qc b5 B4.size B4
    have s5:=b5.size
    have e5:stgR R 3 (n:Int)=invC R (n:Int)++invG R (n:Int):=by simp [stgR]
    obtain ⟨D,hD⟩:∃ D,invC R (n:Int)=D:=⟨_,rfl⟩
    obtain ⟨G,hG⟩:∃ G,invG R (n:Int)=G:=⟨_,rfl⟩
    rw [hD] at own5 hb5 e5
    rw [hG] at own5b hb6 e5
    have E5:=Qa e5
    clear KI e5 hD hG
    go_wp2_with (at_builtin;refine ZO rfl _ _ 24 rfl w4.heap.size 3 i0 (.int .i64 0) 8 Tryz.underlying24 hi hz0 hz1 hz2 rfl v0 _ _ rfl own5 v1 w4.heap.size G.length (Qo G) rfl own5b ?ce2 ?ce3 ?ce4 ?ce5 ?_)
    case ce2=>exact fun u hu=>by unfold Qo at hu;obtain ⟨x,_,rfl⟩:=List.mem_map.1 hu;rfl
    case ce3=>unfold maxLen;omega
    case ce4=>omega
    case ce5=>omega
    intro v6 w6 own6 hgrow _
    have b6:Below w4.heap.size w4 w6:=b5.grown hgrow s5 (fun k hk=>(own5.lt k hk).1)
    have H6:Hid (w6.ownsRow w.heap.size 3 1 v6 (D++G).length (Qo (D++G))):=Qa (by
     have h:=Joins.ownsRow_le own6 B4.size
     rw [List.length_append,show Qo (D++G)=Qo D++Qo G by simp [Qo]]
     exact h)
    have B6:=Qc b6 B4.size B4
    clear own6 own5 own5b hgrow
    go_wp2
    go_ret
    rw [E5.out]
    exact ⟨_,rfl,H6.out,B6⟩
  ·have hst:stgZ s m b t=[]:=by unfold stgZ;rw [if_neg (fun h=>hw h.2.2)]
   rw [hst]
   rw [show QH m b t=false by simpa using hw] at KW
   rw [decide_eq_true h6] at KO
   clear hst hw h6 KL KR
   go_enter Tryz.func6,Tryz.ntmps6
   go_wp2_with fail
   refine (KO.out _).mono ?_
   rintro e w0 ⟨rfl,rfl⟩
   go_wp2_with fail
   refine (KW.out _).mono ?_
   rintro e w1 ⟨rfl,b1⟩
   have B1:=Qc b1 ba.size ba
   go_wp2
   go_ret
   exact ⟨_,rfl,World.ownsRow_nil _ _ _ _,B1⟩
 ·have hst:stgZ s m b t=[]:=by unfold stgZ;rw [if_neg (fun h=>h6 ⟨h.1,h.2.1⟩)]
  rw [hst]
  rw [decide_eq_false h6] at KO
  clear hst h6 KL KR KW
  go_enter Tryz.func6,Tryz.ntmps6
  go_wp2_with fail
  refine (KO.out _).mono ?_
  rintro e w0 ⟨rfl,rfl⟩
  go_wp2
  go_ret
  exact ⟨_,rfl,World.ownsRow_nil _ _ _ _,ba⟩
def b8F (l:List Nat):Nat→List Nat
 | 0=>[]
 | i+1=>b8F l i++Qh (l.getD i 0) 8
theorem AAd (l:List Nat):∀ i,(b8F l i).length=8*i
 | 0=>rfl
 | i+1=>by
   show (b8F l i++Qh (l.getD i 0) 8).length=_
   rw [List.length_append,AAd l i,Qt]
   omega
def bkOk (s:ByteArray) (m:Int) (b:Bool) (t:Int):Bool:=decide (0<s.size∧s.size≤600) && QH m b t
theorem AEk (s:ByteArray) (m:Int) (b:Bool) (t:Int):bkOk s m b t=true↔(0<s.size∧s.size≤600)∧QH m b t=true:=by
 unfold bkOk;rw [Bool.and_eq_true,decide_eq_true_eq]
theorem ym (s:ByteArray) (m t:Int) (b:Bool) (w:World) (hs:s.size≤1048576) (h:bkOk s m b t=false) :
 Calls Tryz.prog 15 #[.string s,.agg #[.int .i64 m,.bool b,.int .i64 t]] w fun e w'=>e=.returned (.int .i64 (-1))∧Below w.heap.size w w':=by
 have KO:=Qa (fun W=>XL s W hs)
 have KW:=Qa (fun W=>Ys m t b W)
 have ba:Below w.heap.size w (w.alloc (.cells #[.int .i64 m,.bool b,.int .i64 t] 26)):=(Below.refl _ _).alloc (Nat.le_refl _) _
 have hWb:Has (w.alloc (.cells #[.int .i64 m,.bool b,.int .i64 t] 26)) w.heap.size 26 #[.int .i64 m,.bool b,.int .i64 t]:=Has.fresh _ _ _
 have c0:=hWb.cell 0
 have c1:=hWb.cell 1
 have c2:=hWb.cell 2
 simp at c0 c1 c2
 by_cases h6:0<s.size∧s.size≤600
 ·have hw:QH m b t=false:=by unfold bkOk at h;rw [decide_eq_true h6,Bool.true_and] at h;exact h
  rw [hw] at KW
  rw [decide_eq_true h6] at KO
  clear hw h6 h
  go_enter Tryz.func15,Tryz.ntmps15
  go_wp2_with fail
  refine (KO.out _).mono ?_
  rintro e w0 ⟨rfl,rfl⟩
  go_wp2_with fail
  refine (KW.out _).mono ?_
  rintro e w1 ⟨rfl,b1⟩
  have B1:=Qc b1 ba.size ba
  go_wp2
  go_ret
  exact ⟨rfl,B1⟩
 ·rw [decide_eq_false h6] at KO
  clear h6 h KW
  go_enter Tryz.func15,Tryz.ntmps15
  go_wp2_with fail
  refine (KO.out _).mono ?_
  rintro e w0 ⟨rfl,rfl⟩
  go_wp2
  go_ret
  exact ⟨rfl,ba⟩
theorem ARx {w:World} {base size n c:Nat} {e:TypeId} {a:Option Addr} {xs:List Value} (h:w.ownsRow base e size (.slice a n c) n xs):w.ownsRow base e size (.slice a 0 c) 0 []:=by
 refine ⟨by simp,?_⟩
 rcases h.2 with ⟨hv,h0⟩ | ⟨g,cap,cur,hv,hb,hg,hle,hm,hc,ht⟩
 ·injection hv with h1 h2 h3
  subst h1 h3
  exact .inl ⟨rfl,rfl⟩
 ·injection hv with h1 h2 h3
  subst h1 h3
  exact .inr ⟨g,c,cur,rfl,hb,hg,Nat.zero_le _,hm,hc,by simp⟩
theorem AVk (n:Nat) (w:World) (hn:n≤100000) :
 Calls Tryz.prog 103 #[.slice none 0 0,.int .i64 n] w fun e w'=>∃ v,e=.returned v∧w'.ownsRow w.heap.size 3 1 v 0 []∧Below w.heap.size w w':=by
 obtain ⟨i0,hi,hz0,hz1,hz2⟩:=info_parts Tryz.infoInt
 have h0:¬ (n:Int)<0:=by omega
 by_cases hn0:n=0
 ·subst hn0
  clear h0
  go_enter Tryz.func103,Tryz.ntmps103
  go_wp2
  go_ret
  exact ⟨_,rfl,World.ownsRow_nil _ _ _ _,Below.refl _ _⟩
 ·have hpos:(0:Int)<n:=by omega
  go_enter Tryz.func103,Tryz.ntmps103
  go_wp2_with (at_builtin;refine zm rfl _ _ 24 3 rfl w.heap.size 3 i0 (.int .i64 0) .i64 8 Tryz.underlying24 Tryz.underlying3 hi hz0 hz1 hz2 rfl rfl (.slice none 0 0) 0 [] rfl (World.ownsRow_nil _ _ _ _) n ?c0 (by omega) ?c1 ?c2 ?c3 ?_)
  case c1=>unfold maxLen;omega
  case c2=>omega
  intro v' w1 hown hgrow _
  have b1:=ZQ (w:=w) (w1:=w1) hgrow
  obtain ⟨g,c,rfl⟩:=Joins.ownsRow_form hown (by omega)
  have hc:=Xu hown
  have HE:=Qa (ARx hown)
  have hc0:(0:Int)≤(c:Int):=by omega
  clear hown hgrow
  go_wp2
  go_ret
  exact ⟨_,rfl,HE.out,b1⟩
theorem AJc (b z0 z1 b0 b1':Nat) (v0 v1:Value) (D G:List Int) (T:TypeId) (w:World) (hS:Has w b T #[v0,v1]) (h0:w.ownsRow b0 3 1 v0 z0 (Qo D)) (h1:w.ownsRow b1' 3 1 v1 z1 (Qo G)) (hz0:z0≤10000) (hz1':z1≤10000) :
 Calls Tryz.prog 63 #[.slice (some ⟨b,0,none⟩) 2 2] w fun e w'=>∃ v,e=.returned v∧w'.ownsRow w.heap.size 3 1 v (z0+z1) (Qo (D++G))∧Below w.heap.size w w':=by
 obtain ⟨i0,hi,hzz0,hzz1,hzz2⟩:=info_parts Tryz.infoInt
 have KG:=Qa (fun W=>AVk (z0+z1) W (by omega))
 obtain ⟨a0,c0,rfl⟩:=Qq h0
 obtain ⟨a1,c1,rfl⟩:=Qq h1
 have H0:=Qa h0
 have H1:=Qa h1
 have HS:=Qa hS
 have HL0:Hid (∀ g,(Value.slice a0 z0 c0).ownBlock=some g→g<w.heap.size):=Qa (fun g hg=>(h0.lt g hg).2)
 have HL1:Hid (∀ g,(Value.slice a1 z1 c1).ownBlock=some g→g<w.heap.size):=Qa (fun g hg=>(h1.lt g hg).2)
 have hbl:=hS.lt
 have d0:=hS.cell 0
 have d1:=hS.cell 1
 simp at d0 d1
 clear h0 h1 hS
 go_enter Tryz.func63,Tryz.ntmps63
 go_wp2
 go_loopw [3,5,11] (fun sz _ si wr=>∃ (i q:Nat),i≤2∧si=.int .i64 i∧sz=.int .i64 q∧Hid ((i=0∧q=0)∨(i=1∧q=z0)∨(i=2∧q=z0+z1))∧w=wr) (fun _ _ si _=>2-(intOf si).toNat)
 case atStart=>exact ⟨0,0,by omega,rfl,rfl,Qa (.inl ⟨rfl,rfl⟩),rfl⟩
 case round =>
  obtain ⟨i,q,hi2,rfl,rfl,HQ,rfl⟩:=hrel
  rcases HQ.out with ⟨rfl,rfl⟩ | ⟨rfl,rfl⟩ | ⟨rfl,rfl⟩
  ·clear HQ
   have hn:¬ (z0:Int)<0:=by omega
   go_wp2
   go_roundw
   case rel=>exact ⟨1,z0,by omega,by go_num,by go_num,Qa (.inr (.inl ⟨rfl,rfl⟩)),by first | rfl | trivial⟩
   case measure=>simp [intOf]
  ·clear HQ
   have hn:¬ (q:Int)+(z1:Int)<0:=by omega
   go_wp2
   go_roundw
   case rel=>exact ⟨2,q+z1,by omega,by go_num,by go_num,Qa (.inr (.inr ⟨rfl,rfl⟩)),by first | rfl | trivial⟩
   case measure=>simp [intOf]
  ·clear HQ
   clear d0 d1
   go_wp2_with fail
   refine (KG.out _).mono ?_
   rintro e w2 ⟨v2,rfl,o2,b2⟩
   have s2:=b2.size
   have HO2:=Qa o2
   have H02:=Qa (Ql H0.out b2)
   have H12:=Qa (Ql H1.out b2)
   have HS2:=HS.out.below b2 hbl
   have d0:=HS2.cell 0
   have d1:=HS2.cell 1
   simp at d0 d1
   have hb2:=b2
   clear o2 b2 HS H0 H1 KG
   go_wp2
   go_loopw [6,8,27] (fun vo _ si wr=>∃ (i q:Nat) (Y:List Int),i≤2∧si=.int .i64 i∧Hid ((i=0∧q=0∧Y=[])∨(i=1∧z0=q∧D=Y)∨(i=2∧z0+z1=q∧D++G=Y))∧wr.ownsRow w.heap.size 3 1 vo q (Qo Y)∧Hid (wr.ownsRow b0 3 1 (.slice a0 z0 c0) z0 (Qo D))∧Hid (wr.ownsRow b1' 3 1 (.slice a1 z1 c1) z1 (Qo G))∧Hid (Has wr b T #[.slice a0 z0 c0,.slice a1 z1 c1])∧Below w.heap.size w wr) (fun _ _ si _=>2-(intOf si).toNat)
   case atStart=>exact ⟨0,0,[],by omega,rfl,Qa (.inl ⟨rfl,rfl,rfl⟩),HO2.out,H02,H12,Qa HS2,hb2⟩
   case round =>
    clear HO2 H02 H12 HS2 hb2 d0 d1
    obtain ⟨i,q,Y,hi2,rfl,HQ,hown,H0r,H1r,HSr,hbl2⟩:=hrel
    have sr:=hbl2.size
    have HO:=Qa hown
    have HBL:=Qa hbl2
    clear hown hbl2
    have d0:=HSr.out.cell 0
    have d1:=HSr.out.cell 1
    simp at d0 d1
    rcases HQ.out with ⟨rfl,rfl,rfl⟩ | ⟨rfl,rfl,rfl⟩ | ⟨rfl,rfl,rfl⟩
    ·clear HQ
     go_wp2_with (at_builtin;refine ZO rfl _ _ 24 rfl w.heap.size 3 i0 (.int .i64 0) 8 Tryz.underlying24 hi hzz0 hzz1 hzz2 rfl _ _ _ rfl HO.out (.slice a0 z0 c0) _ z0 (Qo D) rfl H0r.out ?c02 ?c03 ?c04 ?c05 ?_)
     case c02=>exact fun u hu=>by unfold Qo at hu;obtain ⟨x,_,rfl⟩:=List.mem_map.1 hu;rfl
     case c03=>unfold maxLen;omega
     case c04=>omega
     case c05=>exact sr
     intro v5 w5 own5 hgrow _
     have h05:=Qa (Xo H0r.out hgrow (fun g hg e=>by have:=HL0.out g hg;have:=(HO.out.lt g e).1;omega))
     have h15:=Qa (Xo H1r.out hgrow (fun g hg e=>by have:=HL1.out g hg;have:=(HO.out.lt g e).1;omega))
     have hS5:=Qa (HSr.out.grown hgrow (by intro e;have:=(HO.out.lt _ e.symm).1;omega))
     have hb5:=Qa (HBL.out.grown hgrow sr (fun g hg=>(HO.out.lt g hg).1))
     have hO5:Hid (w5.ownsRow w.heap.size 3 1 v5 (z0) (Qo (D))):=Qa (by have h:=own5;simpa [Qo] using h)
     clear own5 hgrow HO HBL d0 d1
     go_wp2
     go_roundw
     case rel=>exact ⟨1,z0,D,by omega,by go_num,Qa (.inr (.inl ⟨rfl,rfl,rfl⟩)),hO5.out,h05,h15,hS5,hb5.out⟩
     case measure=>simp [intOf]
    ·clear HQ
     go_wp2_with (at_builtin;refine ZO rfl _ _ 24 rfl w.heap.size 3 i0 (.int .i64 0) 8 Tryz.underlying24 hi hzz0 hzz1 hzz2 rfl _ _ _ rfl HO.out (.slice a1 z1 c1) _ z1 (Qo G) rfl H1r.out ?c12 ?c13 ?c14 ?c15 ?_)
     case c12=>exact fun u hu=>by unfold Qo at hu;obtain ⟨x,_,rfl⟩:=List.mem_map.1 hu;rfl
     case c13=>unfold maxLen;omega
     case c14=>omega
     case c15=>exact sr
     intro v5 w5 own5 hgrow _
     have h05:=Qa (Xo H0r.out hgrow (fun g hg e=>by have:=HL0.out g hg;have:=(HO.out.lt g e).1;omega))
     have h15:=Qa (Xo H1r.out hgrow (fun g hg e=>by have:=HL1.out g hg;have:=(HO.out.lt g e).1;omega))
     have hS5:=Qa (HSr.out.grown hgrow (by intro e;have:=(HO.out.lt _ e.symm).1;omega))
     have hb5:=Qa (HBL.out.grown hgrow sr (fun g hg=>(HO.out.lt g hg).1))
     have hO5:Hid (w5.ownsRow w.heap.size 3 1 v5 (z0+z1) (Qo (D++G))):=Qa (by have h:=own5;rw [show Qo (D++G)=Qo D++Qo G by simp [Qo]];exact h)
     clear own5 hgrow HO HBL d0 d1
     go_wp2
     go_roundw
     case rel=>exact ⟨2,z0+z1,D++G,by omega,by go_num,Qa (.inr (.inr ⟨rfl,rfl,rfl⟩)),hO5.out,h05,h15,hS5,hb5.out⟩
     case measure=>simp [intOf]
    ·clear HQ
     go_wp2
     go_ret
     exact ⟨_,rfl,HO.out,HBL.out⟩
end Go.Proofs.YtembljihmnmmfaaGreat
