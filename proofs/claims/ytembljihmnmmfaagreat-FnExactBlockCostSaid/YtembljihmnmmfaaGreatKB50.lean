/- Texts of the proof, merged. -/
import Derived.Test.YtembljihmnmmfaaGreatKB43
import Derived.Test.YtembljihmnmmfaaGreatKB10
import Derived.Test.YtembljihmnmmfaaGreatKB12
set_option maxHeartbeats 4000000
set_option maxRecDepth 100000
namespace Go.Proofs.YtembljihmnmmfaaGreat
set_option linter.unusedVariables false
set_option linter.unusedSimpArgs false
open Go.RowKit Go.Maps
theorem AXc (l L M:List Nat) (hL:L.Pairwise (befC l)) (hM:M.Pairwise (befC l)) (h:∀ x∈L,∀ y∈M,x<y):(mrg (ltC fun b=>l.count b) L M).Pairwise (befC l):=by
 induction L,M using mrg.induct (lt:=ltC fun b=>l.count b) with
 | case1 M=>rw [YL];exact hM
 | case2 x L=>rw [Vr];exact hL
 | case3 x L y M hc ih =>
   rw [mrg,if_pos hc]
   have hM':=List.pairwise_cons.1 hM
   refine List.pairwise_cons.2 ⟨fun z hz=>?_,ih hL hM'.2 (fun a ha b hb=>h a ha b (List.mem_cons_of_mem _ hb))⟩
   rcases List.mem_append.1 ((Vj _ _ _).mem_iff.1 hz) with hz | hz
   ·have hy:l.count x<l.count y:=by simpa [ltC] using hc
    rcases List.mem_cons.1 hz with rfl | hz
    ·exact .inl hy
    ·rcases (List.pairwise_cons.1 hL).1 z hz with h1 | h1 <;> exact .inl (by omega)
   ·exact hM'.1 z hz
 | case4 x L y M hc ih =>
   rw [mrg,if_neg hc]
   have hL':=List.pairwise_cons.1 hL
   refine List.pairwise_cons.2 ⟨fun z hz=>?_,ih hL'.2 hM (fun a ha b hb=>h a (List.mem_cons_of_mem _ ha) b hb)⟩
   rcases List.mem_append.1 ((Vj _ _ _).mem_iff.1 hz) with hz | hz
   ·exact hL'.1 z hz
   ·have hx:l.count y≤l.count x:=by simpa [ltC] using hc
    have hs:=h x (by simp) z hz
    rcases List.mem_cons.1 hz with rfl | hz
    ·rcases Nat.lt_or_ge (l.count z) (l.count x) with h1 | h1
     ·exact .inl h1
     ·exact .inr ⟨by omega,hs⟩
    ·rcases (List.pairwise_cons.1 hM).1 z hz with h1 | h1
     ·exact .inl (by omega)
     ·rcases Nat.lt_or_ge (l.count z) (l.count x) with h2 | h2
      ·exact .inl h2
      ·exact .inr ⟨by omega,hs⟩
theorem AYy (l L:List Nat) (h:L.Pairwise (·<·)):(srt (ltC fun b=>l.count b) L).Pairwise (befC l):=by
 induction L using srt.induct with
 | case1 L h2 =>
   rw [Yn _ L h2]
   match L,h2 with
   | [],_=>exact List.Pairwise.nil
   | [x],_=>exact List.pairwise_singleton _ _
 | case2 L h2 ih1 ih2 =>
   rw [qu _ L h2]
   rw [←List.take_append_drop (L.length / 2) L,List.pairwise_append] at h
   refine AXc l _ _ (ih1 h.1) (ih2 h.2.1) ?_
   intro x hx y hy
   exact h.2.2 x ((XI _ _).mem_iff.1 hx) y ((XI _ _).mem_iff.1 hy)
theorem AAj (l:List Nat):pos8 (fun b=>l.count b)=Qm l:=rfl
theorem AMo {l:List Nat} (hb:Byt l):QO l (srt (ltC fun b=>l.count b) (Qm l)) :=
 ⟨AYy l _ (ZL l),fun b=>by rw [(XI _ _).mem_iff,ZN hb]⟩
theorem YS (s:ByteArray) (w:World) (hs:s.size≤1048576) :
 Calls Tryz.prog 61 #[.string s] w fun e w'=>e=.returned (.string (Qg (Qm (Qb s))))∧Below w.heap.size w w':=by
 have K:=Qa (JF s w hs)
 rw [←AAj]
 generalize (fun b=>(Qb s).count b)=f at K ⊢
 go_enter Tryz.func61,Tryz.ntmps61
 go_wp2_with (fail)
 refine (K.out).mono ?_
 rintro e w1 ⟨rfl,hC,b1⟩
 go_wp2_with (fail)
 refine (zi _ _ f w1 hC).mono ?_
 rintro e w2 ⟨v,rfl,hrow,b2⟩
 have hrun:=JR hrow
 have hb:=Qa (b1.trans (b2.mono b1.size))
 clear hrow b1 b2 hC K
 go_wp2
 go_ret
 exact ⟨rfl,hb.out⟩
theorem vq (s:ByteArray) (w:World) (hs:s.size≤1048576) :
 Calls Tryz.prog 62 #[.string s] w fun e w'=>∃ R,QO (Qb s) R∧e=.returned (.string (Qg R))∧Below w.heap.size w w':=by
 have K:=Qa (JF s w hs)
 have HR:=Qa (AMo (QA s))
 have HB:Hid (Byt (Qm (Qb s))):=Qa (fun b hb=>by
  unfold Qm QV at hb
  rw [List.mem_filter,List.mem_range] at hb
  exact hb.1)
 have HL:=Qa (xo (Qb s))
 have hcd:=AKa (fun b=>(Qb s).count b)
 rw [←AAj] at HR HB HL
 generalize (fun b=>(Qb s).count b)=f at K HR HB HL hcd
 obtain ⟨m,hm⟩:∃ m,(pos8 f).length=m:=⟨_,rfl⟩
 rw [hm] at HL
 have hm256:m≤256:=by rw [←HL.out];exact hcd
 have HM:=Qa hm
 clear hm hcd
 go_enter Tryz.func62,Tryz.ntmps62
 go_wp2_with (fail)
 refine (K.out).mono ?_
 rintro e w1 ⟨rfl,hC,b1⟩
 go_wp2_with (fail)
 refine (zi _ _ f w1 hC).mono ?_
 rintro e w2 ⟨v,rfl,hrow,b2⟩
 have hC2:=hC.below b2
 rw [HM.out] at hrow
 obtain ⟨a,c,rfl,hc1,hc2⟩:=zW hrow
 have hz:=Lies.own hrow
 have K2:=Qa (AIn w.heap.size s.size f m a c w2.heap.size (pos8 f) w2 hC2 HB.out HM.out hz (Nat.le_refl _) hc1 hc2 (by omega))
 have hb:=Qa (b1.trans (b2.mono b1.size))
 clear hrow hz hC hC2 hc1 hc2
 go_wp2_with (fail)
 refine (K2.out).mono ?_
 rintro e w3 ⟨v3,rfl,hrow3,b3⟩
 have hrun:=JR hrow3
 have hb3:=Qa (hb.out.trans (b3.mono hb.out.size))
 clear hrow3 b3 K2 b1 b2
 go_wp2
 go_ret
 exact ⟨_,HR.out,rfl,hb3.out⟩
end Go.Proofs.YtembljihmnmmfaaGreat
namespace Go.Proofs.YtembljihmnmmfaaGreat
set_option linter.unusedVariables false
set_option linter.unusedSimpArgs false
open Go.RowKit
theorem ANb (s:ByteArray) (w:World) (hs:s.size≤1048576) :
 Calls Tryz.prog 117 #[.string s] w fun e w'=>e=.returned (.bool (JK (Qb s)))∧Below w.heap.size w w':=by
 have K:=Qa (fun W:World=>YS s W hs)
 have HS:=Qa (ARh s)
 obtain ⟨o,ho⟩:∃ o,JK (Qb s)=o:=⟨_,rfl⟩
 obtain ⟨u,hu⟩:∃ u,Qg (Qm (Qb s))=u:=⟨_,rfl⟩
 rw [ho,hu] at HS
 rw [hu] at K
 rw [ho]
 by_cases h0:0<s.size
 ·have hne:=jr h0
  clear ho hu
  by_cases he:u=s
  ·subst he
   have HO:Hid (o=true):=Qa (HS.out.2 ⟨h0,rfl⟩)
   go_enter Tryz.func117,Tryz.ntmps117
   go_wp2_with fail
   refine (K.out _).mono ?_
   rintro e w1 ⟨rfl,b1⟩
   go_wp2
   go_ret
   exact ⟨Qk (by rw [HO.out]),b1⟩
  ·have HO:Hid (o=false):=Qa (by
    cases o
    ·rfl
    ·exact absurd (HS.out.1 rfl).2 he)
   have hbe:=AMw (fun e=>he e.symm)
   go_enter Tryz.func117,Tryz.ntmps117
   go_wp2_with fail
   refine (K.out _).mono ?_
   rintro e w1 ⟨rfl,b1⟩
   go_wp2
   go_ret
   exact ⟨Qk (by rw [HO.out]),b1⟩
 ·have HO:Hid (o=false):=Qa (by
   cases o
   ·rfl
   ·exact absurd (HS.out.1 rfl).1 h0)
  clear hu ho
  obtain rfl:=AEs h0
  go_enter Tryz.func117,Tryz.ntmps117
  go_wp2
  go_ret
  exact ⟨Qk (by rw [HO.out]),Below.refl _ _⟩
end Go.Proofs.YtembljihmnmmfaaGreat
