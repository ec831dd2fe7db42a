/- Texts of the proof, merged. -/
import Derived.Test.YtembljihmnmmfaaGreatKB49
import Derived.Test.YtembljihmnmmfaaGreatKB52
import Derived.Test.YtembljihmnmmfaaGreatKB15
import Derived.Test.YtembljihmnmmfaaGreatKB18
import Derived.Test.YtembljihmnmmfaaGreatKB38
import Derived.Test.YtembljihmnmmfaaGreatKB53
namespace Go.Proofs.YtembljihmnmmfaaGreat
set_option maxHeartbeats 4000000
set_option maxRecDepth 100000
set_option linter.unusedVariables false
set_option linter.unusedSimpArgs false
open Go.RowKit
theorem Qx {B:Nat} {a b c:World} (h:Below B a b) (k:Below b.heap.size b c) (hB:B≤b.heap.size):Below B a c:=h.trans (k.mono hB)
theorem QG.belowK {g:Nat} {a w w':World} (h:QG g a w) (hb:Below w.heap.size w w'):QG g a w':=fun b o h1 h2 h3=>(hb.block b (Js (h b o h1 h2 h3))).trans (h b o h1 h2 h3)
theorem QG.own {g n base:Nat} {e:TypeId} {v:Value} {xs:List Value} {w w':World} (h:QG g w w') (he:e≠5∧e≠102) (hg:∃ cs,Has w g 102 cs) (ho:w.ownsRow base e 1 v n xs):w'.ownsRow base e 1 v n xs:=by
 refine ⟨ho.1,ho.2.imp id ?_⟩
 rintro ⟨k,cap,cur,rfl,hb,hc,hr⟩
 refine ⟨k,cap,cur,rfl,hb,h k _ ?_ ?_ hc,hr⟩
 ·rintro rfl
  obtain ⟨cs,hcs⟩:=hg
  unfold Has at hcs
  rw [hcs] at hc
  injection hc with hc
  injection hc with _ h2 _
  exact he.2 h2.symm
 ·intro cs fr e2
  injection e2 with _ h2 _
  exact he.1 h2
theorem Qp.has {w:World} {base g:Nat} {l:List Nat} (h:Qp w base g l):∃ cs,Has w g 102 cs:=by
 obtain ⟨v,D,hB,_⟩:=h
 exact ⟨_,hB⟩
def wrT (b:Bool) (U O:List Nat):List Nat:=if b=true then 1::putO U O else [0]
theorem ARy (U O:List Nat):wrT false U O=[0]:=rfl
theorem ASw (U O:List Nat):wrT true U O=1::putO U O:=rfl
theorem Jy (s:ByteArray) (n:Int) (b:Bool) (w:World) :
 Calls Tryz.prog 39 #[.agg #[.string s,.int .i64 n],.bool b] w fun e w'=>e=.returned (.agg #[.string s,.int .i64 n])∧Below w.heap.size w w':=by
 go_enter Tryz.func39,Tryz.ntmps39
 go_wp2
 refine bodyPost_ret (v:=.agg #[.string s,.int .i64 n]) (by simp [results,Tryz.results39,go_sem]) rfl ⟨rfl,?_⟩
 exact ((Below.refl _ _).alloc (Nat.le_refl _) _).alloc (by simp) _
theorem ANc (a:Option Addr) (cap b0 x0 z g base:Nat) (Z:List Int) (X:List Nat) (w:World) (hI:w.ownsRow b0 3 1 (.slice a z cap) z (Qo Z)) (hZ:Z.length=z) (hz:z≤900) (hZ2:∀ x∈Z,0≤x∧x≤1000) (hW:Qp w base g X) (hgb:base≤g) (hbs:base≤w.heap.size) (hX:X.length=x0) (hx0:x0≤100000) :
 Calls Tryz.prog 43 #[.pointer (some ⟨g,0,none⟩),.slice a z cap] w fun e w'=>e=.returned (.tuple #[])∧Qp w' base g (X++Zd Z z)∧Below base w w'∧QG g w w':=by
 have HS0:=Qa hI
 have HZZ:=Qa hZ
 have HZ2:=Qa hZ2
 have HGS:Hid (∀ i,Zd Z (i+1)=Zd Z i++gamL ((Z.getD i 0).toNat+1)):=Qa (fun i=>rfl)
 have HX:=Qa hX
 have HW0:=Qa hW
 clear hI hZ hZ2 hX hW
 go_enter Tryz.func43,Tryz.ntmps43
 go_wp2
 go_loopw [5,8] (fun _ si wr=>∃ (i q:Nat) (Y:List Nat),i≤z∧si=.int .i64 i∧Hid (Y=X++Zd Z i)∧Hid (Y.length=q)∧q≤x0+40*i∧Hid (Qp wr base g Y)∧Hid (wr.ownsRow b0 3 1 (.slice a z cap) z (Qo Z))∧Below base w wr∧Hid (QG g w wr)∧base≤wr.heap.size) (fun _ si _=>z-(intOf si).toNat)
 case atStart=>exact ⟨0,x0,X,Nat.zero_le _,rfl,Qa (by simp [Zd]),HX,by omega,HW0,HS0,Below.refl _ _,Qa (QG.refl _ _),hbs⟩
 case round =>
  obtain ⟨i,q,Y,hi2,rfl,HY,HYl,hq,HW,HSr,hbl,HK,hsr⟩:=hrel
  by_cases hlt:i<z
  ·obtain ⟨gS,cS2,hgS⟩:=Joins.ownsRow_form HSr.out (by omega)
   simp only [Value.slice.injEq] at hgS
   obtain ⟨rfl,_,rfl⟩:=hgS
   have d0:=HSr.out.cellAt i (by omega)
   rw [Xv Z i (by rw [HZZ.out];exact hlt)] at d0
   have hy:=HZ2.out _ (XA (by rw [HZZ.out];exact hlt:i<Z.length))
   obtain ⟨y,hye⟩:∃ y:Nat,Z.getD i 0=(y:Int):=⟨(Z.getD i 0).toNat,by omega⟩
   have hgs:=HGS.out i
   rw [hye] at d0 hy hgs
   rw [Int.toNat_natCast] at hgs
   have K:=Qa (fun W=>ZI (y+1) W (by omega) (by omega))
   rw [show ((y+1:Nat):Int)=(y:Int)+1 by omega] at K
   have hl40:=QY (n:=y+1) (by omega) (by omega)
   obtain ⟨gl,hgl⟩:∃ gl,(gamL (y+1)).length=gl:=⟨_,rfl⟩
   rw [hgl] at K hl40
   have HGX:=Qa hgs
   have HGL:=Qa hgl
   have HBL:=Qa hbl
   clear hgs hye hgl hbl
   go_wp2_with fail
   refine (K.out _).mono ?_
   rintro e w3 ⟨D,hD,rfl,b3⟩
   have hpk:=ZZ hD (by rw [HGL.out];omega)
   rw [HGL.out] at hpk
   have s3:=b3.size
   have HW3:=HW.out.below b3
   have HS3:=Qa (Ql HSr.out b3)
   have HHB:=Qa HW3.has
   have KJ:=Qa (ZH g base _ (Qg D) gl w3 HW3 hgb (by omega) hpk.1 (by rw [HYl.out];omega))
   rw [hpk.2] at KJ
   have HBL3:=Qa (Qx HBL.out b3 hsr)
   have HK3:=Qa (HK.out.belowK b3)
   clear K b3 d0 hD hpk HW3
   go_wp2_with fail
   refine KJ.out.mono ?_
   rintro e w5 ⟨rfl,hW5,b5,k5⟩
   have HW5:=Qa hW5
   have hb5:=Qa (HBL3.out.trans b5)
   have hk5:=Qa (HK3.out.trans k5)
   have HS5:=Qa (k5.own (by decide) HHB.out HS3.out)
   have s5:=b5.size
   have HY5:Hid (Y++gamL (y+1)=X++Zd Z (i+1)):=Qa (by rw [HY.out,HGX.out,List.append_assoc])
   have HYl5:Hid ((Y++gamL (y+1)).length=q+gl):=Qa (by rw [List.length_append,HYl.out,HGL.out])
   clear b5 k5 hW5 KJ
   go_wp2
   go_roundw
   case rel=>exact ⟨i+1,q+gl,_,by omega,by go_num,HY5,HYl5,by omega,HW5,HS5,hb5.out,hk5,by omega⟩
   case measure=>simp [intOf];omega
  ·obtain rfl:i=z:=by omega
   have HBL:=Qa hbl
   clear hbl
   go_wp2
   go_end0
   exact ⟨rfl,by rw [←HY.out];exact HW.out,HBL.out,HK.out⟩
theorem ABr (rc:Value) (la:ByteArray) (f:Nat) (b:Bool) (U O X:List Nat) (x0 g base:Nat) (w:World) (hW:Qp w base g X) (hgb:base≤g) (hbs:base≤w.heap.size) (hX:X.length=x0) (hx0:x0≤100000) (hf6:f≤600) (hU:Byt U) (hU2:JK U=true) (hO:Byt O) (hO2:ZA O=true) (hO3:Qm O=U) :
 Calls Tryz.prog 41 #[.agg #[rc,.bool b],.pointer (some ⟨g,0,none⟩),.agg #[.string la,.int .i64 (f:Int),.string (Qg U),.string (Qg O)]] w fun e w'=>e=.returned (.tuple #[])∧Qp w' base g (X++(gamL (f+1)++Qr U++wrT b U O))∧Below base w w'∧QG g w w':=by
 have hgl:=hW.lt
 have hgf40:(gamL (f+1)).length≤40:=QY (by omega) (by omega)
 have hu272:=ZK U
 have KG:=Qa (fun W=>ZI (f+1) W (by omega) (by omega))
 have KU:=Qa (fun W=>by
  have h:=yz (Qg U) W (by rw [QB];have:=QK hU (Ym ((Jd hU).1 ((Xy U).1 hU2).2));omega) (by rw [QI hU];exact hU2)
  rw [QI hU] at h
  exact h)
 have hO256:=QK hO ((Xw _).1 hO2).2
 have KO:=Qa (fun W=>by
  have h:=jS (Qg O) W (by rw [QB];omega) (by rw [QI hO];exact hO2)
  rw [QI hO,hO3] at h
  exact h)
 have hpl:=Vh U O (QK hU (Ym ((Jd hU).1 ((Xy U).1 hU2).2)))
 obtain ⟨pl,hpe⟩:∃ pl,(putO U O).length=pl:=⟨_,rfl⟩
 have HPL:=Qa hpe
 rw [hpe] at KO hpl
 clear hpe
 obtain ⟨gf,hgf⟩:∃ gf,(gamL (f+1)).length=gf:=⟨_,rfl⟩
 obtain ⟨ub,hub⟩:∃ ub,(Qr U).length=ub:=⟨_,rfl⟩
 have HGF:=Qa hgf
 have HUB:=Qa hub
 rw [hgf] at KG hgf40
 rw [hub] at KU hu272
 rw [show ((f+1:Nat):Int)=(f:Int)+1 by omega] at KG
 obtain ⟨w0,hwe⟩:∃ w0,(w.alloc (.cells #[rc,.bool b] 51)).alloc (.cells #[.string la,.int .i64 (f:Int),.string (Qg U),.string (Qg O)] 56)=w0:=⟨_,rfl⟩
 have hw0:w0.heap.size=w.heap.size+2:=by rw [←hwe];simp
 have b0:Below w.heap.size w w0:=by rw [←hwe];exact ((Below.refl _ _).alloc (Nat.le_refl _) _).alloc (by simp) _
 have BL0:Hid (Below base w w0):=Qa (b0.mono hbs)
 have KK0:Hid (QG g w w0):=Qa (by rw [←hwe];exact ((QG.refl g w).alloc _).alloc _)
 have HW0:Hid (Qp w0 base g X):=Qa (hW.below b0)
 have HLN0:Hid (X.length=x0):=Qa hX
 have hbs0:base≤w0.heap.size:=by omega
 have RK0:Hid (Has w0 w.heap.size 51 #[rc,.bool b]):=Qa (by rw [←hwe];exact (Has.fresh _ _ _).alloc _)
 have TU0:Hid (Has w0 (w.heap.size+1) 56 #[.string la,.int .i64 (f:Int),.string (Qg U),.string (Qg O)]):=Qa (by rw [←hwe];exact Has.freshAt (by simp) _ _)
 clear hgf hub hW hX b0 hU hU2
 go_enter Tryz.func41,Tryz.ntmps41
 have cRK0:=RK0.out.cell 0
 have cRK1:=RK0.out.cell 1
 simp at cRK0 cRK1
 have cTU0:=TU0.out.cell 0
 have cTU1:=TU0.out.cell 1
 have cTU2:=TU0.out.cell 2
 have cTU3:=TU0.out.cell 3
 simp at cTU0 cTU1 cTU2 cTU3
 go_wp2_with fail
 refine (KG.out _).mono ?_
 rintro e w1 ⟨D1,hD,rfl,b1⟩
 have HW1:=Qa (HW0.out.below b1)
 have BL1:=Qa (Qx BL0.out b1 hbs0)
 have hbs1:base≤w1.heap.size:=by have:=b1.size;omega
 have KK1:=Qa (KK0.out.belowK b1)
 have RK1:=Qa (RK0.out.below b1 RK0.out.lt)
 have TU1:=Qa (TU0.out.below b1 TU0.out.lt)
 clear b1 HW0 BL0 KK0 RK0 TU0 cRK0 cRK1 cTU0 cTU1 cTU2 cTU3 hwe
 have cRK0:=RK1.out.cell 0
 have cRK1:=RK1.out.cell 1
 simp at cRK0 cRK1
 have cTU0:=TU1.out.cell 0
 have cTU1:=TU1.out.cell 1
 have cTU2:=TU1.out.cell 2
 have cTU3:=TU1.out.cell 3
 simp at cTU0 cTU1 cTU2 cTU3
 have KD:=Qa hD
 clear hD
 have HL:=HGF
 have HLN1:=HLN0
 have hpk:=ZZ KD.out (by rw [HL.out];omega)
 rw [HL.out] at hpk
 have KJ:=Qa (ZH g base _ (Qg D1) gf w1 HW1.out hgb hbs1 hpk.1 (by have:=HLN1.out;omega))
 rw [hpk.2] at KJ
 clear hpk KD
 go_wp2_with fail
 refine (KJ.out).mono ?_
 rintro e w2 ⟨rfl,HWx,b2,k2⟩
 have HW2:Hid (Qp w2 base g (X++gamL (f+1))):=Qa HWx
 have BL2:=Qa (BL1.out.trans b2)
 have hbs2:base≤w2.heap.size:=by have:=BL1.out.size;have:=b2.size;omega
 have KK2:=Qa (KK1.out.trans k2)
 have RK2:=Qa (k2.has (by omega) (by decide) RK1.out)
 have TU2:=Qa (k2.has (by omega) (by decide) TU1.out)
 clear b2 k2 HWx HW1 BL1 KK1 RK1 TU1 cRK0 cRK1 cTU0 cTU1 cTU2 cTU3
 have cRK0:=RK2.out.cell 0
 have cRK1:=RK2.out.cell 1
 simp at cRK0 cRK1
 have cTU0:=TU2.out.cell 0
 have cTU1:=TU2.out.cell 1
 have cTU2:=TU2.out.cell 2
 have cTU3:=TU2.out.cell 3
 simp at cTU0 cTU1 cTU2 cTU3
 have HLN2:Hid ((X++gamL (f+1)).length=x0+gf):=Qa (by rw [List.length_append,HLN1.out,HL.out])
 clear KJ HL HLN1
 go_wp2_with fail
 refine (KU.out _).mono ?_
 rintro e w3 ⟨D3,hD,rfl,b3⟩
 have HW3:=Qa (HW2.out.below b3)
 have BL3:=Qa (Qx BL2.out b3 hbs2)
 have hbs3:base≤w3.heap.size:=by have:=b3.size;omega
 have KK3:=Qa (KK2.out.belowK b3)
 have RK3:=Qa (RK2.out.below b3 RK2.out.lt)
 have TU3:=Qa (TU2.out.below b3 TU2.out.lt)
 clear b3 HW2 BL2 KK2 RK2 TU2 cRK0 cRK1 cTU0 cTU1 cTU2 cTU3
 have cRK0:=RK3.out.cell 0
 have cRK1:=RK3.out.cell 1
 simp at cRK0 cRK1
 have cTU0:=TU3.out.cell 0
 have cTU1:=TU3.out.cell 1
 have cTU2:=TU3.out.cell 2
 have cTU3:=TU3.out.cell 3
 simp at cTU0 cTU1 cTU2 cTU3
 have HLN3:=HLN2
 go_wp2_with fail
 refine (Jy _ _ _ _).mono ?_
 rintro e w4 ⟨rfl,b4⟩
 have HW4:=Qa (HW3.out.below b4)
 have BL4:=Qa (Qx BL3.out b4 hbs3)
 have hbs4:base≤w4.heap.size:=by have:=b4.size;omega
 have KK4:=Qa (KK3.out.belowK b4)
 have RK4:=Qa (RK3.out.below b4 RK3.out.lt)
 have TU4:=Qa (TU3.out.below b4 TU3.out.lt)
 clear b4 HW3 BL3 KK3 RK3 TU3 cRK0 cRK1 cTU0 cTU1 cTU2 cTU3
 have cRK0:=RK4.out.cell 0
 have cRK1:=RK4.out.cell 1
 simp at cRK0 cRK1
 have cTU0:=TU4.out.cell 0
 have cTU1:=TU4.out.cell 1
 have cTU2:=TU4.out.cell 2
 have cTU3:=TU4.out.cell 3
 simp at cTU0 cTU1 cTU2 cTU3
 have KD:=Qa hD
 clear hD
 have HL:=HUB
 have HLN4:=HLN3
 have hpk:=ZZ KD.out (by rw [HL.out];omega)
 rw [HL.out] at hpk
 have KJ:=Qa (ZH g base _ (Qg D3) ub w4 HW4.out hgb hbs4 hpk.1 (by have:=HLN4.out;omega))
 rw [hpk.2] at KJ
 clear hpk KD
 go_wp2_with fail
 refine (KJ.out).mono ?_
 rintro e w5 ⟨rfl,HWx,b5,k5⟩
 have HW5:Hid (Qp w5 base g (X++gamL (f+1)++Qr U)):=Qa HWx
 have BL5:=Qa (BL4.out.trans b5)
 have hbs5:base≤w5.heap.size:=by have:=BL4.out.size;have:=b5.size;omega
 have KK5:=Qa (KK4.out.trans k5)
 have RK5:=Qa (k5.has (by omega) (by decide) RK4.out)
 have TU5:=Qa (k5.has (by omega) (by decide) TU4.out)
 clear b5 k5 HWx HW4 BL4 KK4 RK4 TU4 cRK0 cRK1 cTU0 cTU1 cTU2 cTU3
 have cRK0:=RK5.out.cell 0
 have cRK1:=RK5.out.cell 1
 simp at cRK0 cRK1
 have cTU0:=TU5.out.cell 0
 have cTU1:=TU5.out.cell 1
 have cTU2:=TU5.out.cell 2
 have cTU3:=TU5.out.cell 3
 simp at cTU0 cTU1 cTU2 cTU3
 have HLN5:Hid ((X++gamL (f+1)++Qr U).length=x0+gf+ub):=Qa (by rw [List.length_append,HLN4.out,HL.out])
 clear KJ HL HLN4
 cases b
 ·have KJ:=Qa (QS g base _ 0 1 w5 HW5.out hgb hbs5 (by omega) (by omega) (by have:=HLN5.out;omega))
  go_wp2_with fail
  refine (KJ.out).mono ?_
  rintro e w6 ⟨rfl,HWx,b6,k6⟩
  have HW6:Hid (Qp w6 base g (X++gamL (f+1)++Qr U++Qh 0 1)):=Qa HWx
  have BL6:=Qa (BL5.out.trans b6)
  have hbs6:base≤w6.heap.size:=by have:=BL5.out.size;have:=b6.size;omega
  have KK6:=Qa (KK5.out.trans k6)
  have RK6:=Qa (k6.has (by omega) (by decide) RK5.out)
  have TU6:=Qa (k6.has (by omega) (by decide) TU5.out)
  clear b6 k6 HWx HW5 BL5 KK5 RK5 TU5 cRK0 cRK1 cTU0 cTU1 cTU2 cTU3
  have cRK0:=RK6.out.cell 0
  have cRK1:=RK6.out.cell 1
  simp at cRK0 cRK1
  have cTU0:=TU6.out.cell 0
  have cTU1:=TU6.out.cell 1
  have cTU2:=TU6.out.cell 2
  have cTU3:=TU6.out.cell 3
  simp at cTU0 cTU1 cTU2 cTU3
  have HLN6:Hid ((X++gamL (f+1)++Qr U++Qh 0 1).length=x0+gf+ub+1):=Qa (by rw [List.length_append,HLN5.out,Qt])
  clear KJ HLN5
  have HF:Hid (X++(gamL (f+1)++Qr U++[0])=X++gamL (f+1)++Qr U++Qh 0 1):=Qa (by simp [Qh,List.append_assoc])
  clear cRK0 cRK1 cTU0 cTU1 cTU2 cTU3 HLN6
  go_wp2
  go_end0
  exact ⟨rfl,by first | (rw [ARy,HF.out];exact HW6.out) | (have h:=HW6.out;rw [←HF.out] at h;exact h),BL6.out,KK6.out⟩
 ·have KJ:=Qa (QS g base _ 1 1 w5 HW5.out hgb hbs5 (by omega) (by omega) (by have:=HLN5.out;omega))
  go_wp2_with fail
  refine (KJ.out).mono ?_
  rintro e w6 ⟨rfl,HWx,b6,k6⟩
  have HW6:Hid (Qp w6 base g (X++gamL (f+1)++Qr U++Qh 1 1)):=Qa HWx
  have BL6:=Qa (BL5.out.trans b6)
  have hbs6:base≤w6.heap.size:=by have:=BL5.out.size;have:=b6.size;omega
  have KK6:=Qa (KK5.out.trans k6)
  have RK6:=Qa (k6.has (by omega) (by decide) RK5.out)
  have TU6:=Qa (k6.has (by omega) (by decide) TU5.out)
  clear b6 k6 HWx HW5 BL5 KK5 RK5 TU5 cRK0 cRK1 cTU0 cTU1 cTU2 cTU3
  have cRK0:=RK6.out.cell 0
  have cRK1:=RK6.out.cell 1
  simp at cRK0 cRK1
  have cTU0:=TU6.out.cell 0
  have cTU1:=TU6.out.cell 1
  have cTU2:=TU6.out.cell 2
  have cTU3:=TU6.out.cell 3
  simp at cTU0 cTU1 cTU2 cTU3
  have HLN6:Hid ((X++gamL (f+1)++Qr U++Qh 1 1).length=x0+gf+ub+1):=Qa (by rw [List.length_append,HLN5.out,Qt])
  clear KJ HLN5
  go_wp2_with fail
  refine (KO.out _).mono ?_
  rintro e w7 ⟨D7,hD,rfl,b7⟩
  have HW7:=Qa (HW6.out.below b7)
  have BL7:=Qa (Qx BL6.out b7 hbs6)
  have hbs7:base≤w7.heap.size:=by have:=b7.size;omega
  have KK7:=Qa (KK6.out.belowK b7)
  have RK7:=Qa (RK6.out.below b7 RK6.out.lt)
  have TU7:=Qa (TU6.out.below b7 TU6.out.lt)
  clear b7 HW6 BL6 KK6 RK6 TU6 cRK0 cRK1 cTU0 cTU1 cTU2 cTU3
  have cRK0:=RK7.out.cell 0
  have cRK1:=RK7.out.cell 1
  simp at cRK0 cRK1
  have cTU0:=TU7.out.cell 0
  have cTU1:=TU7.out.cell 1
  have cTU2:=TU7.out.cell 2
  have cTU3:=TU7.out.cell 3
  simp at cTU0 cTU1 cTU2 cTU3
  have HLN7:=HLN6
  go_wp2_with fail
  refine (Jy _ _ _ _).mono ?_
  rintro e w8 ⟨rfl,b8⟩
  have HW8:=Qa (HW7.out.below b8)
  have BL8:=Qa (Qx BL7.out b8 hbs7)
  have hbs8:base≤w8.heap.size:=by have:=b8.size;omega
  have KK8:=Qa (KK7.out.belowK b8)
  have RK8:=Qa (RK7.out.below b8 RK7.out.lt)
  have TU8:=Qa (TU7.out.below b8 TU7.out.lt)
  clear b8 HW7 BL7 KK7 RK7 TU7 cRK0 cRK1 cTU0 cTU1 cTU2 cTU3
  have cRK0:=RK8.out.cell 0
  have cRK1:=RK8.out.cell 1
  simp at cRK0 cRK1
  have cTU0:=TU8.out.cell 0
  have cTU1:=TU8.out.cell 1
  have cTU2:=TU8.out.cell 2
  have cTU3:=TU8.out.cell 3
  simp at cTU0 cTU1 cTU2 cTU3
  have KD:=Qa hD
  clear hD
  have HL:=HPL
  have HLN8:=HLN7
  have hpk:=ZZ KD.out (by rw [HL.out];omega)
  rw [HL.out] at hpk
  have KJ:=Qa (ZH g base _ (Qg D7) pl w8 HW8.out hgb hbs8 hpk.1 (by have:=HLN8.out;omega))
  rw [hpk.2] at KJ
  clear hpk KD
  go_wp2_with fail
  refine (KJ.out).mono ?_
  rintro e w9 ⟨rfl,HWx,b9,k9⟩
  have HW9:Hid (Qp w9 base g (X++gamL (f+1)++Qr U++Qh 1 1++putO U O)):=Qa HWx
  have BL9:=Qa (BL8.out.trans b9)
  have hbs9:base≤w9.heap.size:=by have:=BL8.out.size;have:=b9.size;omega
  have KK9:=Qa (KK8.out.trans k9)
  have RK9:=Qa (k9.has (by omega) (by decide) RK8.out)
  have TU9:=Qa (k9.has (by omega) (by decide) TU8.out)
  clear b9 k9 HWx HW8 BL8 KK8 RK8 TU8 cRK0 cRK1 cTU0 cTU1 cTU2 cTU3
  have cRK0:=RK9.out.cell 0
  have cRK1:=RK9.out.cell 1
  simp at cRK0 cRK1
  have cTU0:=TU9.out.cell 0
  have cTU1:=TU9.out.cell 1
  have cTU2:=TU9.out.cell 2
  have cTU3:=TU9.out.cell 3
  simp at cTU0 cTU1 cTU2 cTU3
  have HLN9:Hid ((X++gamL (f+1)++Qr U++Qh 1 1++putO U O).length=x0+gf+ub+1+pl):=Qa (by rw [List.length_append,HLN8.out,HL.out])
  clear KJ HL HLN8
  have HF:Hid (X++(gamL (f+1)++Qr U++(1::putO U O))=X++gamL (f+1)++Qr U++Qh 1 1++putO U O):=Qa (by simp [Qh,List.append_assoc])
  clear cRK0 cRK1 cTU0 cTU1 cTU2 cTU3 HLN9
  go_wp2
  go_end0
  exact ⟨rfl,by first | (rw [ASw,HF.out];exact HW9.out) | (have h:=HW9.out;rw [←HF.out] at h;exact h),BL9.out,KK9.out⟩
end Go.Proofs.YtembljihmnmmfaaGreat
