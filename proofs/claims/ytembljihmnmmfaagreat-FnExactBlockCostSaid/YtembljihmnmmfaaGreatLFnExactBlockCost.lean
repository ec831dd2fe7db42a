/- FnExactBlockCost: for every input the law returns true, and each argument reads behind the call as it read before it. No condition. -/
import Derived.Test.YtembljihmnmmfaaGreatKB54
import Derived.Test.YtembljihmnmmfaaGreatKB55
import Derived.Test.YtembljihmnmmfaaGreatKB47
import Derived.Test.YtembljihmnmmfaaGreatKB48
import Derived.Test.YtembljihmnmmfaaGreatKB51
import Derived.Test.YtembljihmnmmfaaGreatKB21
import Derived.Test.YtembljihmnmmfaaGreatKB49
import Derived.Test.YtembljihmnmmfaaGreatKB15
import Derived.Test.YtembljihmnmmfaaGreatKB5
import Derived.Test.YtembljihmnmmfaaGreatRows
import Derived.WalkKit
import Derived.ProofKit
import Derived.OpenShut
import Derived.ShutString
import Derived.ChangeOld
import Derived.Below
import Derived.Carry
import Derived.Lib.SmallJoins
namespace Go.Proofs.YtembljihmnmmfaaGreat
set_option maxHeartbeats 8000000
set_option maxRecDepth 100000
set_option linter.unusedVariables false
set_option linter.unusedSimpArgs false
open Go.RowKit
theorem QG.rows {g base:Nat} {V:List Value} {T:List (List Int)} {w w':World} (h:QG g w w') (hg:∃ cs,Has w g 102 cs) (hR:Zz w base V T):Zz w' base V T :=
 ⟨hR.1,fun j hj=>h.own (by decide) hg (hR.2 j hj)⟩
theorem vU (n:Nat) (w:World) (hn:n≤256) :
 Calls Tryz.prog 83 #[.int .i64 n] w fun e w'=>e=.returned (.int .i64 ((n:Int)+2))∧w=w':=by
 go_enter Tryz.func83,Tryz.ntmps83
 go_wp2
 go_ret
 first | exact ⟨rfl,rfl⟩ | exact ⟨by congr 2,rfl⟩ | exact ⟨by congr 2;go_num,rfl⟩
theorem yn (tt:TypeId) (us LS OS:ByteArray) (fi:Int) (b:Bool) (X:List Nat) (Z:List Int) (n t x0 g base:Nat) (w:World) (hzO:OS.size=n) (hn6:n≤256) (hrow:rowB Z ((n+2:Nat):Int)=true) (hz1:1≤Z.length) (hsb:Z.length≤900∧∀ x∈Z,0≤x∧x≤1000) (ht1:1≤t) (ht4:t≤4)
 (KS0:∀ W,Calls Tryz.prog 29 #[.agg #[.iface tt (.agg #[]),.bool b,.int .i64 (t:Int)],.agg #[.string LS,.int .i64 fi,.string us,.string OS]] W fun e w'=>∃ v,e=.returned v∧w'.ownsRow W.heap.size 3 1 v Z.length (Qo Z)∧Below W.heap.size W w')
 (hW:Qp w base g X) (hgb:base≤g) (hbs:base≤w.heap.size) (hX:X.length=x0) (hx0:x0≤100000) :
 Calls Tryz.prog 42 #[.agg #[.iface tt (.agg #[]),.bool b,.int .i64 (t:Int)],.pointer (some ⟨g,0,none⟩),.agg #[.string LS,.int .i64 fi,.string us,.string OS]] w fun e w'=>e=.returned (.tuple #[])∧Qp w' base g (X++symL Z (n+2) t)∧Below base w w'∧QG g w w':=by
 have hgl:=hW.lt
 have KS:=Qa KS0
 have hcd:=AFz hrow ht1 ht4
 have hSl2:Z.length≤2000:=by omega
 have hnn:1≤n+2∧n+2≤260:=by omega
 have HSR:=Qa hsb.2
 have hTl:(tab2 Z (n+2) t).length=t:=Zc _ _ _ _
 have hGl:(sel2 Z (n+2) t).length=grp Z.length:=by have:=XC Z (n+2) t 2;rw [Xd] at this;exact this
 have HSY:Hid (symL Z (n+2) t=Qh (t-1) 2++gamL (sel2 Z (n+2) t).length++unaL (mtfD (sel2 Z (n+2) t) t)++ZS (tab2 Z (n+2) t) t++cpF Z (tab2 Z (n+2) t) (sel2 Z (n+2) t) Z.length):=Qa rfl
 have HLO:Hid (∀ i,i<t→lOk ((tab2 Z (n+2) t).getD i [])=true):=Qa (fun i hi=>xC hnn.1 hnn.2 hSl2 i hi)
 have HTF:Hid (∀ i,i<(tab2 Z (n+2) t).length→((tab2 Z (n+2) t).getD i []).length≤140737488355328∧∀ x∈(tab2 Z (n+2) t).getD i [],-9223372036854775808≤x∧x≤9223372036854775807):=Qa (fun i hi=>YT hnn.1 hnn.2 hSl2 i hi)
 have HGR:=Qa (jH (S:=Z) (n:=n+2) ht1 ht4 hSl2)
 have HGF:=Qa (jV (S:=Z) (n:=n+2) ht1 ht4 hSl2)
 have hcpl:=zF (Vf hcd) Z.length (Nat.le_refl _)
 have hcpe:=qd Z (tab2 Z (n+2) t) (sel2 Z (n+2) t) Z.length
 have KC:=Qa (fun (a:Option Addr) (c B:Nat) (W:World) (hz:Ints W B a Z) (hB:B≤W.heap.size) (hc:Z.length≤c)=>vB a c B (n+2) t Z W hz hB hc hrow ht1 ht4)
 obtain ⟨T,hT⟩:∃ T,tab2 Z (n+2) t=T:=⟨_,rfl⟩
 obtain ⟨G,hG⟩:∃ G,sel2 Z (n+2) t=G:=⟨_,rfl⟩
 obtain ⟨gz,hgz⟩:∃ gz,grp Z.length=gz:=⟨_,rfl⟩
 have hgz1:1≤gz∧gz≤600:=by rw [←hgz];unfold grp;omega
 rw [hT] at KC hTl hcd HSY HLO HTF hcpl hcpe
 rw [hG] at KC hGl hcd HSY HGR HGF hcpl hcpe
 rw [hgz] at KC hGl
 obtain ⟨z,hz⟩:∃ z,Z.length=z:=⟨_,rfl⟩
 have HZZ:=Qa hz
 have hz9:1≤z∧z≤900:=by omega
 rw [hz] at KS KC hcpl hcpe HSY
 have HTL2:=Qa hTl
 have HGL2:=Qa hGl
 have HCD:=Qa hcd
 obtain ⟨cp,hcp⟩:∃ cp,cpN Z T G z=cp:=⟨_,rfl⟩
 rw [hcp] at hcpl hcpe
 have hcp2:cp≤20000:=by omega
 have HCP:=Qa hcp
 have HCE:=Qa hcpe
 have hul:=qC (qj HGR.out)
 rw [Jq,hGl] at hul
 have hul2:(unaL (mtfD G t)).length≤2400:=by have:gz*t≤600*4:=Nat.mul_le_mul hgz1.2 ht4;omega
 obtain ⟨ul,hule⟩:∃ ul,(unaL (mtfD G t)).length=ul:=⟨_,rfl⟩
 rw [hule] at hul2
 have HUL:=Qa hule
 have hgl40:=QY (n:=gz) hgz1.1 (by omega)
 have KG:=Qa (fun W=>ZI gz W hgz1.1 (by omega))
 obtain ⟨gl,hgle⟩:∃ gl,(gamL gz).length=gl:=⟨_,rfl⟩
 rw [hgle] at KG hgl40
 have HGLE:=Qa hgle
 have ht1':((t-1:Nat):Int)=(t:Int)-1:=by omega
 obtain ⟨w0,hwe⟩:∃ w0,(w.alloc (.cells #[.iface tt (.agg #[]),.bool b,.int .i64 (t:Int)] 53)).alloc (.cells #[.string LS,.int .i64 fi,.string us,.string OS] 56)=w0:=⟨_,rfl⟩
 have hw0:w0.heap.size=w.heap.size+2:=by rw [←hwe];simp
 have b0:Below w.heap.size w w0:=by rw [←hwe];exact ((Below.refl _ _).alloc (Nat.le_refl _) _).alloc (by simp) _
 have BL0:Hid (Below base w w0):=Qa (b0.mono hbs)
 have KK0:Hid (QG g w w0):=Qa (by rw [←hwe];exact ((QG.refl g w).alloc _).alloc _)
 have HW0:Hid (Qp w0 base g X):=Qa (hW.below b0)
 have HLN0:Hid (X.length=x0):=Qa hX
 have hbs0:base≤w0.heap.size:=by omega
 have TB0:Hid (Has w0 w.heap.size 53 #[.iface tt (.agg #[]),.bool b,.int .i64 (t:Int)]):=Qa (by rw [←hwe];exact (Has.fresh _ _ _).alloc _)
 have TU0:Hid (Has w0 (w.heap.size+1) 56 #[.string LS,.int .i64 fi,.string us,.string OS]):=Qa (by rw [←hwe];exact Has.freshAt (by simp) _ _)
 clear hW hX b0 KS0 hrow hsb hcd hTl hGl hT hG hgz hz hcp hcpl hcpe hul hule hgle hz1
 go_enter Tryz.func42,Tryz.ntmps42
 have cTB0:=TB0.out.cell 0
 have cTB1:=TB0.out.cell 1
 have cTB2:=TB0.out.cell 2
 simp at cTB0 cTB1 cTB2
 have cTU0:=TU0.out.cell 0
 have cTU1:=TU0.out.cell 1
 have cTU2:=TU0.out.cell 2
 have cTU3:=TU0.out.cell 3
 simp at cTU0 cTU1 cTU2 cTU3
 go_wp2_with fail
 refine (KS.out _).mono ?_
 rintro e w1 ⟨v1,rfl,oS,b1⟩
 have s1:=b1.size
 have HW1:=Qa (HW0.out.below b1)
 have BL1:=Qa (Qx BL0.out b1 hbs0)
 have hbs1:base≤w1.heap.size:=by have:=b1.size;omega
 have KK1:=Qa (KK0.out.belowK b1)
 have TB1:=Qa (TB0.out.below b1 TB0.out.lt)
 have TU1:=Qa (TU0.out.below b1 TU0.out.lt)
 clear b1 HW0 BL0 KK0 TB0 TU0 cTB0 cTB1 cTB2 cTU0 cTU1 cTU2 cTU3 hwe KS
 have cTB0:=TB1.out.cell 0
 have cTB1:=TB1.out.cell 1
 have cTB2:=TB1.out.cell 2
 simp at cTB0 cTB1 cTB2
 have cTU0:=TU1.out.cell 0
 have cTU1:=TU1.out.cell 1
 have cTU2:=TU1.out.cell 2
 have cTU3:=TU1.out.cell 3
 simp at cTU0 cTU1 cTU2 cTU3
 have HLN1:=HLN0
 have HS1:=Qa oS
 obtain ⟨aS,cS,rfl⟩:=Qq HS1.out
 have hcS:=Xu HS1.out
 have hIS:=(Ints.ofOwn oS (by omega) (fun x hx=>by have:=HSR.out x hx;omega)).2
 have KC1:=Qa (fun (W:World) (h:Below w1.heap.size w1 W)=>KC.out aS cS w1.heap.size W (hIS.below h) h.size hcS)
 rw [show ((n+2:Nat):Int)=(n:Int)+2 by omega] at KC1
 have KA:=Qa (fun W=>vU n W hn6)
 have by2:Below w1.heap.size w1 w1:=Below.refl _ _
 have hn0:(0:Int)≤(n:Int):=by omega
 clear oS hIS KC HLN0
 go_wp2_with fail
 go_region_held3 (fun w'=>w'.cell? ⟨w.heap.size,2,none⟩=some (.int .i64 (t:Int))∧w'.cell? ⟨w.heap.size+1,3,none⟩=some (.string OS)) (go_keep) (first
  | (go_at_call 83;(with_reducible refine (KA.out _).mono ?_);rintro e wA ⟨rfl,rfl⟩)
  | (go_at_call 82;(with_reducible refine (KC1.out _ ?hW).mono ?_);(case hW=>exact ⟨by2.os,by2.tape,by2.output,by2.size,by2.block⟩);rintro e w2 ⟨vT,V,vG,rfl,oT,oG,hnTG,b2⟩;have hd2:Below w1.heap.size w1 w2:=Qc b2 by2.size ⟨by2.os,by2.tape,by2.output,by2.size,by2.block⟩;have TBX:=TB1.out.below hd2 (by omega);have TUX:=TU1.out.below hd2 (by omega);have cTB2:=TBX.cell 2;have cTU3:=TUX.cell 3;simp at cTB2 cTU3))
 have hTX:=oT.own
 have hRX:=oT.rows
 rw [HTL2.out] at hTX
 obtain ⟨aT,cT,rfl⟩:=Qq hTX
 obtain ⟨aG,cG,rfl⟩:=Qq oG
 have s2:=b2.size
 have HS2:=Qa (Ql HS1.out (Below.mono hd2 (Nat.le_refl _)))
 have HT2:=Qa hTX
 have HR2:=Qa hRX
 have HG2:=Qa oG
 have HW2:=Qa (HW1.out.below hd2)
 have BL2:=Qa (Qx BL1.out hd2 hbs1)
 have hbs2:base≤w2.heap.size:=by have:=hd2.size;omega
 have KK2:=Qa (KK1.out.belowK hd2)
 have TB2:=Qa TBX
 have TU2:=Qa TUX
 have HLN2:=HLN1
 have sz2:w1.heap.size≤w2.heap.size:=hd2.size
 clear oT oG hnTG b2 hd2 hTX hRX HS1 HW1 BL1 KK1 TB1 TU1 TBX TUX HLN1 KC1 KA by2 cTB2 cTU3 cTB0 cTB1 cTU0 cTU1 cTU2
 have cTB0:=TB2.out.cell 0
 have cTB1:=TB2.out.cell 1
 have cTB2:=TB2.out.cell 2
 simp at cTB0 cTB1 cTB2
 have cTU0:=TU2.out.cell 0
 have cTU1:=TU2.out.cell 1
 have cTU2:=TU2.out.cell 2
 have cTU3:=TU2.out.cell 3
 simp at cTU0 cTU1 cTU2 cTU3
 have KJ:=Qa (QS g base _ (t-1) 2 w2 HW2.out hgb hbs2 (by omega) (by omega) (by have:=HLN2.out;omega))
 rw [ht1'] at KJ
 go_wp2_with fail
 refine (KJ.out).mono ?_
 rintro e w3 ⟨rfl,HWx,b3,k3⟩
 have HW3:Hid (Qp w3 base g (X++Qh ((t-1)) 2)):=Qa HWx
 have s3:=b3.size
 have BL3:=Qa (BL2.out.trans b3)
 have hbs3:base≤w3.heap.size:=by have:=BL2.out.size;have:=b3.size;omega
 have KK3:=Qa (KK2.out.trans k3)
 have TB3:=Qa (k3.has (by omega) (by decide) TB2.out)
 have TU3:=Qa (k3.has (by omega) (by decide) TU2.out)
 have HS3:=Qa (k3.own (by decide) HW2.out.has HS2.out)
 have HT3:=Qa (k3.own (by decide) HW2.out.has HT2.out)
 have HR3:=Qa (k3.rows HW2.out.has HR2.out)
 have HG3:=Qa (k3.own (by decide) HW2.out.has HG2.out)
 clear b3 k3 HWx HW2 BL2 KK2 TB2 TU2 HS2 HT2 HR2 HG2 cTB0 cTB1 cTB2 cTU0 cTU1 cTU2 cTU3
 have cTB0:=TB3.out.cell 0
 have cTB1:=TB3.out.cell 1
 have cTB2:=TB3.out.cell 2
 simp at cTB0 cTB1 cTB2
 have cTU0:=TU3.out.cell 0
 have cTU1:=TU3.out.cell 1
 have cTU2:=TU3.out.cell 2
 have cTU3:=TU3.out.cell 3
 simp at cTU0 cTU1 cTU2 cTU3
 have HLN3:Hid ((X++Qh ((t-1)) 2).length=x0+2):=Qa (by rw [List.length_append,HLN2.out,Qt])
 clear KJ HLN2
 go_wp2_with fail
 refine (KG.out _).mono ?_
 rintro e w4 ⟨D4,hD,rfl,b4⟩
 have s4:=b4.size
 have HW4:=Qa (HW3.out.below b4)
 have BL4:=Qa (Qx BL3.out b4 hbs3)
 have hbs4:base≤w4.heap.size:=by have:=b4.size;omega
 have KK4:=Qa (KK3.out.belowK b4)
 have TB4:=Qa (TB3.out.below b4 TB3.out.lt)
 have TU4:=Qa (TU3.out.below b4 TU3.out.lt)
 have HS4:=Qa (Ql HS3.out b4)
 have HT4:=Qa (Ql HT3.out b4)
 have HR4:=Qa (HR3.out.below b4)
 have HG4:=Qa (Ql HG3.out b4)
 clear b4 HW3 BL3 KK3 TB3 TU3 HS3 HT3 HR3 HG3 cTB0 cTB1 cTB2 cTU0 cTU1 cTU2 cTU3 KG
 have cTB0:=TB4.out.cell 0
 have cTB1:=TB4.out.cell 1
 have cTB2:=TB4.out.cell 2
 simp at cTB0 cTB1 cTB2
 have cTU0:=TU4.out.cell 0
 have cTU1:=TU4.out.cell 1
 have cTU2:=TU4.out.cell 2
 have cTU3:=TU4.out.cell 3
 simp at cTU0 cTU1 cTU2 cTU3
 have KD:=Qa hD
 clear hD
 have HL:=HGLE
 have HLN4:=HLN3
 have hpk:=ZZ KD.out (by rw [HL.out];omega)
 rw [HL.out] at hpk
 have KJ:=Qa (ZH g base _ (Qg D4) gl w4 HW4.out hgb hbs4 hpk.1 (by have:=HLN4.out;omega))
 rw [hpk.2] at KJ
 clear hpk KD
 go_wp2_with fail
 refine (KJ.out).mono ?_
 rintro e w5 ⟨rfl,HWx,b5,k5⟩
 have HW5:Hid (Qp w5 base g (X++Qh ((t-1)) 2++gamL gz)):=Qa HWx
 have s5:=b5.size
 have BL5:=Qa (BL4.out.trans b5)
 have hbs5:base≤w5.heap.size:=by have:=BL4.out.size;have:=b5.size;omega
 have KK5:=Qa (KK4.out.trans k5)
 have TB5:=Qa (k5.has (by omega) (by decide) TB4.out)
 have TU5:=Qa (k5.has (by omega) (by decide) TU4.out)
 have HS5:=Qa (k5.own (by decide) HW4.out.has HS4.out)
 have HT5:=Qa (k5.own (by decide) HW4.out.has HT4.out)
 have HR5:=Qa (k5.rows HW4.out.has HR4.out)
 have HG5:=Qa (k5.own (by decide) HW4.out.has HG4.out)
 clear b5 k5 HWx HW4 BL4 KK4 TB4 TU4 HS4 HT4 HR4 HG4 cTB0 cTB1 cTB2 cTU0 cTU1 cTU2 cTU3
 have cTB0:=TB5.out.cell 0
 have cTB1:=TB5.out.cell 1
 have cTB2:=TB5.out.cell 2
 simp at cTB0 cTB1 cTB2
 have cTU0:=TU5.out.cell 0
 have cTU1:=TU5.out.cell 1
 have cTU2:=TU5.out.cell 2
 have cTU3:=TU5.out.cell 3
 simp at cTU0 cTU1 cTU2 cTU3
 have HLN5:Hid ((X++Qh ((t-1)) 2++gamL gz).length=x0+2+gl):=Qa (by rw [List.length_append,HLN4.out,HL.out])
 clear KJ HL HLN4
 have hIG:=(Ints.ofOwn HG5.out (by omega) (fun x hx=>HGF.out.2.2 x hx)).2
 have KP:=Qa (yE aG cG w5.heap.size t G w5 hIG (Nat.le_refl _) ht1 ht4 HGR.out)
 rw [HGL2.out,HUL.out] at KP
 clear hIG
 go_wp2_with fail
 refine (KP.out).mono ?_
 rintro e w6 ⟨D6,hD,rfl,b6⟩
 have s6:=b6.size
 have HW6:=Qa (HW5.out.below b6)
 have BL6:=Qa (Qx BL5.out b6 hbs5)
 have hbs6:base≤w6.heap.size:=by have:=b6.size;omega
 have KK6:=Qa (KK5.out.belowK b6)
 have TB6:=Qa (TB5.out.below b6 TB5.out.lt)
 have TU6:=Qa (TU5.out.below b6 TU5.out.lt)
 have HS6:=Qa (Ql HS5.out b6)
 have HT6:=Qa (Ql HT5.out b6)
 have HR6:=Qa (HR5.out.below b6)
 have HG6:=Qa (Ql HG5.out b6)
 clear b6 HW5 BL5 KK5 TB5 TU5 HS5 HT5 HR5 HG5 cTB0 cTB1 cTB2 cTU0 cTU1 cTU2 cTU3 KP
 have cTB0:=TB6.out.cell 0
 have cTB1:=TB6.out.cell 1
 have cTB2:=TB6.out.cell 2
 simp at cTB0 cTB1 cTB2
 have cTU0:=TU6.out.cell 0
 have cTU1:=TU6.out.cell 1
 have cTU2:=TU6.out.cell 2
 have cTU3:=TU6.out.cell 3
 simp at cTU0 cTU1 cTU2 cTU3
 have HLN6:=HLN5
 go_wp2_with fail
 refine (Jy _ _ _ _).mono ?_
 rintro e w7 ⟨rfl,b7⟩
 have s7:=b7.size
 have HW7:=Qa (HW6.out.below b7)
 have BL7:=Qa (Qx BL6.out b7 hbs6)
 have hbs7:base≤w7.heap.size:=by have:=b7.size;omega
 have KK7:=Qa (KK6.out.belowK b7)
 have TB7:=Qa (TB6.out.below b7 TB6.out.lt)
 have TU7:=Qa (TU6.out.below b7 TU6.out.lt)
 have HS7:=Qa (Ql HS6.out b7)
 have HT7:=Qa (Ql HT6.out b7)
 have HR7:=Qa (HR6.out.below b7)
 have HG7:=Qa (Ql HG6.out b7)
 clear b7 HW6 BL6 KK6 TB6 TU6 HS6 HT6 HR6 HG6 cTB0 cTB1 cTB2 cTU0 cTU1 cTU2 cTU3
 have cTB0:=TB7.out.cell 0
 have cTB1:=TB7.out.cell 1
 have cTB2:=TB7.out.cell 2
 simp at cTB0 cTB1 cTB2
 have cTU0:=TU7.out.cell 0
 have cTU1:=TU7.out.cell 1
 have cTU2:=TU7.out.cell 2
 have cTU3:=TU7.out.cell 3
 simp at cTU0 cTU1 cTU2 cTU3
 have KD:=Qa hD
 clear hD
 have HL:=HUL
 have HLN7:=HLN6
 have hpk:=ZZ KD.out (by rw [HL.out];omega)
 rw [HL.out] at hpk
 have KJ:=Qa (ZH g base _ (Qg D6) ul w7 HW7.out hgb hbs7 hpk.1 (by have:=HLN7.out;omega))
 rw [hpk.2] at KJ
 clear hpk KD
 go_wp2_with fail
 refine (KJ.out).mono ?_
 rintro e w8 ⟨rfl,HWx,b8,k8⟩
 have HW8:Hid (Qp w8 base g (X++Qh ((t-1)) 2++gamL gz++unaL (mtfD G t))):=Qa HWx
 have s8:=b8.size
 have BL8:=Qa (BL7.out.trans b8)
 have hbs8:base≤w8.heap.size:=by have:=BL7.out.size;have:=b8.size;omega
 have KK8:=Qa (KK7.out.trans k8)
 have TB8:=Qa (k8.has (by omega) (by decide) TB7.out)
 have TU8:=Qa (k8.has (by omega) (by decide) TU7.out)
 have HS8:=Qa (k8.own (by decide) HW7.out.has HS7.out)
 have HT8:=Qa (k8.own (by decide) HW7.out.has HT7.out)
 have HR8:=Qa (k8.rows HW7.out.has HR7.out)
 have HG8:=Qa (k8.own (by decide) HW7.out.has HG7.out)
 clear b8 k8 HWx HW7 BL7 KK7 TB7 TU7 HS7 HT7 HR7 HG7 cTB0 cTB1 cTB2 cTU0 cTU1 cTU2 cTU3
 have cTB0:=TB8.out.cell 0
 have cTB1:=TB8.out.cell 1
 have cTB2:=TB8.out.cell 2
 simp at cTB0 cTB1 cTB2
 have cTU0:=TU8.out.cell 0
 have cTU1:=TU8.out.cell 1
 have cTU2:=TU8.out.cell 2
 have cTU3:=TU8.out.cell 3
 simp at cTU0 cTU1 cTU2 cTU3
 have HLN8:Hid ((X++Qh ((t-1)) 2++gamL gz++unaL (mtfD G t)).length=x0+2+gl+ul):=Qa (by rw [List.length_append,HLN7.out,HL.out])
 clear KJ HL HLN7
 clear cTB0 cTB1 cTB2 cTU0 cTU1 cTU2 cTU3
 obtain ⟨p,hp⟩:∃ p,x0+2+gl+ul=p:=⟨_,rfl⟩
 obtain ⟨Y0,hY0⟩:∃ Y0,X++Qh ((t-1)) 2++gamL gz++unaL (mtfD G t)=Y0:=⟨_,rfl⟩
 have hpX:p≤110000:=by omega
 have HLX:Hid (Y0.length=p):=Qa (by rw [←hY0,←hp];exact HLN8.out)
 have HWX:Hid (Qp w8 base g Y0):=Qa (by rw [←hY0];exact HW8.out)
 have HX:Hid (X++symL Z (n+2) t=Y0++ZS T t++cpF Z T G z):=Qa (by rw [HSY.out,HGL2.out,←hY0];simp [List.append_assoc])
 have HPS:Hid (∀ i,ZS T (i+1)=ZS T i++put5 (T.getD i [])):=Qa (fun i=>rfl)
 have HSx:=HS8
 have HTx:=HT8
 have HRx:=HR8
 have HGx:=HG8
 have BLx:=BL8
 have KKx:=KK8
 clear hp hY0 HLN8 HW8 HS8 HT8 HR8 HG8 BL8 KK8 TB8 TU8 HSY
 go_wp2
 go_loopw [10,46] (fun _ si wr=>∃ (i q:Nat) (Y:List Nat),i≤t∧si=.int .i64 i∧Hid (Y=Y0++ZS T i)∧Hid (Y.length=q)∧q≤p+20000*i∧Hid (Qp wr base g Y)∧Hid (wr.ownsRow w0.heap.size 3 1 (.slice aS z cS) z (Qo Z))∧Hid (wr.ownsRow w1.heap.size 99 1 (.slice aT t cT) t V)∧Hid (Zz wr w1.heap.size V T)∧Hid (wr.ownsRow w1.heap.size 3 1 (.slice aG gz cG) gz (Qo G))∧Below base w wr∧Hid (QG g w wr)∧base≤wr.heap.size) (fun _ si _=>t-(intOf si).toNat)
 case atStart=>exact ⟨0,p,Y0,Nat.zero_le _,rfl,Qa (by simp [ZS]),HLX,by omega,HWX,HSx,HTx,HRx,HGx,BLx.out,KKx,hbs8⟩
 case round =>
  clear HWX HSx HTx HRx HGx BLx KKx HLX
  obtain ⟨i,q,Y,hi2,rfl,HY,HYl,hq,HW,HSr,HTr,HRr,HGr,hbl,HK,hsr⟩:=hrel
  by_cases hlt:i<t
  ·have hTab:=XS (T:=T) (by have h:=HTr.out;rw [←HTL2.out] at h;exact h) HRr.out (by rw [HTL2.out];omega) HTF.out
   obtain ⟨bT,oT,a2,c2,rfl,hbT,d0,hlc2,hI2⟩:=hTab.at (i:=i) (by rw [HTL2.out];exact hlt)
   have hok:=HLO.out i hlt
   have h5:=vJ hok
   have hps:=HPS.out i
   obtain ⟨Ti,hTi⟩:∃ Ti,T.getD i []=Ti:=⟨_,rfl⟩
   rw [hTi] at h5 hps d0 hI2 hok
   obtain ⟨tl,htl⟩:∃ tl,Ti.length=tl:=⟨_,rfl⟩
   rw [htl] at d0
   obtain ⟨wa,hwa⟩:∃ wa,wr.alloc (.cells #[.slice a2 tl c2] 99)=wa:=⟨_,rfl⟩
   have ba:Below wr.heap.size wr wa:=by rw [←hwa];exact (Below.refl _ _).alloc (Nat.le_refl _) _
   have hFa:Has wa wr.heap.size 99 #[.slice a2 tl c2]:=by rw [←hwa];exact Has.fresh _ _ _
   have sa:wa.heap.size=wr.heap.size+1:=by rw [←hwa];simp
   have K:=Qa (yD a2 c2 wr.heap.size Ti wa (hI2.below ba) (by omega) hok)
   have e0:=hFa.cell 0
   simp at e0
   obtain ⟨gl2,hgl⟩:∃ gl2,(put5 Ti).length=gl2:=⟨_,rfl⟩
   rw [hgl,htl] at K
   rw [hgl] at h5
   have HGX:=Qa hps
   have HGL:=Qa hgl
   have HWa:=Qa (HW.out.below ba)
   have HSa:=Qa (Ql HSr.out ba)
   have HTa:=Qa (Ql HTr.out ba)
   have HRa:=Qa (HRr.out.below ba)
   have HGa:=Qa (Ql HGr.out ba)
   have HKa:=Qa (HK.out.belowK ba)
   have HBL:=Qa (Qx hbl ba hsr)
   clear hps hgl hbl hTab hI2 hok hTi htl hlc2 hFa ba HW HSr HTr HRr HGr HK
   go_wp2_with fail
   refine K.out.mono ?_
   rintro e w3 ⟨D,hD,rfl,b3⟩
   have hpk:=ZZ hD (by rw [HGL.out];omega)
   rw [HGL.out] at hpk
   have s3:=b3.size
   have HW3:=HWa.out.below b3
   have HS3:=Qa (Ql HSa.out b3)
   have HT3:=Qa (Ql HTa.out b3)
   have HR3:=Qa (HRa.out.below b3)
   have HG3:=Qa (Ql HGa.out b3)
   have HBL3:=Qa (Qx HBL.out b3 (by omega))
   have HK3:=Qa (HKa.out.belowK b3)
   clear K b3 d0 hD e0 hwa HWa HSa HTa HRa HGa HKa HBL
   go_wp2_with fail
   refine (Jy _ _ _ _).mono ?_
   rintro e w4 ⟨rfl,b4⟩
   have s4:=b4.size
   have HW4:=HW3.below b4
   have HS4:=Qa (Ql HS3.out b4)
   have HT4:=Qa (Ql HT3.out b4)
   have HR4:=Qa (HR3.out.below b4)
   have HG4:=Qa (Ql HG3.out b4)
   have HBL4:=Qa (Qx HBL3.out b4 (by omega))
   have HK4:=Qa (HK3.out.belowK b4)
   have KJ:=Qa (ZH g base _ (Qg D) gl2 w4 HW4 hgb (by omega) hpk.1 (by rw [HYl.out];omega))
   rw [hpk.2] at KJ
   have HHB:=Qa HW4.has
   clear b4 HW3 HW4 HS3 HT3 HR3 HG3 HBL3 HK3 hpk
   go_wp2_with fail
   refine KJ.out.mono ?_
   rintro e w5 ⟨rfl,hW5,b5,k5⟩
   have HW5:=Qa hW5
   have HS5:=Qa (k5.own (by decide) HHB.out HS4.out)
   have HT5:=Qa (k5.own (by decide) HHB.out HT4.out)
   have HR5:=Qa (k5.rows HHB.out HR4.out)
   have HG5:=Qa (k5.own (by decide) HHB.out HG4.out)
   have hb5:=Qa (HBL4.out.trans b5)
   have hk5:=Qa (HK4.out.trans k5)
   have s5:=b5.size
   have HY5:Hid (Y++put5 Ti=Y0++ZS T (i+1)):=Qa (by rw [HY.out,HGX.out,List.append_assoc])
   have HYl5:Hid ((Y++put5 Ti).length=q+gl2):=Qa (by rw [List.length_append,HYl.out,HGL.out])
   clear b5 k5 hW5 KJ HS4 HT4 HR4 HG4 HBL4 HK4
   go_wp2
   go_roundw
   case rel=>exact ⟨i+1,q+gl2,_,by omega,by go_num,HY5,HYl5,by omega,HW5,HS5,HT5,HR5,HG5,hb5.out,hk5,by omega⟩
   case measure=>simp [intOf];omega
  ·obtain rfl:i=t:=by omega
   have hTab:=XS (T:=T) (by have h:=HTr.out;rw [←HTL2.out] at h;exact h) HRr.out (by rw [HTL2.out];omega) HTF.out
   have hIS:=(Ints.ofOwn HSr.out (by omega) (fun x hx=>by have:=HSR.out x hx;omega)).2
   have hIG:=(Ints.ofOwn HGr.out (by omega) (fun x hx=>HGF.out.2.2 x hx)).2
   have hcT:=Xu HTr.out
   have K:=Qa (yk aS aT aG cS cT cG wr.heap.size Z G T wr hIS hTab hIG (Nat.le_refl _) (by rw [HZZ.out];exact hcS) (by rw [HTL2.out];exact hcT) HCD.out)
   rw [HZZ.out,HTL2.out,HGL2.out,HCP.out] at K
   have HBL:=Qa hbl
   clear hbl hTab hIS hIG hcT
   go_wp2_with fail
   refine K.out.mono ?_
   rintro e w3 ⟨D,hD,rfl,b3⟩
   have hpk:=ZZ hD (by rw [HCE.out];omega)
   rw [HCE.out] at hpk
   have s3:=b3.size
   have HW3:=HW.out.below b3
   have HBL3:=Qa (Qx HBL.out b3 hsr)
   have HK3:=Qa (HK.out.belowK b3)
   clear K b3 hD HBL HK HW
   go_wp2_with fail
   refine (Jy _ _ _ _).mono ?_
   rintro e w4 ⟨rfl,b4⟩
   have s4:=b4.size
   have HW4:=HW3.below b4
   have HBL4:=Qa (Qx HBL3.out b4 (by omega))
   have HK4:=Qa (HK3.out.belowK b4)
   have KJ:=Qa (ZH g base _ (Qg D) cp w4 HW4 hgb (by omega) hpk.1 (by rw [HYl.out];omega))
   rw [hpk.2] at KJ
   clear b4 HW3 HW4 HBL3 HK3 hpk
   go_wp2_with fail
   refine KJ.out.mono ?_
   rintro e w5 ⟨rfl,hW5,b5,k5⟩
   have HW5:Hid (Qp w5 base g (X++symL Z (n+2) i)):=Qa (by rw [HX.out,←HY.out];exact hW5)
   have hb5:=Qa (HBL4.out.trans b5)
   have hk5:=Qa (HK4.out.trans k5)
   clear b5 k5 hW5 KJ HBL4 HK4
   go_wp2
   go_end0
   exact ⟨rfl,HW5.out,hb5.out,hk5.out⟩
theorem APd (s:ByteArray):∀ k,k≤s.size→row s 0 (8*k)=b8F (Qb s) k
 | 0,_=>rfl
 | k+1,h=>by
   have e1:row s (8*k) 8=Qh ((Qb s).getD k 0) 8:=by
    have h1:=zM (row s (8*k) 8) (qI s (8*k) 8)
    rw [ZY] at h1
    have h2:=jj s (8*k) 8 (by omega)
    rw [show 8*k / 8=k by omega,show 8*k % 8=0 by omega] at h2
    have h3:=zC s k
    rw [←h1,h2,←Zn]
    congr 1
    have:Xr s k / 2^(8-0-8) % 2^8=Xr s k:=by simp;omega
    rw [Zn]
    exact this
   show row s 0 (8*(k+1))=b8F (Qb s) k++Qh ((Qb s).getD k 0) 8
   rw [show 8*(k+1)=8*k+8 by omega,xy,APd s k (by omega),Nat.zero_add,e1]
theorem AFw (s:ByteArray) (w:World) (hs:0<s.size∧s.size≤600) :
 Calls Tryz.prog 13 #[.string s,.agg #[.int .i64 0,.bool false,.int .i64 0]] w fun e w'=>∃ D,Packs D (stoL s)∧e=.returned (.tuple #[.agg #[.string (Qg D),.int .i64 ((stoL s).length:Int)],.bool true])∧Below w.heap.size w w':=by
 have KO:=Qa (fun W=>XN s W (by omega))
 have KW:=Qa (fun W=>Jj 0 0 false W)
 rw [show QH 0 false 0=true from (by simp [QH])] at KW
 rw [decide_eq_true hs] at KO
 have KM:=Qa (fun W=>YU 0 0 false W (by omega))
 have hg40:=QY hs.1 (by omega:s.size≤1048575)
 have KG:=Qa (fun W=>ZI s.size W hs.1 (by omega))
 obtain ⟨gs,hgs⟩:∃ gs,(gamL s.size).length=gs:=⟨_,rfl⟩
 rw [hgs] at KG hg40
 have HGS:=Qa hgs
 have KC:=Qa (fun W=>VT s W (by unfold maxLen;omega))
 have hcr:=vu s
 obtain ⟨cr,hcre⟩:∃ cr,crcN s=cr:=⟨_,rfl⟩
 rw [hcre] at KC hcr
 have HCR:=Qa hcre
 have KWR:=Qa (fun W=>Zw ⟨#[]⟩ 0 W (by decide))
 clear hgs hcre
 have hmv:Vu 0 false 0=.iface 70 (.agg #[]):=by simp [Vu]
 rw [hmv] at KM
 have a0:=jy
 have KB:=Qa (fun W=>AAb s W (by omega))
 have HXX:Hid (stoL s=Qh 0 2++gamL s.size++Qh cr 32++b8F (Qb s) s.size):=Qa (by unfold stoL;rw [HCR.out])
 have HB8:=Qa (APd s s.size (Nat.le_refl _))
 have hok8:=xd s (by omega:s.size≤50000)
 obtain ⟨wi,hwe⟩:∃ wi,(w.alloc (.cells #[.int .i64 0,.bool false,.int .i64 0] 26)).alloc (.cells #[.string ⟨#[]⟩,.int .i64 0] 32)=wi:=⟨_,rfl⟩
 have hwi:wi.heap.size=w.heap.size+2:=by rw [←hwe];simp
 have bi:Below w.heap.size w wi:=by rw [←hwe];exact ((Below.refl _ _).alloc (Nat.le_refl _) _).alloc (by simp) _
 have HWb:Has wi w.heap.size 26 #[.int .i64 0,.bool false,.int .i64 0]:=by rw [←hwe];exact (Has.fresh _ _ _).alloc _
 have HRb:Has wi (w.heap.size+1) 32 #[.string ⟨#[]⟩,.int .i64 0]:=by rw [←hwe];exact Has.freshAt (by simp) _ _
 have c0:=HWb.cell 0
 have c1:=HWb.cell 1
 have c2:=HWb.cell 2
 simp at c0 c1 c2
 clear hmv
 go_enter Tryz.func13,Tryz.ntmps13
 go_wp2_with fail
 refine (KO.out _).mono ?_
 rintro e wz ⟨rfl,rfl⟩
 go_wp2_with fail
 refine (KW.out _).mono ?_
 rintro e wy ⟨rfl,by1⟩
 have sy:=by1.size
 have By:=Qc by1 (by omega) bi
 have HWy:=HWb.below by1 HWb.lt
 have HRy:=HRb.below by1 HRb.lt
 clear by1 HWb HRb bi c0 c1 c2 KO KW hwe
 go_wp2_with fail
 refine (KWR.out _).mono ?_
 rintro e w0 ⟨g,rfl,hW,hgb,b0⟩
 have s0:=b0.size
 obtain ⟨base,hbase⟩:∃ base,wy.heap.size=base:=⟨_,rfl⟩
 have Bz:=Qc b0 (by omega) By
 have WB0:=Qa (HWy.below b0 HWy.lt)
 have RB0:=Qa (HRy.below b0 HRy.lt)
 rw [hbase] at hW hgb s0
 have hb2:w.heap.size+2≤base:=by omega
 have hbs0:base≤w0.heap.size:=s0
 have HW0:Hid (Qp w0 base g []):=Qa hW
 have BL0:Hid (Below base w0 w0):=Qa (Below.refl _ _)
 have KK0:Hid (QG g w0 w0):=Qa (QG.refl _ _)
 have HLN0:Hid (([]:List Nat).length=0):=Qa rfl
 have hgl0:=HW0.out.lt
 clear hW b0 HWy HRy KWR By hbase sy
 have cWB0:=WB0.out.cell 0
 have cWB1:=WB0.out.cell 1
 have cWB2:=WB0.out.cell 2
 simp at cWB0 cWB1 cWB2
 have cRB0:=RB0.out.cell 0
 have cRB1:=RB0.out.cell 1
 simp at cRB0 cRB1
 have KJ:=Qa (QS g base _ 0 2 w0 HW0.out hgb hbs0 (by omega) (by omega) (by have:=HLN0.out;omega))
 go_wp2_with fail
 refine (KJ.out).mono ?_
 rintro e w1 ⟨rfl,HWx,b1,k1⟩
 have HW1:Hid (Qp w1 base g ([]++Qh 0 2)):=Qa HWx
 have s1:=b1.size
 have BL1:=Qa (BL0.out.trans b1)
 have hbs1:base≤w1.heap.size:=by have:=BL0.out.size;have:=b1.size;omega
 have KK1:=Qa (KK0.out.trans k1)
 have WB1:=Qa (k1.has (by omega) (by decide) WB0.out)
 have RB1:=Qa (k1.has (by omega) (by decide) RB0.out)
 clear b1 k1 HWx HW0 BL0 KK0 WB0 RB0 cWB0 cWB1 cWB2 cRB0 cRB1
 have cWB0:=WB1.out.cell 0
 have cWB1:=WB1.out.cell 1
 have cWB2:=WB1.out.cell 2
 simp at cWB0 cWB1 cWB2
 have cRB0:=RB1.out.cell 0
 have cRB1:=RB1.out.cell 1
 simp at cRB0 cRB1
 have HLN1:Hid (([]++Qh 0 2).length=0+2):=Qa (by rw [List.length_append,HLN0.out,Qt])
 clear KJ HLN0
 go_wp2_with fail
 refine (KG.out _).mono ?_
 rintro e w2 ⟨D2,hD,rfl,b2⟩
 have s2:=b2.size
 have HW2:=Qa (HW1.out.below b2)
 have BL2:=Qa (Qx BL1.out b2 hbs1)
 have hbs2:base≤w2.heap.size:=by have:=b2.size;omega
 have KK2:=Qa (KK1.out.belowK b2)
 have WB2:=Qa (WB1.out.below b2 WB1.out.lt)
 have RB2:=Qa (RB1.out.below b2 RB1.out.lt)
 clear b2 HW1 BL1 KK1 WB1 RB1 cWB0 cWB1 cWB2 cRB0 cRB1 KG
 have cWB0:=WB2.out.cell 0
 have cWB1:=WB2.out.cell 1
 have cWB2:=WB2.out.cell 2
 simp at cWB0 cWB1 cWB2
 have cRB0:=RB2.out.cell 0
 have cRB1:=RB2.out.cell 1
 simp at cRB0 cRB1
 have KD:=Qa hD
 clear hD
 have HL:=HGS
 have HLN2:=HLN1
 have hpk:=ZZ KD.out (by rw [HL.out];omega)
 rw [HL.out] at hpk
 have KJ:=Qa (ZH g base _ (Qg D2) gs w2 HW2.out hgb hbs2 hpk.1 (by have:=HLN2.out;omega))
 rw [hpk.2] at KJ
 clear hpk KD
 go_wp2_with fail
 refine (KJ.out).mono ?_
 rintro e w3 ⟨rfl,HWx,b3,k3⟩
 have HW3:Hid (Qp w3 base g ([]++Qh 0 2++gamL s.size)):=Qa HWx
 have s3:=b3.size
 have BL3:=Qa (BL2.out.trans b3)
 have hbs3:base≤w3.heap.size:=by have:=BL2.out.size;have:=b3.size;omega
 have KK3:=Qa (KK2.out.trans k3)
 have WB3:=Qa (k3.has (by omega) (by decide) WB2.out)
 have RB3:=Qa (k3.has (by omega) (by decide) RB2.out)
 clear b3 k3 HWx HW2 BL2 KK2 WB2 RB2 cWB0 cWB1 cWB2 cRB0 cRB1
 have cWB0:=WB3.out.cell 0
 have cWB1:=WB3.out.cell 1
 have cWB2:=WB3.out.cell 2
 simp at cWB0 cWB1 cWB2
 have cRB0:=RB3.out.cell 0
 have cRB1:=RB3.out.cell 1
 simp at cRB0 cRB1
 have HLN3:Hid (([]++Qh 0 2++gamL s.size).length=0+2+gs):=Qa (by rw [List.length_append,HLN2.out,HL.out])
 clear KJ HL HLN2
 go_wp2_with fail
 refine (KC.out _).mono ?_
 rintro e w4 ⟨rfl,b4⟩
 have s4:=b4.size
 have HW4:=Qa (HW3.out.below b4)
 have BL4:=Qa (Qx BL3.out b4 hbs3)
 have hbs4:base≤w4.heap.size:=by have:=b4.size;omega
 have KK4:=Qa (KK3.out.belowK b4)
 have WB4:=Qa (WB3.out.below b4 WB3.out.lt)
 have RB4:=Qa (RB3.out.below b4 RB3.out.lt)
 clear b4 HW3 BL3 KK3 WB3 RB3 cWB0 cWB1 cWB2 cRB0 cRB1 KC
 have cWB0:=WB4.out.cell 0
 have cWB1:=WB4.out.cell 1
 have cWB2:=WB4.out.cell 2
 simp at cWB0 cWB1 cWB2
 have cRB0:=RB4.out.cell 0
 have cRB1:=RB4.out.cell 1
 simp at cRB0 cRB1
 have HLN4:=HLN3
 have KJ:=Qa (QS g base _ cr 32 w4 HW4.out hgb hbs4 (by omega) (by omega) (by have:=HLN4.out;omega))
 go_wp2_with fail
 refine (KJ.out).mono ?_
 rintro e w5 ⟨rfl,HWx,b5,k5⟩
 have HW5:Hid (Qp w5 base g ([]++Qh 0 2++gamL s.size++Qh cr 32)):=Qa HWx
 have s5:=b5.size
 have BL5:=Qa (BL4.out.trans b5)
 have hbs5:base≤w5.heap.size:=by have:=BL4.out.size;have:=b5.size;omega
 have KK5:=Qa (KK4.out.trans k5)
 have WB5:=Qa (k5.has (by omega) (by decide) WB4.out)
 have RB5:=Qa (k5.has (by omega) (by decide) RB4.out)
 clear b5 k5 HWx HW4 BL4 KK4 WB4 RB4 cWB0 cWB1 cWB2 cRB0 cRB1
 have cWB0:=WB5.out.cell 0
 have cWB1:=WB5.out.cell 1
 have cWB2:=WB5.out.cell 2
 simp at cWB0 cWB1 cWB2
 have cRB0:=RB5.out.cell 0
 have cRB1:=RB5.out.cell 1
 simp at cRB0 cRB1
 have HLN5:Hid (([]++Qh 0 2++gamL s.size++Qh cr 32).length=0+2+gs+32):=Qa (by rw [List.length_append,HLN4.out,Qt])
 clear KJ HLN4
 go_wp2_with fail
 refine (KM.out _).mono ?_
 rintro e w6 ⟨rfl,b6⟩
 have s6:=b6.size
 have HW6:=Qa (HW5.out.below b6)
 have BL6:=Qa (Qx BL5.out b6 hbs5)
 have hbs6:base≤w6.heap.size:=by have:=b6.size;omega
 have KK6:=Qa (KK5.out.belowK b6)
 have WB6:=Qa (WB5.out.below b6 WB5.out.lt)
 have RB6:=Qa (RB5.out.below b6 RB5.out.lt)
 clear b6 HW5 BL5 KK5 WB5 RB5 cWB0 cWB1 cWB2 cRB0 cRB1 KM
 have cWB0:=WB6.out.cell 0
 have cWB1:=WB6.out.cell 1
 have cWB2:=WB6.out.cell 2
 simp at cWB0 cWB1 cWB2
 have cRB0:=RB6.out.cell 0
 have cRB1:=RB6.out.cell 1
 simp at cRB0 cRB1
 have HLN6:=HLN5
 obtain ⟨w7,hw7⟩:∃ wt,w6.alloc (.cells #[] 70)=wt:=⟨_,rfl⟩
 have b7:Below w6.heap.size w6 w7:=by rw [←hw7];exact (Below.refl _ _).alloc (Nat.le_refl _) _
 have s7:w7.heap.size=w6.heap.size+1:=by rw [←hw7];simp
 have HW7:=Qa (HW6.out.below b7)
 have BL7:=Qa (Qx BL6.out b7 hbs6)
 have hbs7:base≤w7.heap.size:=by omega
 have KK7:=Qa (KK6.out.belowK b7)
 have HLN7:=HLN6
 have WB7:=Qa (WB6.out.below b7 WB6.out.lt)
 have RB7:=Qa (RB6.out.below b7 RB6.out.lt)
 clear b7 HW6 BL6 KK6 HLN6 WB6 RB6 cWB0 cWB1 cWB2 cRB0 cRB1
 have cWB0:=WB7.out.cell 0
 have cWB1:=WB7.out.cell 1
 have cWB2:=WB7.out.cell 2
 simp at cWB0 cWB1 cWB2
 have cRB0:=RB7.out.cell 0
 have cRB1:=RB7.out.cell 1
 simp at cRB0 cRB1
 go_wp2_with fail
 refine (KB.out _).mono ?_
 rintro e w8 ⟨rfl,b8⟩
 have s8:=b8.size
 have HW8:=Qa (HW7.out.below b8)
 have BL8:=Qa (Qx BL7.out b8 hbs7)
 have hbs8:base≤w8.heap.size:=by have:=b8.size;omega
 have KK8:=Qa (KK7.out.belowK b8)
 have WB8:=Qa (WB7.out.below b8 WB7.out.lt)
 have RB8:=Qa (RB7.out.below b8 RB7.out.lt)
 clear b8 HW7 BL7 KK7 WB7 RB7 cWB0 cWB1 cWB2 cRB0 cRB1 KB hw7
 have cWB0:=WB8.out.cell 0
 have cWB1:=WB8.out.cell 1
 have cWB2:=WB8.out.cell 2
 simp at cWB0 cWB1 cWB2
 have cRB0:=RB8.out.cell 0
 have cRB1:=RB8.out.cell 1
 simp at cRB0 cRB1
 have HLN8:=HLN7
 go_wp2_with fail
 refine (Jy _ _ _ _).mono ?_
 rintro e w9 ⟨rfl,b9⟩
 have s9:=b9.size
 have HW9:=Qa (HW8.out.below b9)
 have BL9:=Qa (Qx BL8.out b9 hbs8)
 have hbs9:base≤w9.heap.size:=by have:=b9.size;omega
 have KK9:=Qa (KK8.out.belowK b9)
 have WB9:=Qa (WB8.out.below b9 WB8.out.lt)
 have RB9:=Qa (RB8.out.below b9 RB8.out.lt)
 clear b9 HW8 BL8 KK8 WB8 RB8 cWB0 cWB1 cWB2 cRB0 cRB1
 have cWB0:=WB9.out.cell 0
 have cWB1:=WB9.out.cell 1
 have cWB2:=WB9.out.cell 2
 simp at cWB0 cWB1 cWB2
 have cRB0:=RB9.out.cell 0
 have cRB1:=RB9.out.cell 1
 simp at cRB0 cRB1
 have HLN9:=HLN8
 have KJ:=Qa (ZH g base _ s (8*s.size) w9 HW9.out hgb hbs9 hok8 (by have:=HLN9.out;omega))
 rw [HB8.out] at KJ
 go_wp2_with fail
 refine (KJ.out).mono ?_
 rintro e w10 ⟨rfl,HWx,b10,k10⟩
 have HW10:Hid (Qp w10 base g ([]++Qh 0 2++gamL s.size++Qh cr 32++b8F (Qb s) s.size)):=Qa HWx
 have s10:=b10.size
 have BL10:=Qa (BL9.out.trans b10)
 have hbs10:base≤w10.heap.size:=by have:=BL9.out.size;have:=b10.size;omega
 have KK10:=Qa (KK9.out.trans k10)
 have WB10:=Qa (k10.has (by omega) (by decide) WB9.out)
 have RB10:=Qa (k10.has (by omega) (by decide) RB9.out)
 clear b10 k10 HWx HW9 BL9 KK9 WB9 RB9 cWB0 cWB1 cWB2 cRB0 cRB1
 have cWB0:=WB10.out.cell 0
 have cWB1:=WB10.out.cell 1
 have cWB2:=WB10.out.cell 2
 simp at cWB0 cWB1 cWB2
 have cRB0:=RB10.out.cell 0
 have cRB1:=RB10.out.cell 1
 simp at cRB0 cRB1
 have HLN10:Hid (([]++Qh 0 2++gamL s.size++Qh cr 32++b8F (Qb s) s.size).length=0+2+gs+32+8*s.size):=Qa (by rw [List.length_append,HLN9.out,AAd])
 clear KJ HLN9
 clear cWB0 cWB1 cWB2 cRB0 cRB1
 have KBI:=Qa (Xm g base _ w10 HW10.out)
 rw [HLN10.out] at KBI
 have HEQ:Hid (stoL s=[]++Qh 0 2++gamL s.size++Qh cr 32++b8F (Qb s) s.size):=Qa (by rw [HXX.out];simp [List.append_assoc])
 have HLE:Hid ((stoL s).length=0+2+gs+32+8*s.size):=Qa (by rw [HEQ.out];exact HLN10.out)
 go_wp2_with fail
 refine KBI.out.mono ?_
 rintro e wf ⟨D,hD,rfl,bf⟩
 have RBf:=RB10.out.below bf RB10.out.lt
 have e0:=RBf.cell 0
 have e1:=RBf.cell 1
 have g0:=RBf.free 0
 have g1:=RBf.free 1
 simp at e0 e1
 have hfb:Below w.heap.size w wf:=Bz.trans ((Qx BL10.out bf hbs10).mono (by omega))
 have HDD:=Qa hD
 clear bf hD KBI RBf
 go_wp2
 refine bodyPost_ret (v:=.tuple #[.agg #[.string (Qg D),.int .i64 ((0+2+gs+32+8*s.size:Nat):Int)],.bool true]) (by simp [results,Tryz.results13,go_sem,e0,e1,g0,g1]) rfl ⟨D,by rw [HEQ.out];exact HDD.out,by rw [HLE.out],?_⟩
 repeat (first | assumption | refine Below.setCell ?_ (by (try simp);(try omega)) _)
theorem qk (s:ByteArray) (m t:Nat) (b:Bool) (w:World) (hs:0<s.size∧s.size≤600) (hm:m=1∨m=2) (ht1:1≤t) (ht4:t≤4) :
 Calls Tryz.prog 13 #[.string s,.agg #[.int .i64 (m:Int),.bool b,.int .i64 (t:Int)]] w fun e w'=>∃ D,Packs D (QP s m b++symL (stgZ s m b t) ((ordB (Qb s) b).length+2) t)∧e=.returned (.tuple #[.agg #[.string (Qg D),.int .i64 ((QP s m b++symL (stgZ s m b t) ((ordB (Qb s) b).length+2) t).length:Int)],.bool true])∧Below w.heap.size w w':=by
 have KO:=Qa (fun W=>XN s W (by omega))
 have KW:=Qa (fun W=>Jj m t b W)
 rw [show QH m b t=true from (by rcases hm with rfl | rfl <;> simp [QH] <;> omega)] at KW
 rw [decide_eq_true hs] at KO
 have KM:=Qa (fun W=>YU m t b W (by omega))
 have hg40:=QY hs.1 (by omega:s.size≤1048575)
 have KG:=Qa (fun W=>ZI s.size W hs.1 (by omega))
 obtain ⟨gs,hgs⟩:∃ gs,(gamL s.size).length=gs:=⟨_,rfl⟩
 rw [hgs] at KG hg40
 have HGS:=Qa hgs
 have KC:=Qa (fun W=>VT s W (by unfold maxLen;omega))
 have hcr:=vu s
 obtain ⟨cr,hcre⟩:∃ cr,crcN s=cr:=⟨_,rfl⟩
 rw [hcre] at KC hcr
 have HCR:=Qa hcre
 have KWR:=Qa (fun W=>Zw ⟨#[]⟩ 0 W (by decide))
 clear hgs hcre
 obtain ⟨tt,htt⟩:∃ tt,Vu m b t=.iface 53 (.agg #[.iface tt (.agg #[]),.bool b,.int .i64 (t:Int)])∧∀ (us:ByteArray) (fi:Int) (O:List Nat) (n:Nat) W,Byt O→O.length=n→n≤256→rOk (rkS s O) n=true →
  Calls Tryz.prog 29 #[.agg #[.iface tt (.agg #[]),.bool b,.int .i64 (t:Int)],.agg #[.string (lstZ s),.int .i64 fi,.string us,.string (Qg O)]] W fun e w'=>∃ v,e=.returned v∧w'.ownsRow W.heap.size 3 1 v (stgR (rkS s O) m n).length (Qo (stgR (rkS s O) m n))∧Below W.heap.size W w':=by
  rcases hm with rfl | rfl
  ·exact ⟨_,by simp [Vu,recV],fun us fi O n W h1 h2 h3 h4=>AMm s us fi t b O n W hs h1 h2 h3 h4⟩
  ·exact ⟨_,by simp [Vu,recV],fun us fi O n W h1 h2 h3 h4=>ALe s us fi t b O n W hs h1 h2 h3 h4⟩
 obtain ⟨hmv,hsy⟩:=htt
 have HSYM:=Qa hsy
 have hm2:(m:Int)=1∨(m:Int)=2:=by omega
 clear hsy
 rw [hmv] at KM
 have a0:=jW
 have a1:=jx
 have KT:=Qa (fun (rc:Value) W=>AEh rc s b W (by omega))
 obtain ⟨f,hf,hf6⟩:=qp hs
 have hU:=qa hs.1
 have hUb:=Xk (Qb s)
 have HOR:Hid (QO (Qb s) (ordB (Qb s) b)∨ordB (Qb s) b=Qm (Qb s)→ZA (ordB (Qb s) b)=true∧Byt (ordB (Qb s) b)∧(ordB (Qb s) b).length≤256∧Qm (ordB (Qb s) b)=Qm (Qb s)∧rOk (rkS s (ordB (Qb s) b)) ((ordB (Qb s) b).length:Int)=true):=Qa (fun h=>by
  obtain ⟨h1,h2,h3,_,_,h6⟩:=Vl (Ja hs.1) (QA s) h
  exact ⟨h1,h2,h3,h6,(qF hs h).1⟩)
 have e5:=(AFh (m:=m) (b:=b) (t:=t) hs (by rcases hm with rfl | rfl <;> simp [QH] <;> omega)).symm
 have HTL:Hid (QP s m b=Qh m 2++gamL s.size++Qh cr 32++(gamL (f+1)++Qr (Qm (Qb s))++wrT b (Qm (Qb s)) (ordB (Qb s) b))):=Qa (by unfold QP;rw [hf,HCR.out,Int.toNat_natCast];cases b <;> simp [wrT,List.append_assoc])
 obtain ⟨U,hUe⟩:∃ U,Qm (Qb s)=U:=⟨_,rfl⟩
 obtain ⟨O,hOe⟩:∃ O,ordB (Qb s) b=O:=⟨_,rfl⟩
 obtain ⟨Z,hZe⟩:∃ Z,stgZ s m b t=Z:=⟨_,rfl⟩
 have htv:turV s b=.agg #[.string (lstZ s),.int .i64 (f:Int),.string (Qg U),.string (Qg O)]:=by unfold turV;rw [hUe,hOe,hf]
 rw [htv] at KT
 rw [hUe,hOe] at KT HOR HTL
 rw [hUe] at hU hUb
 rw [hOe,hZe] at e5
 have HZS:=Qa e5
 have HSB:=Qa (JZ s m b t)
 rw [hZe] at HSB
 rw [hOe,hZe]
 obtain ⟨wi,hwe⟩:∃ wi,(w.alloc (.cells #[.int .i64 (m:Int),.bool b,.int .i64 (t:Int)] 26)).alloc (.cells #[.string ⟨#[]⟩,.int .i64 0] 32)=wi:=⟨_,rfl⟩
 have hwi:wi.heap.size=w.heap.size+2:=by rw [←hwe];simp
 have bi:Below w.heap.size w wi:=by rw [←hwe];exact ((Below.refl _ _).alloc (Nat.le_refl _) _).alloc (by simp) _
 have HWb:Has wi w.heap.size 26 #[.int .i64 (m:Int),.bool b,.int .i64 (t:Int)]:=by rw [←hwe];exact (Has.fresh _ _ _).alloc _
 have HRb:Has wi (w.heap.size+1) 32 #[.string ⟨#[]⟩,.int .i64 0]:=by rw [←hwe];exact Has.freshAt (by simp) _ _
 have c0:=HWb.cell 0
 have c1:=HWb.cell 1
 have c2:=HWb.cell 2
 simp at c0 c1 c2
 clear hmv
 go_enter Tryz.func13,Tryz.ntmps13
 go_wp2_with fail
 refine (KO.out _).mono ?_
 rintro e wz ⟨rfl,rfl⟩
 go_wp2_with fail
 refine (KW.out _).mono ?_
 rintro e wy ⟨rfl,by1⟩
 have sy:=by1.size
 have By:=Qc by1 (by omega) bi
 have HWy:=HWb.below by1 HWb.lt
 have HRy:=HRb.below by1 HRb.lt
 clear by1 HWb HRb bi c0 c1 c2 KO KW hwe
 go_wp2_with fail
 refine (KWR.out _).mono ?_
 rintro e w0 ⟨g,rfl,hW,hgb,b0⟩
 have s0:=b0.size
 obtain ⟨base,hbase⟩:∃ base,wy.heap.size=base:=⟨_,rfl⟩
 have Bz:=Qc b0 (by omega) By
 have WB0:=Qa (HWy.below b0 HWy.lt)
 have RB0:=Qa (HRy.below b0 HRy.lt)
 rw [hbase] at hW hgb s0
 have hb2:w.heap.size+2≤base:=by omega
 have hbs0:base≤w0.heap.size:=s0
 have HW0:Hid (Qp w0 base g []):=Qa hW
 have BL0:Hid (Below base w0 w0):=Qa (Below.refl _ _)
 have KK0:Hid (QG g w0 w0):=Qa (QG.refl _ _)
 have HLN0:Hid (([]:List Nat).length=0):=Qa rfl
 have hgl0:=HW0.out.lt
 clear hW b0 HWy HRy KWR By hbase sy
 clear hUe hOe hZe hf htv e5
 have cWB0:=WB0.out.cell 0
 have cWB1:=WB0.out.cell 1
 have cWB2:=WB0.out.cell 2
 simp at cWB0 cWB1 cWB2
 have cRB0:=RB0.out.cell 0
 have cRB1:=RB0.out.cell 1
 simp at cRB0 cRB1
 have KJ:=Qa (QS g base _ m 2 w0 HW0.out hgb hbs0 (by omega) (by omega) (by have:=HLN0.out;omega))
 go_wp2_with fail
 refine (KJ.out).mono ?_
 rintro e w1 ⟨rfl,HWx,b1,k1⟩
 have HW1:Hid (Qp w1 base g ([]++Qh m 2)):=Qa HWx
 have s1:=b1.size
 have BL1:=Qa (BL0.out.trans b1)
 have hbs1:base≤w1.heap.size:=by have:=BL0.out.size;have:=b1.size;omega
 have KK1:=Qa (KK0.out.trans k1)
 have WB1:=Qa (k1.has (by omega) (by decide) WB0.out)
 have RB1:=Qa (k1.has (by omega) (by decide) RB0.out)
 clear b1 k1 HWx HW0 BL0 KK0 WB0 RB0 cWB0 cWB1 cWB2 cRB0 cRB1
 have cWB0:=WB1.out.cell 0
 have cWB1:=WB1.out.cell 1
 have cWB2:=WB1.out.cell 2
 simp at cWB0 cWB1 cWB2
 have cRB0:=RB1.out.cell 0
 have cRB1:=RB1.out.cell 1
 simp at cRB0 cRB1
 have HLN1:Hid (([]++Qh m 2).length=0+2):=Qa (by rw [List.length_append,HLN0.out,Qt])
 clear KJ HLN0
 go_wp2_with fail
 refine (KG.out _).mono ?_
 rintro e w2 ⟨D2,hD,rfl,b2⟩
 have s2:=b2.size
 have HW2:=Qa (HW1.out.below b2)
 have BL2:=Qa (Qx BL1.out b2 hbs1)
 have hbs2:base≤w2.heap.size:=by have:=b2.size;omega
 have KK2:=Qa (KK1.out.belowK b2)
 have WB2:=Qa (WB1.out.below b2 WB1.out.lt)
 have RB2:=Qa (RB1.out.below b2 RB1.out.lt)
 clear b2 HW1 BL1 KK1 WB1 RB1 cWB0 cWB1 cWB2 cRB0 cRB1 KG
 have cWB0:=WB2.out.cell 0
 have cWB1:=WB2.out.cell 1
 have cWB2:=WB2.out.cell 2
 simp at cWB0 cWB1 cWB2
 have cRB0:=RB2.out.cell 0
 have cRB1:=RB2.out.cell 1
 simp at cRB0 cRB1
 have KD:=Qa hD
 clear hD
 have HL:=HGS
 have HLN2:=HLN1
 have hpk:=ZZ KD.out (by rw [HL.out];omega)
 rw [HL.out] at hpk
 have KJ:=Qa (ZH g base _ (Qg D2) gs w2 HW2.out hgb hbs2 hpk.1 (by have:=HLN2.out;omega))
 rw [hpk.2] at KJ
 clear hpk KD
 go_wp2_with fail
 refine (KJ.out).mono ?_
 rintro e w3 ⟨rfl,HWx,b3,k3⟩
 have HW3:Hid (Qp w3 base g ([]++Qh m 2++gamL s.size)):=Qa HWx
 have s3:=b3.size
 have BL3:=Qa (BL2.out.trans b3)
 have hbs3:base≤w3.heap.size:=by have:=BL2.out.size;have:=b3.size;omega
 have KK3:=Qa (KK2.out.trans k3)
 have WB3:=Qa (k3.has (by omega) (by decide) WB2.out)
 have RB3:=Qa (k3.has (by omega) (by decide) RB2.out)
 clear b3 k3 HWx HW2 BL2 KK2 WB2 RB2 cWB0 cWB1 cWB2 cRB0 cRB1
 have cWB0:=WB3.out.cell 0
 have cWB1:=WB3.out.cell 1
 have cWB2:=WB3.out.cell 2
 simp at cWB0 cWB1 cWB2
 have cRB0:=RB3.out.cell 0
 have cRB1:=RB3.out.cell 1
 simp at cRB0 cRB1
 have HLN3:Hid (([]++Qh m 2++gamL s.size).length=0+2+gs):=Qa (by rw [List.length_append,HLN2.out,HL.out])
 clear KJ HL HLN2
 go_wp2_with fail
 refine (KC.out _).mono ?_
 rintro e w4 ⟨rfl,b4⟩
 have s4:=b4.size
 have HW4:=Qa (HW3.out.below b4)
 have BL4:=Qa (Qx BL3.out b4 hbs3)
 have hbs4:base≤w4.heap.size:=by have:=b4.size;omega
 have KK4:=Qa (KK3.out.belowK b4)
 have WB4:=Qa (WB3.out.below b4 WB3.out.lt)
 have RB4:=Qa (RB3.out.below b4 RB3.out.lt)
 clear b4 HW3 BL3 KK3 WB3 RB3 cWB0 cWB1 cWB2 cRB0 cRB1 KC
 have cWB0:=WB4.out.cell 0
 have cWB1:=WB4.out.cell 1
 have cWB2:=WB4.out.cell 2
 simp at cWB0 cWB1 cWB2
 have cRB0:=RB4.out.cell 0
 have cRB1:=RB4.out.cell 1
 simp at cRB0 cRB1
 have HLN4:=HLN3
 have KJ:=Qa (QS g base _ cr 32 w4 HW4.out hgb hbs4 (by omega) (by omega) (by have:=HLN4.out;omega))
 go_wp2_with fail
 refine (KJ.out).mono ?_
 rintro e w5 ⟨rfl,HWx,b5,k5⟩
 have HW5:Hid (Qp w5 base g ([]++Qh m 2++gamL s.size++Qh cr 32)):=Qa HWx
 have s5:=b5.size
 have BL5:=Qa (BL4.out.trans b5)
 have hbs5:base≤w5.heap.size:=by have:=BL4.out.size;have:=b5.size;omega
 have KK5:=Qa (KK4.out.trans k5)
 have WB5:=Qa (k5.has (by omega) (by decide) WB4.out)
 have RB5:=Qa (k5.has (by omega) (by decide) RB4.out)
 clear b5 k5 HWx HW4 BL4 KK4 WB4 RB4 cWB0 cWB1 cWB2 cRB0 cRB1
 have cWB0:=WB5.out.cell 0
 have cWB1:=WB5.out.cell 1
 have cWB2:=WB5.out.cell 2
 simp at cWB0 cWB1 cWB2
 have cRB0:=RB5.out.cell 0
 have cRB1:=RB5.out.cell 1
 simp at cRB0 cRB1
 have HLN5:Hid (([]++Qh m 2++gamL s.size++Qh cr 32).length=0+2+gs+32):=Qa (by rw [List.length_append,HLN4.out,Qt])
 clear KJ HLN4
 go_wp2_with fail
 refine (KM.out _).mono ?_
 rintro e w6 ⟨rfl,b6⟩
 have s6:=b6.size
 have HW6:=Qa (HW5.out.below b6)
 have BL6:=Qa (Qx BL5.out b6 hbs5)
 have hbs6:base≤w6.heap.size:=by have:=b6.size;omega
 have KK6:=Qa (KK5.out.belowK b6)
 have WB6:=Qa (WB5.out.below b6 WB5.out.lt)
 have RB6:=Qa (RB5.out.below b6 RB5.out.lt)
 clear b6 HW5 BL5 KK5 WB5 RB5 cWB0 cWB1 cWB2 cRB0 cRB1 KM
 have cWB0:=WB6.out.cell 0
 have cWB1:=WB6.out.cell 1
 have cWB2:=WB6.out.cell 2
 simp at cWB0 cWB1 cWB2
 have cRB0:=RB6.out.cell 0
 have cRB1:=RB6.out.cell 1
 simp at cRB0 cRB1
 have HLN6:=HLN5
 obtain ⟨w7,hw7⟩:∃ wt,w6.alloc (.cells #[.iface tt (.agg #[]),.bool b,.int .i64 (t:Int)] 53)=wt:=⟨_,rfl⟩
 have b7:Below w6.heap.size w6 w7:=by rw [←hw7];exact (Below.refl _ _).alloc (Nat.le_refl _) _
 have s7:w7.heap.size=w6.heap.size+1:=by rw [←hw7];simp
 have TB7:Hid (Has w7 w6.heap.size 53 #[.iface tt (.agg #[]),.bool b,.int .i64 (t:Int)]):=Qa (by rw [←hw7];exact Has.fresh _ _ _)
 have HW7:=Qa (HW6.out.below b7)
 have BL7:=Qa (Qx BL6.out b7 hbs6)
 have hbs7:base≤w7.heap.size:=by omega
 have KK7:=Qa (KK6.out.belowK b7)
 have HLN7:=HLN6
 have WB7:=Qa (WB6.out.below b7 WB6.out.lt)
 have RB7:=Qa (RB6.out.below b7 RB6.out.lt)
 clear b7 HW6 BL6 KK6 HLN6 WB6 RB6 cWB0 cWB1 cWB2 cRB0 cRB1
 have cWB0:=WB7.out.cell 0
 have cWB1:=WB7.out.cell 1
 have cWB2:=WB7.out.cell 2
 simp at cWB0 cWB1 cWB2
 have cRB0:=RB7.out.cell 0
 have cRB1:=RB7.out.cell 1
 simp at cRB0 cRB1
 have cTB0:=TB7.out.cell 0
 have cTB1:=TB7.out.cell 1
 have cTB2:=TB7.out.cell 2
 simp at cTB0 cTB1 cTB2
 go_wp2_with fail
 refine (KT.out _ _).mono ?_
 rintro e w8 ⟨rfl,hR8,b8⟩
 have s8:=b8.size
 have HW8:=Qa (HW7.out.below b8)
 have BL8:=Qa (Qx BL7.out b8 hbs7)
 have hbs8:base≤w8.heap.size:=by have:=b8.size;omega
 have KK8:=Qa (KK7.out.belowK b8)
 have WB8:=Qa (WB7.out.below b8 WB7.out.lt)
 have RB8:=Qa (RB7.out.below b8 RB7.out.lt)
 have TB8:=Qa (TB7.out.below b8 TB7.out.lt)
 clear b8 HW7 BL7 KK7 WB7 RB7 TB7 cWB0 cWB1 cWB2 cRB0 cRB1 cTB0 cTB1 cTB2 KT hw7
 have cWB0:=WB8.out.cell 0
 have cWB1:=WB8.out.cell 1
 have cWB2:=WB8.out.cell 2
 simp at cWB0 cWB1 cWB2
 have cRB0:=RB8.out.cell 0
 have cRB1:=RB8.out.cell 1
 simp at cRB0 cRB1
 have cTB0:=TB8.out.cell 0
 have cTB1:=TB8.out.cell 1
 have cTB2:=TB8.out.cell 2
 simp at cTB0 cTB1 cTB2
 have HLN8:=HLN7
 obtain ⟨ho1,ho2,ho3,ho4,ho5⟩:=HOR.out hR8.out
 obtain ⟨w9,hw9⟩:∃ wt,w8.alloc (.cells #[.string (lstZ s),.int .i64 (f:Int),.string (Qg U),.string (Qg O)] 56)=wt:=⟨_,rfl⟩
 have b9:Below w8.heap.size w8 w9:=by rw [←hw9];exact (Below.refl _ _).alloc (Nat.le_refl _) _
 have s9:w9.heap.size=w8.heap.size+1:=by rw [←hw9];simp
 have TU9:Hid (Has w9 w8.heap.size 56 #[.string (lstZ s),.int .i64 (f:Int),.string (Qg U),.string (Qg O)]):=Qa (by rw [←hw9];exact Has.fresh _ _ _)
 have HW9:=Qa (HW8.out.below b9)
 have BL9:=Qa (Qx BL8.out b9 hbs8)
 have hbs9:base≤w9.heap.size:=by omega
 have KK9:=Qa (KK8.out.belowK b9)
 have HLN9:=HLN8
 have WB9:=Qa (WB8.out.below b9 WB8.out.lt)
 have RB9:=Qa (RB8.out.below b9 RB8.out.lt)
 have TB9:=Qa (TB8.out.below b9 TB8.out.lt)
 clear b9 HW8 BL8 KK8 HLN8 WB8 RB8 TB8 cWB0 cWB1 cWB2 cRB0 cRB1 cTB0 cTB1 cTB2
 have cWB0:=WB9.out.cell 0
 have cWB1:=WB9.out.cell 1
 have cWB2:=WB9.out.cell 2
 simp at cWB0 cWB1 cWB2
 have cRB0:=RB9.out.cell 0
 have cRB1:=RB9.out.cell 1
 simp at cRB0 cRB1
 have cTB0:=TB9.out.cell 0
 have cTB1:=TB9.out.cell 1
 have cTB2:=TB9.out.cell 2
 simp at cTB0 cTB1 cTB2
 have cTU0:=TU9.out.cell 0
 have cTU1:=TU9.out.cell 1
 have cTU2:=TU9.out.cell 2
 have cTU3:=TU9.out.cell 3
 simp at cTU0 cTU1 cTU2 cTU3
 have htl3:(gamL (f+1)++Qr U++wrT b U O).length≤4000:=by
  have h1:=ZK U
  have h2:(gamL (f+1)).length≤40:=QY (by omega) (by omega)
  have h3:=Vh U O (QK hUb (Ym ((Jd hUb).1 ((Xy U).1 hU).2)))
  have h4:(wrT b U O).length≤1+(putO U O).length:=by cases b <;> simp [wrT] <;> omega
  simp only [List.length_append]
  omega
 obtain ⟨tl,htl⟩:∃ tl,(gamL (f+1)++Qr U++wrT b U O).length=tl:=⟨_,rfl⟩
 rw [htl] at htl3
 have HTN:=Qa htl
 have KWT:=Qa (ABr (.iface tt (.agg #[])) (lstZ s) f b U O _ _ g base w9 HW9.out hgb hbs9 HLN9.out (by omega) hf6 hUb hU ho2 ho1 ho4)
 clear htl
 go_wp2_with fail
 refine (KWT.out).mono ?_
 rintro e w10 ⟨rfl,HWx,b10,k10⟩
 have HW10:Hid (Qp w10 base g ([]++Qh m 2++gamL s.size++Qh cr 32++(gamL (f+1)++Qr U++wrT b U O))):=Qa HWx
 have s10:=b10.size
 have BL10:=Qa (BL9.out.trans b10)
 have hbs10:base≤w10.heap.size:=by have:=BL9.out.size;have:=b10.size;omega
 have KK10:=Qa (KK9.out.trans k10)
 have WB10:=Qa (k10.has (by omega) (by decide) WB9.out)
 have RB10:=Qa (k10.has (by omega) (by decide) RB9.out)
 have TB10:=Qa (k10.has (by omega) (by decide) TB9.out)
 have TU10:=Qa (k10.has (by omega) (by decide) TU9.out)
 clear b10 k10 HWx HW9 BL9 KK9 WB9 RB9 TB9 TU9 cWB0 cWB1 cWB2 cRB0 cRB1 cTB0 cTB1 cTB2 cTU0 cTU1 cTU2 cTU3
 have cWB0:=WB10.out.cell 0
 have cWB1:=WB10.out.cell 1
 have cWB2:=WB10.out.cell 2
 simp at cWB0 cWB1 cWB2
 have cRB0:=RB10.out.cell 0
 have cRB1:=RB10.out.cell 1
 simp at cRB0 cRB1
 have cTB0:=TB10.out.cell 0
 have cTB1:=TB10.out.cell 1
 have cTB2:=TB10.out.cell 2
 simp at cTB0 cTB1 cTB2
 have cTU0:=TU10.out.cell 0
 have cTU1:=TU10.out.cell 1
 have cTU2:=TU10.out.cell 2
 have cTU3:=TU10.out.cell 3
 simp at cTU0 cTU1 cTU2 cTU3
 have HLN10:Hid (([]++Qh m 2++gamL s.size++Qh cr 32++(gamL (f+1)++Qr U++wrT b U O)).length=0+2+gs+32+tl):=Qa (by rw [List.length_append,HLN9.out,HTN.out])
 clear KWT HLN9 hw9
 obtain ⟨sl,hsl⟩:∃ sl,(symL Z (O.length+2) t).length=sl:=⟨_,rfl⟩
 have HSL:=Qa hsl
 have hso:(Qg O).size=O.length:=QB O
 obtain ⟨hr1,hr2⟩:=jA ho5 m hm2
 have KS0:=fun W=>HSYM.out (Qg U) (f:Int) O O.length W ho2 rfl ho3 ho5
 rw [HZS.out] at hr1 hr2 KS0
 have KWS:=Qa (yn tt (Qg U) (lstZ s) (Qg O) (f:Int) b _ Z O.length t _ g base w10 hso ho3 hr1 hr2 HSB.out ht1 ht4 KS0 HW10.out hgb hbs10 HLN10.out (by omega))
 clear hsl hso hr1 hr2 KS0
 go_wp2_with fail
 refine (KWS.out).mono ?_
 rintro e w11 ⟨rfl,HWx,b11,k11⟩
 have HW11:Hid (Qp w11 base g ([]++Qh m 2++gamL s.size++Qh cr 32++(gamL (f+1)++Qr U++wrT b U O)++symL Z (O.length+2) t)):=Qa HWx
 have s11:=b11.size
 have BL11:=Qa (BL10.out.trans b11)
 have hbs11:base≤w11.heap.size:=by have:=BL10.out.size;have:=b11.size;omega
 have KK11:=Qa (KK10.out.trans k11)
 have WB11:=Qa (k11.has (by omega) (by decide) WB10.out)
 have RB11:=Qa (k11.has (by omega) (by decide) RB10.out)
 have TB11:=Qa (k11.has (by omega) (by decide) TB10.out)
 have TU11:=Qa (k11.has (by omega) (by decide) TU10.out)
 clear b11 k11 HWx HW10 BL10 KK10 WB10 RB10 TB10 TU10 cWB0 cWB1 cWB2 cRB0 cRB1 cTB0 cTB1 cTB2 cTU0 cTU1 cTU2 cTU3
 have cWB0:=WB11.out.cell 0
 have cWB1:=WB11.out.cell 1
 have cWB2:=WB11.out.cell 2
 simp at cWB0 cWB1 cWB2
 have cRB0:=RB11.out.cell 0
 have cRB1:=RB11.out.cell 1
 simp at cRB0 cRB1
 have cTB0:=TB11.out.cell 0
 have cTB1:=TB11.out.cell 1
 have cTB2:=TB11.out.cell 2
 simp at cTB0 cTB1 cTB2
 have cTU0:=TU11.out.cell 0
 have cTU1:=TU11.out.cell 1
 have cTU2:=TU11.out.cell 2
 have cTU3:=TU11.out.cell 3
 simp at cTU0 cTU1 cTU2 cTU3
 have HLN11:Hid (([]++Qh m 2++gamL s.size++Qh cr 32++(gamL (f+1)++Qr U++wrT b U O)++symL Z (O.length+2) t).length=0+2+gs+32+tl+sl):=Qa (by rw [List.length_append,HLN10.out,HSL.out])
 clear KWS HLN10
 clear cWB0 cWB1 cWB2 cRB0 cRB1 cTB0 cTB1 cTB2 cTU0 cTU1 cTU2 cTU3
 have KBI:=Qa (Xm g base _ w11 HW11.out)
 rw [HLN11.out] at KBI
 have HEQ:Hid (QP s m b++symL Z (O.length+2) t=[]++Qh m 2++gamL s.size++Qh cr 32++(gamL (f+1)++Qr U++wrT b U O)++symL Z (O.length+2) t):=Qa (by rw [HTL.out];simp [List.append_assoc])
 have HLE:Hid ((QP s m b++symL Z (O.length+2) t).length=0+2+gs+32+tl+sl):=Qa (by rw [HEQ.out];exact HLN11.out)
 go_wp2_with fail
 refine KBI.out.mono ?_
 rintro e wf ⟨D,hD,rfl,bf⟩
 have RBf:=RB11.out.below bf RB11.out.lt
 have e0:=RBf.cell 0
 have e1:=RBf.cell 1
 have g0:=RBf.free 0
 have g1:=RBf.free 1
 simp at e0 e1
 have hfb:Below w.heap.size w wf:=Bz.trans ((Qx BL11.out bf hbs11).mono (by omega))
 have HDD:=Qa hD
 clear bf hD KBI RBf
 go_wp2
 refine bodyPost_ret (v:=.tuple #[.agg #[.string (Qg D),.int .i64 ((0+2+gs+32+tl+sl:Nat):Int)],.bool true]) (by simp [results,Tryz.results13,go_sem,e0,e1,g0,g1]) rfl ⟨D,by rw [HEQ.out];exact HDD.out,by rw [HLE.out],?_⟩
 repeat (first | assumption | refine Below.setCell ?_ (by (try simp);(try omega)) _)
theorem AEw (s:ByteArray) (b:Bool) (w:World) (hs:0<s.size∧s.size≤600) :
 Calls Tryz.prog 13 #[.string s,.agg #[.int .i64 3,.bool b,.int .i64 0]] w fun e w'=>∃ D,Packs D (invL s b)∧e=.returned (.tuple #[.agg #[.string (Qg D),.int .i64 ((invL s b).length:Int)],.bool true])∧Below w.heap.size w w':=by
 have KO:=Qa (fun W=>XN s W (by omega))
 have KW:=Qa (fun W=>Jj 3 0 b W)
 rw [show QH 3 b 0=true from (by simp [QH])] at KW
 rw [decide_eq_true hs] at KO
 have KM:=Qa (fun W=>YU 3 0 b W (by omega))
 have hg40:=QY hs.1 (by omega:s.size≤1048575)
 have KG:=Qa (fun W=>ZI s.size W hs.1 (by omega))
 obtain ⟨gs,hgs⟩:∃ gs,(gamL s.size).length=gs:=⟨_,rfl⟩
 rw [hgs] at KG hg40
 have HGS:=Qa hgs
 have KC:=Qa (fun W=>VT s W (by unfold maxLen;omega))
 have hcr:=vu s
 obtain ⟨cr,hcre⟩:∃ cr,crcN s=cr:=⟨_,rfl⟩
 rw [hcre] at KC hcr
 have HCR:=Qa hcre
 have KWR:=Qa (fun W=>Zw ⟨#[]⟩ 0 W (by decide))
 clear hgs hcre
 have hmv:Vu 3 b 0=.iface 59 (.agg #[.iface 85 (.agg #[]),.bool b]):=by simp [Vu,recV]
 rw [hmv] at KM
 have a0:=xR
 have a1:=xN
 have a2:=zU
 have KT:=Qa (fun (rc:Value) W=>AEh rc s b W (by omega))
 obtain ⟨f,hf,hf6⟩:=qp hs
 have hU:=qa hs.1
 have hUb:=Xk (Qb s)
 have HOR:Hid (QO (Qb s) (ordB (Qb s) b)∨ordB (Qb s) b=Qm (Qb s)→ZA (ordB (Qb s) b)=true∧Byt (ordB (Qb s) b)∧(ordB (Qb s) b).length≤256∧Qm (ordB (Qb s) b)=Qm (Qb s)∧rOk (rkS s (ordB (Qb s) b)) ((ordB (Qb s) b).length:Int)=true):=Qa (fun h=>by
  obtain ⟨h1,h2,h3,_,_,h6⟩:=Vl (Ja hs.1) (QA s) h
  exact ⟨h1,h2,h3,h6,(qF hs h).1⟩)
 have e5:=(AFh (m:=3) (b:=b) (t:=0) hs (by simp [QH])).symm
 have HTL:Hid (QP s 3 b=Qh 3 2++gamL s.size++Qh cr 32++(gamL (f+1)++Qr (Qm (Qb s))++wrT b (Qm (Qb s)) (ordB (Qb s) b))):=Qa (by unfold QP;rw [hf,HCR.out,Int.toNat_natCast];cases b <;> simp [wrT,List.append_assoc])
 obtain ⟨U,hUe⟩:∃ U,Qm (Qb s)=U:=⟨_,rfl⟩
 obtain ⟨O,hOe⟩:∃ O,ordB (Qb s) b=O:=⟨_,rfl⟩
 obtain ⟨Z,hZe⟩:∃ Z,stgZ s 3 b 0=Z:=⟨_,rfl⟩
 have htv:turV s b=.agg #[.string (lstZ s),.int .i64 (f:Int),.string (Qg U),.string (Qg O)]:=by unfold turV;rw [hUe,hOe,hf]
 rw [htv] at KT
 rw [hUe,hOe] at KT HOR HTL
 rw [hUe] at hU hUb
 rw [hOe,hZe] at e5
 have HZS:=Qa e5
 have HSB:=Qa (JZ s 3 b 0)
 rw [hZe] at HSB
 have hIV:invL s b=QP s 3 b++Zd Z Z.length:=by unfold invL;rw [hZe]
 rw [hIV]
 obtain ⟨wi,hwe⟩:∃ wi,(w.alloc (.cells #[.int .i64 3,.bool b,.int .i64 0] 26)).alloc (.cells #[.string ⟨#[]⟩,.int .i64 0] 32)=wi:=⟨_,rfl⟩
 have hwi:wi.heap.size=w.heap.size+2:=by rw [←hwe];simp
 have bi:Below w.heap.size w wi:=by rw [←hwe];exact ((Below.refl _ _).alloc (Nat.le_refl _) _).alloc (by simp) _
 have HWb:Has wi w.heap.size 26 #[.int .i64 3,.bool b,.int .i64 0]:=by rw [←hwe];exact (Has.fresh _ _ _).alloc _
 have HRb:Has wi (w.heap.size+1) 32 #[.string ⟨#[]⟩,.int .i64 0]:=by rw [←hwe];exact Has.freshAt (by simp) _ _
 have c0:=HWb.cell 0
 have c1:=HWb.cell 1
 have c2:=HWb.cell 2
 simp at c0 c1 c2
 clear hmv hIV
 go_enter Tryz.func13,Tryz.ntmps13
 go_wp2_with fail
 refine (KO.out _).mono ?_
 rintro e wz ⟨rfl,rfl⟩
 go_wp2_with fail
 refine (KW.out _).mono ?_
 rintro e wy ⟨rfl,by1⟩
 have sy:=by1.size
 have By:=Qc by1 (by omega) bi
 have HWy:=HWb.below by1 HWb.lt
 have HRy:=HRb.below by1 HRb.lt
 clear by1 HWb HRb bi c0 c1 c2 KO KW hwe
 go_wp2_with fail
 refine (KWR.out _).mono ?_
 rintro e w0 ⟨g,rfl,hW,hgb,b0⟩
 have s0:=b0.size
 obtain ⟨base,hbase⟩:∃ base,wy.heap.size=base:=⟨_,rfl⟩
 have Bz:=Qc b0 (by omega) By
 have WB0:=Qa (HWy.below b0 HWy.lt)
 have RB0:=Qa (HRy.below b0 HRy.lt)
 rw [hbase] at hW hgb s0
 have hb2:w.heap.size+2≤base:=by omega
 have hbs0:base≤w0.heap.size:=s0
 have HW0:Hid (Qp w0 base g []):=Qa hW
 have BL0:Hid (Below base w0 w0):=Qa (Below.refl _ _)
 have KK0:Hid (QG g w0 w0):=Qa (QG.refl _ _)
 have HLN0:Hid (([]:List Nat).length=0):=Qa rfl
 have hgl0:=HW0.out.lt
 clear hW b0 HWy HRy KWR By hbase sy
 clear hUe hOe hZe hf htv e5
 have cWB0:=WB0.out.cell 0
 have cWB1:=WB0.out.cell 1
 have cWB2:=WB0.out.cell 2
 simp at cWB0 cWB1 cWB2
 have cRB0:=RB0.out.cell 0
 have cRB1:=RB0.out.cell 1
 simp at cRB0 cRB1
 have KJ:=Qa (QS g base _ 3 2 w0 HW0.out hgb hbs0 (by omega) (by omega) (by have:=HLN0.out;omega))
 go_wp2_with fail
 refine (KJ.out).mono ?_
 rintro e w1 ⟨rfl,HWx,b1,k1⟩
 have HW1:Hid (Qp w1 base g ([]++Qh 3 2)):=Qa HWx
 have s1:=b1.size
 have BL1:=Qa (BL0.out.trans b1)
 have hbs1:base≤w1.heap.size:=by have:=BL0.out.size;have:=b1.size;omega
 have KK1:=Qa (KK0.out.trans k1)
 have WB1:=Qa (k1.has (by omega) (by decide) WB0.out)
 have RB1:=Qa (k1.has (by omega) (by decide) RB0.out)
 clear b1 k1 HWx HW0 BL0 KK0 WB0 RB0 cWB0 cWB1 cWB2 cRB0 cRB1
 have cWB0:=WB1.out.cell 0
 have cWB1:=WB1.out.cell 1
 have cWB2:=WB1.out.cell 2
 simp at cWB0 cWB1 cWB2
 have cRB0:=RB1.out.cell 0
 have cRB1:=RB1.out.cell 1
 simp at cRB0 cRB1
 have HLN1:Hid (([]++Qh 3 2).length=0+2):=Qa (by rw [List.length_append,HLN0.out,Qt])
 clear KJ HLN0
 go_wp2_with fail
 refine (KG.out _).mono ?_
 rintro e w2 ⟨D2,hD,rfl,b2⟩
 have s2:=b2.size
 have HW2:=Qa (HW1.out.below b2)
 have BL2:=Qa (Qx BL1.out b2 hbs1)
 have hbs2:base≤w2.heap.size:=by have:=b2.size;omega
 have KK2:=Qa (KK1.out.belowK b2)
 have WB2:=Qa (WB1.out.below b2 WB1.out.lt)
 have RB2:=Qa (RB1.out.below b2 RB1.out.lt)
 clear b2 HW1 BL1 KK1 WB1 RB1 cWB0 cWB1 cWB2 cRB0 cRB1 KG
 have cWB0:=WB2.out.cell 0
 have cWB1:=WB2.out.cell 1
 have cWB2:=WB2.out.cell 2
 simp at cWB0 cWB1 cWB2
 have cRB0:=RB2.out.cell 0
 have cRB1:=RB2.out.cell 1
 simp at cRB0 cRB1
 have KD:=Qa hD
 clear hD
 have HL:=HGS
 have HLN2:=HLN1
 have hpk:=ZZ KD.out (by rw [HL.out];omega)
 rw [HL.out] at hpk
 have KJ:=Qa (ZH g base _ (Qg D2) gs w2 HW2.out hgb hbs2 hpk.1 (by have:=HLN2.out;omega))
 rw [hpk.2] at KJ
 clear hpk KD
 go_wp2_with fail
 refine (KJ.out).mono ?_
 rintro e w3 ⟨rfl,HWx,b3,k3⟩
 have HW3:Hid (Qp w3 base g ([]++Qh 3 2++gamL s.size)):=Qa HWx
 have s3:=b3.size
 have BL3:=Qa (BL2.out.trans b3)
 have hbs3:base≤w3.heap.size:=by have:=BL2.out.size;have:=b3.size;omega
 have KK3:=Qa (KK2.out.trans k3)
 have WB3:=Qa (k3.has (by omega) (by decide) WB2.out)
 have RB3:=Qa (k3.has (by omega) (by decide) RB2.out)
 clear b3 k3 HWx HW2 BL2 KK2 WB2 RB2 cWB0 cWB1 cWB2 cRB0 cRB1
 have cWB0:=WB3.out.cell 0
 have cWB1:=WB3.out.cell 1
 have cWB2:=WB3.out.cell 2
 simp at cWB0 cWB1 cWB2
 have cRB0:=RB3.out.cell 0
 have cRB1:=RB3.out.cell 1
 simp at cRB0 cRB1
 have HLN3:Hid (([]++Qh 3 2++gamL s.size).length=0+2+gs):=Qa (by rw [List.length_append,HLN2.out,HL.out])
 clear KJ HL HLN2
 go_wp2_with fail
 refine (KC.out _).mono ?_
 rintro e w4 ⟨rfl,b4⟩
 have s4:=b4.size
 have HW4:=Qa (HW3.out.below b4)
 have BL4:=Qa (Qx BL3.out b4 hbs3)
 have hbs4:base≤w4.heap.size:=by have:=b4.size;omega
 have KK4:=Qa (KK3.out.belowK b4)
 have WB4:=Qa (WB3.out.below b4 WB3.out.lt)
 have RB4:=Qa (RB3.out.below b4 RB3.out.lt)
 clear b4 HW3 BL3 KK3 WB3 RB3 cWB0 cWB1 cWB2 cRB0 cRB1 KC
 have cWB0:=WB4.out.cell 0
 have cWB1:=WB4.out.cell 1
 have cWB2:=WB4.out.cell 2
 simp at cWB0 cWB1 cWB2
 have cRB0:=RB4.out.cell 0
 have cRB1:=RB4.out.cell 1
 simp at cRB0 cRB1
 have HLN4:=HLN3
 have KJ:=Qa (QS g base _ cr 32 w4 HW4.out hgb hbs4 (by omega) (by omega) (by have:=HLN4.out;omega))
 go_wp2_with fail
 refine (KJ.out).mono ?_
 rintro e w5 ⟨rfl,HWx,b5,k5⟩
 have HW5:Hid (Qp w5 base g ([]++Qh 3 2++gamL s.size++Qh cr 32)):=Qa HWx
 have s5:=b5.size
 have BL5:=Qa (BL4.out.trans b5)
 have hbs5:base≤w5.heap.size:=by have:=BL4.out.size;have:=b5.size;omega
 have KK5:=Qa (KK4.out.trans k5)
 have WB5:=Qa (k5.has (by omega) (by decide) WB4.out)
 have RB5:=Qa (k5.has (by omega) (by decide) RB4.out)
 clear b5 k5 HWx HW4 BL4 KK4 WB4 RB4 cWB0 cWB1 cWB2 cRB0 cRB1
 have cWB0:=WB5.out.cell 0
 have cWB1:=WB5.out.cell 1
 have cWB2:=WB5.out.cell 2
 simp at cWB0 cWB1 cWB2
 have cRB0:=RB5.out.cell 0
 have cRB1:=RB5.out.cell 1
 simp at cRB0 cRB1
 have HLN5:Hid (([]++Qh 3 2++gamL s.size++Qh cr 32).length=0+2+gs+32):=Qa (by rw [List.length_append,HLN4.out,Qt])
 clear KJ HLN4
 go_wp2_with fail
 refine (KM.out _).mono ?_
 rintro e w6 ⟨rfl,b6⟩
 have s6:=b6.size
 have HW6:=Qa (HW5.out.below b6)
 have BL6:=Qa (Qx BL5.out b6 hbs5)
 have hbs6:base≤w6.heap.size:=by have:=b6.size;omega
 have KK6:=Qa (KK5.out.belowK b6)
 have WB6:=Qa (WB5.out.below b6 WB5.out.lt)
 have RB6:=Qa (RB5.out.below b6 RB5.out.lt)
 clear b6 HW5 BL5 KK5 WB5 RB5 cWB0 cWB1 cWB2 cRB0 cRB1 KM
 have cWB0:=WB6.out.cell 0
 have cWB1:=WB6.out.cell 1
 have cWB2:=WB6.out.cell 2
 simp at cWB0 cWB1 cWB2
 have cRB0:=RB6.out.cell 0
 have cRB1:=RB6.out.cell 1
 simp at cRB0 cRB1
 have HLN6:=HLN5
 obtain ⟨w7,hw7⟩:∃ wt,w6.alloc (.cells #[.iface 85 (.agg #[]),.bool b] 59)=wt:=⟨_,rfl⟩
 have b7:Below w6.heap.size w6 w7:=by rw [←hw7];exact (Below.refl _ _).alloc (Nat.le_refl _) _
 have s7:w7.heap.size=w6.heap.size+1:=by rw [←hw7];simp
 have TB7:Hid (Has w7 w6.heap.size 59 #[.iface 85 (.agg #[]),.bool b]):=Qa (by rw [←hw7];exact Has.fresh _ _ _)
 have HW7:=Qa (HW6.out.below b7)
 have BL7:=Qa (Qx BL6.out b7 hbs6)
 have hbs7:base≤w7.heap.size:=by omega
 have KK7:=Qa (KK6.out.belowK b7)
 have HLN7:=HLN6
 have WB7:=Qa (WB6.out.below b7 WB6.out.lt)
 have RB7:=Qa (RB6.out.below b7 RB6.out.lt)
 clear b7 HW6 BL6 KK6 HLN6 WB6 RB6 cWB0 cWB1 cWB2 cRB0 cRB1
 have cWB0:=WB7.out.cell 0
 have cWB1:=WB7.out.cell 1
 have cWB2:=WB7.out.cell 2
 simp at cWB0 cWB1 cWB2
 have cRB0:=RB7.out.cell 0
 have cRB1:=RB7.out.cell 1
 simp at cRB0 cRB1
 have cTB0:=TB7.out.cell 0
 have cTB1:=TB7.out.cell 1
 simp at cTB0 cTB1
 go_wp2_with fail
 refine (KT.out _ _).mono ?_
 rintro e w8 ⟨rfl,hR8,b8⟩
 have s8:=b8.size
 have HW8:=Qa (HW7.out.below b8)
 have BL8:=Qa (Qx BL7.out b8 hbs7)
 have hbs8:base≤w8.heap.size:=by have:=b8.size;omega
 have KK8:=Qa (KK7.out.belowK b8)
 have WB8:=Qa (WB7.out.below b8 WB7.out.lt)
 have RB8:=Qa (RB7.out.below b8 RB7.out.lt)
 have TB8:=Qa (TB7.out.below b8 TB7.out.lt)
 clear b8 HW7 BL7 KK7 WB7 RB7 TB7 cWB0 cWB1 cWB2 cRB0 cRB1 cTB0 cTB1 KT hw7
 have cWB0:=WB8.out.cell 0
 have cWB1:=WB8.out.cell 1
 have cWB2:=WB8.out.cell 2
 simp at cWB0 cWB1 cWB2
 have cRB0:=RB8.out.cell 0
 have cRB1:=RB8.out.cell 1
 simp at cRB0 cRB1
 have cTB0:=TB8.out.cell 0
 have cTB1:=TB8.out.cell 1
 simp at cTB0 cTB1
 have HLN8:=HLN7
 obtain ⟨ho1,ho2,ho3,ho4,ho5⟩:=HOR.out hR8.out
 obtain ⟨w9,hw9⟩:∃ wt,w8.alloc (.cells #[.string (lstZ s),.int .i64 (f:Int),.string (Qg U),.string (Qg O)] 56)=wt:=⟨_,rfl⟩
 have b9:Below w8.heap.size w8 w9:=by rw [←hw9];exact (Below.refl _ _).alloc (Nat.le_refl _) _
 have s9:w9.heap.size=w8.heap.size+1:=by rw [←hw9];simp
 have TU9:Hid (Has w9 w8.heap.size 56 #[.string (lstZ s),.int .i64 (f:Int),.string (Qg U),.string (Qg O)]):=Qa (by rw [←hw9];exact Has.fresh _ _ _)
 have HW9:=Qa (HW8.out.below b9)
 have BL9:=Qa (Qx BL8.out b9 hbs8)
 have hbs9:base≤w9.heap.size:=by omega
 have KK9:=Qa (KK8.out.belowK b9)
 have HLN9:=HLN8
 have WB9:=Qa (WB8.out.below b9 WB8.out.lt)
 have RB9:=Qa (RB8.out.below b9 RB8.out.lt)
 have TB9:=Qa (TB8.out.below b9 TB8.out.lt)
 clear b9 HW8 BL8 KK8 HLN8 WB8 RB8 TB8 cWB0 cWB1 cWB2 cRB0 cRB1 cTB0 cTB1
 have cWB0:=WB9.out.cell 0
 have cWB1:=WB9.out.cell 1
 have cWB2:=WB9.out.cell 2
 simp at cWB0 cWB1 cWB2
 have cRB0:=RB9.out.cell 0
 have cRB1:=RB9.out.cell 1
 simp at cRB0 cRB1
 have cTB0:=TB9.out.cell 0
 have cTB1:=TB9.out.cell 1
 simp at cTB0 cTB1
 have cTU0:=TU9.out.cell 0
 have cTU1:=TU9.out.cell 1
 have cTU2:=TU9.out.cell 2
 have cTU3:=TU9.out.cell 3
 simp at cTU0 cTU1 cTU2 cTU3
 have htl3:(gamL (f+1)++Qr U++wrT b U O).length≤4000:=by
  have h1:=ZK U
  have h2:(gamL (f+1)).length≤40:=QY (by omega) (by omega)
  have h3:=Vh U O (QK hUb (Ym ((Jd hUb).1 ((Xy U).1 hU).2)))
  have h4:(wrT b U O).length≤1+(putO U O).length:=by cases b <;> simp [wrT] <;> omega
  simp only [List.length_append]
  omega
 obtain ⟨tl,htl⟩:∃ tl,(gamL (f+1)++Qr U++wrT b U O).length=tl:=⟨_,rfl⟩
 rw [htl] at htl3
 have HTN:=Qa htl
 have KWT:=Qa (ABr (.iface 85 (.agg #[])) (lstZ s) f b U O _ _ g base w9 HW9.out hgb hbs9 HLN9.out (by omega) hf6 hUb hU ho2 ho1 ho4)
 clear htl
 go_wp2_with fail
 refine (KWT.out).mono ?_
 rintro e w10 ⟨rfl,HWx,b10,k10⟩
 have HW10:Hid (Qp w10 base g ([]++Qh 3 2++gamL s.size++Qh cr 32++(gamL (f+1)++Qr U++wrT b U O))):=Qa HWx
 have s10:=b10.size
 have BL10:=Qa (BL9.out.trans b10)
 have hbs10:base≤w10.heap.size:=by have:=BL9.out.size;have:=b10.size;omega
 have KK10:=Qa (KK9.out.trans k10)
 have WB10:=Qa (k10.has (by omega) (by decide) WB9.out)
 have RB10:=Qa (k10.has (by omega) (by decide) RB9.out)
 have TB10:=Qa (k10.has (by omega) (by decide) TB9.out)
 have TU10:=Qa (k10.has (by omega) (by decide) TU9.out)
 clear b10 k10 HWx HW9 BL9 KK9 WB9 RB9 TB9 TU9 cWB0 cWB1 cWB2 cRB0 cRB1 cTB0 cTB1 cTU0 cTU1 cTU2 cTU3
 have cWB0:=WB10.out.cell 0
 have cWB1:=WB10.out.cell 1
 have cWB2:=WB10.out.cell 2
 simp at cWB0 cWB1 cWB2
 have cRB0:=RB10.out.cell 0
 have cRB1:=RB10.out.cell 1
 simp at cRB0 cRB1
 have cTB0:=TB10.out.cell 0
 have cTB1:=TB10.out.cell 1
 simp at cTB0 cTB1
 have cTU0:=TU10.out.cell 0
 have cTU1:=TU10.out.cell 1
 have cTU2:=TU10.out.cell 2
 have cTU3:=TU10.out.cell 3
 simp at cTU0 cTU1 cTU2 cTU3
 have HLN10:Hid (([]++Qh 3 2++gamL s.size++Qh cr 32++(gamL (f+1)++Qr U++wrT b U O)).length=0+2+gs+32+tl):=Qa (by rw [List.length_append,HLN9.out,HTN.out])
 clear KWT HLN9 hw9
 have KSY:=Qa (fun W=>AVt s (Qg U) (f:Int) b O O.length W hs ho2 rfl ho3 ho5)
 rw [HZS.out] at KSY
 obtain ⟨z,hz⟩:∃ z,Z.length=z:=⟨_,rfl⟩
 rw [hz] at KSY
 have hsb:=HSB.out
 rw [hz] at hsb
 have HZZ:=Qa hz
 clear hz
 go_wp2_with fail
 refine (KSY.out _).mono ?_
 rintro e w11 ⟨v11,rfl,oS,b11⟩
 have s11:=b11.size
 have HW11:=Qa (HW10.out.below b11)
 have BL11:=Qa (Qx BL10.out b11 hbs10)
 have hbs11:base≤w11.heap.size:=by have:=b11.size;omega
 have KK11:=Qa (KK10.out.belowK b11)
 have WB11:=Qa (WB10.out.below b11 WB10.out.lt)
 have RB11:=Qa (RB10.out.below b11 RB10.out.lt)
 have TB11:=Qa (TB10.out.below b11 TB10.out.lt)
 have TU11:=Qa (TU10.out.below b11 TU10.out.lt)
 clear b11 HW10 BL10 KK10 WB10 RB10 TB10 TU10 cWB0 cWB1 cWB2 cRB0 cRB1 cTB0 cTB1 cTU0 cTU1 cTU2 cTU3 KSY
 have cWB0:=WB11.out.cell 0
 have cWB1:=WB11.out.cell 1
 have cWB2:=WB11.out.cell 2
 simp at cWB0 cWB1 cWB2
 have cRB0:=RB11.out.cell 0
 have cRB1:=RB11.out.cell 1
 simp at cRB0 cRB1
 have cTB0:=TB11.out.cell 0
 have cTB1:=TB11.out.cell 1
 simp at cTB0 cTB1
 have cTU0:=TU11.out.cell 0
 have cTU1:=TU11.out.cell 1
 have cTU2:=TU11.out.cell 2
 have cTU3:=TU11.out.cell 3
 simp at cTU0 cTU1 cTU2 cTU3
 have HLN11:=HLN10
 have HS11:=Qa oS
 obtain ⟨aS,cS,rfl⟩:=Qq HS11.out
 clear oS
 obtain ⟨sl,hsl⟩:∃ sl,(Zd Z z).length=sl:=⟨_,rfl⟩
 have HSL:=Qa hsl
 have KWS:=Qa (ANc aS cS _ _ z g base Z _ w11 HS11.out HZZ.out hsb.1 hsb.2 HW11.out hgb hbs11 HLN11.out (by omega))
 clear hsl
 go_wp2_with fail
 refine (KWS.out).mono ?_
 rintro e w12 ⟨rfl,HWx,b12,k12⟩
 have HW12:Hid (Qp w12 base g ([]++Qh 3 2++gamL s.size++Qh cr 32++(gamL (f+1)++Qr U++wrT b U O)++Zd Z z)):=Qa HWx
 have s12:=b12.size
 have BL12:=Qa (BL11.out.trans b12)
 have hbs12:base≤w12.heap.size:=by have:=BL11.out.size;have:=b12.size;omega
 have KK12:=Qa (KK11.out.trans k12)
 have WB12:=Qa (k12.has (by omega) (by decide) WB11.out)
 have RB12:=Qa (k12.has (by omega) (by decide) RB11.out)
 have TB12:=Qa (k12.has (by omega) (by decide) TB11.out)
 have TU12:=Qa (k12.has (by omega) (by decide) TU11.out)
 clear b12 k12 HWx HW11 BL11 KK11 WB11 RB11 TB11 TU11 cWB0 cWB1 cWB2 cRB0 cRB1 cTB0 cTB1 cTU0 cTU1 cTU2 cTU3
 have cWB0:=WB12.out.cell 0
 have cWB1:=WB12.out.cell 1
 have cWB2:=WB12.out.cell 2
 simp at cWB0 cWB1 cWB2
 have cRB0:=RB12.out.cell 0
 have cRB1:=RB12.out.cell 1
 simp at cRB0 cRB1
 have cTB0:=TB12.out.cell 0
 have cTB1:=TB12.out.cell 1
 simp at cTB0 cTB1
 have cTU0:=TU12.out.cell 0
 have cTU1:=TU12.out.cell 1
 have cTU2:=TU12.out.cell 2
 have cTU3:=TU12.out.cell 3
 simp at cTU0 cTU1 cTU2 cTU3
 have HLN12:Hid (([]++Qh 3 2++gamL s.size++Qh cr 32++(gamL (f+1)++Qr U++wrT b U O)++Zd Z z).length=0+2+gs+32+tl+sl):=Qa (by rw [List.length_append,HLN11.out,HSL.out])
 clear KWS HLN11
 clear cWB0 cWB1 cWB2 cRB0 cRB1 cTB0 cTB1 cTU0 cTU1 cTU2 cTU3
 have KBI:=Qa (Xm g base _ w12 HW12.out)
 rw [HLN12.out] at KBI
 have HEQ:Hid (QP s 3 b++Zd Z Z.length=[]++Qh 3 2++gamL s.size++Qh cr 32++(gamL (f+1)++Qr U++wrT b U O)++Zd Z z):=Qa (by rw [HTL.out,HZZ.out];simp [List.append_assoc])
 have HLE:Hid ((QP s 3 b++Zd Z Z.length).length=0+2+gs+32+tl+sl):=Qa (by rw [HEQ.out];exact HLN12.out)
 go_wp2_with fail
 refine KBI.out.mono ?_
 rintro e wf ⟨D,hD,rfl,bf⟩
 have RBf:=RB12.out.below bf RB12.out.lt
 have e0:=RBf.cell 0
 have e1:=RBf.cell 1
 have g0:=RBf.free 0
 have g1:=RBf.free 1
 simp at e0 e1
 have hfb:Below w.heap.size w wf:=Bz.trans ((Qx BL12.out bf hbs12).mono (by omega))
 have HDD:=Qa hD
 clear bf hD KBI RBf
 go_wp2
 refine bodyPost_ret (v:=.tuple #[.agg #[.string (Qg D),.int .i64 ((0+2+gs+32+tl+sl:Nat):Int)],.bool true]) (by simp [results,Tryz.results13,go_sem,e0,e1,g0,g1]) rfl ⟨D,by rw [HEQ.out];exact HDD.out,by rw [HLE.out],?_⟩
 repeat (first | assumption | refine Below.setCell ?_ (by (try simp);(try omega)) _)
theorem zP (s:ByteArray) (m t:Int) (b:Bool) (w:World) (hs:s.size≤1048576) (h:bkOk s m b t=false) :
 Calls Tryz.prog 13 #[.string s,.agg #[.int .i64 m,.bool b,.int .i64 t]] w fun e w'=>e=.returned (.tuple #[.agg #[.string ⟨#[]⟩,.int .i64 0],.bool false])∧Below w.heap.size w w':=by
 have KO:=Qa (fun W=>XN s W hs)
 have KW:=Qa (fun W=>Jj m t b W)
 have ba:Below w.heap.size w ((w.alloc (.cells #[.int .i64 m,.bool b,.int .i64 t] 26)).alloc (.cells #[.string ⟨#[]⟩,.int .i64 0] 32)):=((Below.refl _ _).alloc (Nat.le_refl _) _).alloc (by simp) _
 have hWb:Has ((w.alloc (.cells #[.int .i64 m,.bool b,.int .i64 t] 26)).alloc (.cells #[.string ⟨#[]⟩,.int .i64 0] 32)) w.heap.size 26 #[.int .i64 m,.bool b,.int .i64 t]:=(Has.fresh _ _ _).alloc _
 have hR:Has ((w.alloc (.cells #[.int .i64 m,.bool b,.int .i64 t] 26)).alloc (.cells #[.string ⟨#[]⟩,.int .i64 0] 32)) (w.heap.size+1) 32 #[.string ⟨#[]⟩,.int .i64 0]:=by have:=Has.fresh (w.alloc (.cells #[.int .i64 m,.bool b,.int .i64 t] 26)) 32 #[.string ⟨#[]⟩,.int .i64 0];simpa using this
 have c0:=hWb.cell 0
 have c1:=hWb.cell 1
 have c2:=hWb.cell 2
 simp at c0 c1 c2
 by_cases h6:0<s.size∧s.size≤600
 ·have hw:QH m b t=false:=by unfold bkOk at h;rw [decide_eq_true h6,Bool.true_and] at h;exact h
  rw [hw] at KW
  rw [decide_eq_true h6] at KO
  clear hw h6 h
  go_enter Tryz.func13,Tryz.ntmps13
  go_wp2_with fail
  refine (KO.out _).mono ?_
  rintro e w0 ⟨rfl,rfl⟩
  go_wp2_with fail
  refine (KW.out _).mono ?_
  rintro e w1 ⟨rfl,b1⟩
  have B1:=Qc b1 ba.size ba
  have hR1:=hR.below b1 (by simp)
  have e0:=hR1.cell 0
  have e1:=hR1.cell 1
  have g0:=hR1.free 0
  have g1:=hR1.free 1
  simp at e0 e1 g0 g1
  clear hR1
  clear c0 c1 c2
  go_wp2
  refine bodyPost_ret (v:=.tuple #[.agg #[.string ⟨#[]⟩,.int .i64 0],.bool false]) (by simp [results,Tryz.results13,go_sem,e0,e1,g0,g1]) rfl ⟨rfl,?_⟩
  repeat (first | exact Below.refl _ _ | assumption | refine Below.alloc ?_ (by (try simp);(try omega)) _ | refine Below.setCell ?_ (by (try simp);(try omega)) _)
 ·rw [decide_eq_false h6] at KO
  clear h6 h KW
  go_enter Tryz.func13,Tryz.ntmps13
  go_wp2_with fail
  refine (KO.out _).mono ?_
  rintro e w0 ⟨rfl,rfl⟩
  have e0:=hR.cell 0
  have e1:=hR.cell 1
  have g0:=hR.free 0
  have g1:=hR.free 1
  simp at e0 e1 g0 g1
  clear hR
  clear c0 c1 c2
  go_wp2
  refine bodyPost_ret (v:=.tuple #[.agg #[.string ⟨#[]⟩,.int .i64 0],.bool false]) (by simp [results,Tryz.results13,go_sem,e0,e1,g0,g1]) rfl ⟨rfl,?_⟩
  repeat (first | exact Below.refl _ _ | assumption | refine Below.alloc ?_ (by (try simp);(try omega)) _ | refine Below.setCell ?_ (by (try simp);(try omega)) _)
theorem zl (s:ByteArray) (m t:Int) (b:Bool) (w:World) (h:bkOk s m b t=true) :
 Calls Tryz.prog 13 #[.string s,.agg #[.int .i64 m,.bool b,.int .i64 t]] w fun e w'=>∃ D,Packs D (Xp s m b t)∧e=.returned (.tuple #[.agg #[.string (Qg D),.int .i64 ((Xp s m b t).length:Int)],.bool true])∧Below w.heap.size w w':=by
 obtain ⟨hs,hw⟩:=(AEk _ _ _ _).1 h
 rcases AVx hw with ⟨rfl,rfl,rfl⟩ | ⟨rfl,h1,h4⟩ | ⟨rfl,h1,h4⟩ | ⟨rfl,rfl⟩
 ·rw [AJr];exact AFw s w hs
 ·obtain ⟨k,rfl⟩:∃ k:Nat,t=k:=⟨t.toNat,by omega⟩
  rw [AJv]
  exact qk s 1 k b w hs (.inl rfl) (by omega) (by omega)
 ·obtain ⟨k,rfl⟩:∃ k:Nat,t=k:=⟨t.toNat,by omega⟩
  rw [AKc]
  exact qk s 2 k b w hs (.inr rfl) (by omega) (by omega)
 ·rw [AKj]
  exact AEw s b w hs
theorem xU (s:ByteArray) (m t:Int) (b:Bool) (w:World) (hs:s.size≤1048576) :
 Calls Tryz.prog 16 #[.string s,.agg #[.int .i64 m,.bool b,.int .i64 t]] w fun e w'=>e=.returned (.int .i64 (JM s m b t))∧Below w.heap.size w w':=by
 have KY:=Qa (fun W=>zl s m t b W)
 have KN:=Qa (fun W=>zP s m t b W hs)
 have ba:Below w.heap.size w (w.alloc (.cells #[.int .i64 m,.bool b,.int .i64 t] 26)):=(Below.refl _ _).alloc (Nat.le_refl _) _
 by_cases h:bkOk s m b t=true
 ·have hc:JM s m b t=((Xp s m b t).length:Int):=by unfold JM;rw [if_pos h]
  rw [hc]
  have K:=Qa (fun W=>KY.out W h)
  obtain ⟨n,hn⟩:∃ n,(Xp s m b t).length=n:=⟨_,rfl⟩
  rw [hn] at K ⊢
  clear hc h KY KN hn
  go_enter Tryz.func16,Tryz.ntmps16
  go_wp2_with fail
  refine (K.out _).mono ?_
  rintro e w1 ⟨D,_,rfl,b1⟩
  have B1:=Qc b1 ba.size ba
  have sB:=B1.size
  clear b1
  go_wp2
  go_ret
  exact ⟨rfl,by repeat (first | assumption | refine Below.alloc ?_ (by (try simp);(try omega)) _)⟩
 ·have h2:bkOk s m b t=false:=by simpa using h
  have hc:JM s m b t=-1:=by unfold JM;rw [if_neg h]
  rw [hc]
  have K:=Qa (fun W=>KN.out W h2)
  clear hc h h2 KY KN
  go_enter Tryz.func16,Tryz.ntmps16
  go_wp2_with fail
  refine (K.out _).mono ?_
  rintro e w1 ⟨rfl,b1⟩
  have B1:=Qc b1 ba.size ba
  have sB:=B1.size
  clear b1
  go_wp2
  go_ret
  exact ⟨rfl,by repeat (first | assumption | refine Below.alloc ?_ (by (try simp);(try omega)) _)⟩
theorem xP (s:ByteArray) (m t:Int) (b:Bool) (w:World) (hs:s.size≤1048576) :
 Calls Tryz.prog 15 #[.string s,.agg #[.int .i64 m,.bool b,.int .i64 t]] w fun e w'=>e=.returned (.int .i64 (JM s m b t))∧Below w.heap.size w w':=by
 by_cases h:bkOk s m b t=true
 ·exact xV s m t b w h
 ·have h2:bkOk s m b t=false:=by simpa using h
  unfold JM
  rw [if_neg h]
  exact ym s m t b w hs h2
theorem AAg:VX:=fun s m b t hs _ _ _ _=>⟨JM s m b t,fun W=>xP s m t b W hs,fun W=>xU s m t b W hs⟩
end Go.Proofs.YtembljihmnmmfaaGreat
namespace Go.Proofs.YtembljihmnmmfaaGreat.lawFnExactBlockCost
open Go.ChangeShapes Go.WideShapes Go.ChangeAt Go.RowKit Go.Joins
open Go.ChangeMaps (open_string shut_string)
set_option linter.unusedVariables false
theorem own:ownKnob Tryz.prog.godebug=none:=by kernel_rfl
theorem laidOut:laidOutB Tryz.prog=true:=by kernel_rfl
set_option maxRecDepth 100000 in
theorem lifted (os:Os) (started:os.Started) (H:Type) (enc:TypeId × Value→H) :
 ReturnsInHanded {} Tryz.checked os 5 .any (Rows.fnExactBlockCostSpec.pre6 enc Tryz.prog Tryz.f5 Rows.fnExactBlockCostRow.domain false) (Rows.fnExactBlockCostSpec.post enc Tryz.prog Tryz.f5 false true false false):=by
 refine returnsInHanded_of_change (C:=Tryz.checked) own started (by kernel_rfl) Tryz.func5
  (ChangeSpec.witness6 (enc:=enc) (C:=Tryz.checked) false ⟨#[],#[.string ⟨#[]⟩,.agg #[.int .i64 0,.bool false,.int .i64 0]],[]⟩ 8 (by kernel_rfl) (by kernel_rfl) (by kernel_rfl) (by kernel_rfl)) ?_
 intro W base args ds gs before hval0 hW hcnd _
 have hval:∀ (j:Nat) t v,Tryz.f5.params[j]? = some t→args[j]? = some v→Value.okWide Tryz.prog W .any base t v:=hval0
 have hW':=hW
 obtain ⟨p,q,hA0,hV,rfl,hfz,hnd⟩:=hW
 have hA:DataW.TrodAll enc Tryz.prog W 0 (fun _=>true) true Tryz.f5.params.toList args.toList ds p:=hA0
 rw [Tryz.params5] at hA hval
 obtain ⟨v0,vs0,d0,ds0,p0,q0,hargs,rfl,rfl,h0,r0⟩:=trodAll_cons hA
 obtain ⟨v1,vs1,d1,ds1,p1,q1,rfl,rfl,rfl,h1,r1⟩:=trodAll_cons r0
 obtain ⟨rfl,rfl,rfl⟩:=trodAll_nil r1
 obtain rfl:args=#[v0,v1]:=by cases args;simp_all
 obtain ⟨rfl,rfl⟩:=trodVars_none hV
 have k0:=h0
 have lt0:∀ x∈p0,x.block<W.heap.size:=by obtain ⟨m,hm⟩:=k0;exact DataW.trod_lt m _ _ _ hm
 have k1:=h1
 have lt1:∀ x∈p1,x.block<W.heap.size:=by obtain ⟨m,hm⟩:=k1;exact DataW.trod_lt m _ _ _ hm
 obtain ⟨a0,rfl,_,_,w0⟩:=open_string Tryz.underlying9 (hval 0 9 v0 rfl rfl) h0
 obtain ⟨wm1,wb1,wt1,rfl,x1,y1⟩:=ATc Tryz.underlying23 (by kernel_rfl) (by kernel_rfl) Tryz.underlying3 Tryz.underlying4 Tryz.underlying3 (hval 1 23 v1 rfl rfl) h1
 have b1:=bounds_i64 x1
 have bt1:=bounds_i64 y1
 clear hA0 hval0
 refine (VW AAg W a0 w0 wm1 wb1 wt1 b1.1 b1.2 bt1.1 bt1.2).mono fun e W' ⟨he,bel⟩=>?_
 subst he
 exact ⟨_,rfl,_,_,_,[],_,[],hW',trodAll_mk1 (shut_bool Tryz.underlying4 _),(trodAll_cons_mk (Below.trod laidOut (by kernel_rfl) (of_decide_eq_true (by kernel_rfl)) k0 bel lt0) (trodAll_cons_mk (Below.trod laidOut (by kernel_rfl) (of_decide_eq_true (by kernel_rfl)) k1 bel lt1) trodAll_mk0)),rfl,bel.frame _,fun h=>by cases h⟩
theorem over:Rows.fnExactBlockCostRow.holds Tryz.pinned (OpenSpec.ofChange Rows.fnExactBlockCostSpec) :=
 OpenClaim.holds_of_wide 5 Tryz.f5 rfl rfl rfl rfl rfl rfl rfl ⟨rfl,rfl,rfl,rfl,rfl⟩ rfl rfl rfl rfl rfl (by kernel_rfl) Tryz.func5 (by kernel_rfl)
  (of_decide_eq_true (by kernel_rfl)) (by unfold Func.isWrapper;first | (rw [if_pos (by decide +kernel)];kernel_rfl) | (rw [if_neg (by decide +kernel)];exact ⟨rfl,rfl⟩))
  (fun os started H enc _=>lifted os started H enc)
theorem proved:Rows.FnExactBlockCostSaid:=over
end Go.Proofs.YtembljihmnmmfaaGreat.lawFnExactBlockCost
