/- Texts of the proof, merged. -/
import Derived.Test.YtembljihmnmmfaaGreatKE41
import Derived.Test.YtembljihmnmmfaaGreatKE42
import Derived.Test.YtembljihmnmmfaaGreatKE5
import Derived.Test.YtembljihmnmmfaaGreatKE7
import Derived.Test.YtembljihmnmmfaaGreatKE24
import Derived.Test.YtembljihmnmmfaaGreatKE36
import Derived.Test.YtembljihmnmmfaaGreatKE13
namespace Go.Proofs.YtembljihmnmmfaaGreat
set_option maxHeartbeats 8000000
set_option maxRecDepth 100000
set_option linter.unusedVariables false
set_option linter.unusedSimpArgs false
open Go.RowKit
def stoL (s:ByteArray):List Nat:=Qe 0 2++gamL s.size++Qe (crcN s) 32++b8F (Qb s) s.size
theorem AGj (s:ByteArray):(stoL s).length=2+(gamL s.size).length+32+8*s.size:=by
 unfold stoL
 rw [List.length_append,List.length_append,List.length_append,QD,QD,AAc]
theorem Zd {n:Nat} (h1:1≤n) (h2:n≤1048575):(gamL n).length≤40:=by rw [jC];have:=Yz h1 h2;omega
theorem ADn (s:ByteArray) (w:World) (hs:0<s.size∧s.size≤600) :
 Calls Tryz.prog 33 #[.string s,.agg #[.int .i64 0,.bool false,.int .i64 0]] w fun e w'=>∃ v,e=.returned v∧w'.ownsRow w.heap.size 5 1 v (stoL s).length (u8s (stoL s))∧Below w.heap.size w w':=by
 obtain ⟨i0,hi,hz0,hz1,hz2⟩:=info_parts Tryz.info5
 have hg40:=Zd hs.1 (by omega:s.size≤1048575)
 have K1:=Qa (fun W=>QY 0 2 W (by omega) (by decide))
 have K2:=Qa (fun W=>ZC s.size W hs.1 (by omega))
 have K3:=Qa (fun W=>Jk s W (by unfold maxLen;omega))
 have K4:=Qa (fun W=>QY (crcN s) 32 W (by omega) (by have:=Jy s;omega))
 have K5:=Qa (fun W=>AGt s W (by omega))
 have HSL:=Qa (AGj s)
 have HST:Hid (stoL s=Qe 0 2++gamL s.size++Qe (crcN s) 32++b8F (Qb s) s.size):=Qa rfl
 obtain ⟨g,hg⟩:∃ g,(gamL s.size).length=g:=⟨_,rfl⟩
 obtain ⟨cr,hcr⟩:∃ cr,crcN s=cr:=⟨_,rfl⟩
 rw [hcr] at K3 K4 HST
 rw [hg] at K2 HSL hg40
 have hwi:(w.alloc (.cells #[.int .i64 0,.bool false,.int .i64 0] 26)).heap.size=w.heap.size+1:=by simp
 obtain ⟨wi,hwe⟩:∃ wi,wi=w.alloc (.cells #[.int .i64 0,.bool false,.int .i64 0] 26):=⟨_,rfl⟩
 have Bi:Below w.heap.size w wi:=by rw [hwe];exact (Below.refl _ _).alloc (Nat.le_refl _) _
 have HB0:Hid (Has wi w.heap.size 26 #[.int .i64 0,.bool false,.int .i64 0]):=Qa (by rw [hwe];exact Has.fresh _ _ _)
 rw [←hwe] at hwi
 have c0:=HB0.out.cell 0
 have c1:=HB0.out.cell 1
 have c2:=HB0.out.cell 2
 simp at c0 c1 c2
 clear hg hcr
 go_enter Tryz.func33,Tryz.ntmps33
 go_wp2_with fail
 rw [←hwe]
 refine (K1.out wi).mono ?_
 rintro e w1 ⟨rfl,o1,b1⟩
 have B1:=Qc b1 Bi.size Bi
 have s1:=b1.size
 have HB1:=Qa (HB0.out.below b1 HB0.out.lt)
 rw [hwi] at o1
 have HO1:=Qa o1
 have HZ1:Hid (2≤1000000):=Qa (by omega)
 clear b1 c0 c1 c2 HB0 o1 hwe
 have c0:=HB1.out.cell 0
 have c1:=HB1.out.cell 1
 have c2:=HB1.out.cell 2
 simp at c0 c1 c2
 go_wp2_with fail
 refine (K2.out _).mono ?_
 rintro e w2 ⟨v2,rfl,o2,b2⟩
 have B2:=Qc b2 B1.size B1
 have s2:=b2.size
 have HB2:=Qa (HB1.out.below b2 HB1.out.lt)
 have HO2:=Qa (Qd HO1.out b2)
 clear b2 c0 c1 c2 HB1 HO1
 have c0:=HB2.out.cell 0
 have c1:=HB2.out.cell 1
 have c2:=HB2.out.cell 2
 simp at c0 c1 c2
 have HZ2:=HZ1
 clear HZ1
 have hz3:=HZ2.out
 go_wp2_with (at_builtin;refine Qj rfl _ _ 61 rfl (w.heap.size+1) 5 i0 (.int .u8 0) 1 Tryz.underlying61 hi hz0 hz1 hz2 rfl _ _ _ rfl HO2.out v2 _ g (u8s (gamL s.size)) rfl o2 ?ce2 ?ce3 ?ce4 ?ce5 ?_)
 case ce2=>exact QC _
 case ce3=>unfold maxLen;omega
 case ce4=>omega
 case ce5=>have:=B2.size;omega
 intro v3 w3 own3 hgrow _
 rw [←Qq] at own3
 have HO3:=Qa own3
 have B3:=B2.grown hgrow B2.size (fun g hg=>by have:=(HO2.out.lt g hg).1;omega)
 have s3:=hgrow.size
 have HB3:=Qa (HB2.out.grown hgrow (by intro e;have:=(HO2.out.lt _ e.symm).1;omega))
 have HZ3:Hid (2+g≤1000000):=Qa (by omega)
 clear own3 hgrow c0 c1 c2 HB2 HO2 o2 hz3 HZ2
 have c0:=HB3.out.cell 0
 have c1:=HB3.out.cell 1
 have c2:=HB3.out.cell 2
 simp at c0 c1 c2
 go_wp2_with fail
 refine (K3.out _).mono ?_
 rintro e wz ⟨rfl,hwz⟩
 subst hwz
 go_wp2_with fail
 refine (K4.out _).mono ?_
 rintro e w4 ⟨rfl,o4,b4⟩
 have B4:=Qc b4 B3.size B3
 have s4:=b4.size
 have HB4:=Qa (HB3.out.below b4 HB3.out.lt)
 have HO4:=Qa (Qd HO3.out b4)
 clear b4 c0 c1 c2 HB3 HO3
 have c0:=HB4.out.cell 0
 have c1:=HB4.out.cell 1
 have c2:=HB4.out.cell 2
 simp at c0 c1 c2
 have HZ4:=HZ3
 clear HZ3
 have hz5:=HZ4.out
 go_wp2_with (at_builtin;refine Qj rfl _ _ 61 rfl (w.heap.size+1) 5 i0 (.int .u8 0) 1 Tryz.underlying61 hi hz0 hz1 hz2 rfl _ _ _ rfl HO4.out _ _ 32 (u8s (Qe cr 32)) rfl o4 ?ce2 ?ce3 ?ce4 ?ce5 ?_)
 case ce2=>exact QC _
 case ce3=>unfold maxLen;omega
 case ce4=>omega
 case ce5=>have:=B4.size;omega
 intro v5 w5 own5 hgrow _
 rw [←Qq] at own5
 have HO5:=Qa own5
 have B5:=B4.grown hgrow B4.size (fun g hg=>by have:=(HO4.out.lt g hg).1;omega)
 have s5:=hgrow.size
 have HB5:=Qa (HB4.out.grown hgrow (by intro e;have:=(HO4.out.lt _ e.symm).1;omega))
 have HZ5:Hid (2+g+32≤1000000):=Qa (by omega)
 clear own5 hgrow c0 c1 c2 HB4 HO4 o4 hz5 HZ4
 have c0:=HB5.out.cell 0
 have c1:=HB5.out.cell 1
 have c2:=HB5.out.cell 2
 simp at c0 c1 c2
 go_wp2_with fail
 refine (K5.out _).mono ?_
 rintro e w6 ⟨v6,rfl,o6,b6⟩
 have B6:=Qc b6 B5.size B5
 have s6:=b6.size
 have HB6:=Qa (HB5.out.below b6 HB5.out.lt)
 have HO6:=Qa (Qd HO5.out b6)
 clear b6 c0 c1 c2 HB5 HO5
 have c0:=HB6.out.cell 0
 have c1:=HB6.out.cell 1
 have c2:=HB6.out.cell 2
 simp at c0 c1 c2
 have HZ6:=HZ5
 clear HZ5
 have hz7:=HZ6.out
 go_wp2_with (at_builtin;refine Qj rfl _ _ 61 rfl (w.heap.size+1) 5 i0 (.int .u8 0) 1 Tryz.underlying61 hi hz0 hz1 hz2 rfl _ _ _ rfl HO6.out v6 _ (8*s.size) (u8s (b8F (Qb s) s.size)) rfl o6 ?ce2 ?ce3 ?ce4 ?ce5 ?_)
 case ce2=>exact QC _
 case ce3=>unfold maxLen;omega
 case ce4=>omega
 case ce5=>have:=B6.size;omega
 intro v7 w7 own7 hgrow _
 rw [←Qq] at own7
 have HO7:=Qa own7
 have B7:=B6.grown hgrow B6.size (fun g hg=>by have:=(HO6.out.lt g hg).1;omega)
 have s7:=hgrow.size
 have HB7:=Qa (HB6.out.grown hgrow (by intro e;have:=(HO6.out.lt _ e.symm).1;omega))
 have HZ7:Hid (2+g+32+(8*s.size)≤1000000):=Qa (by omega)
 clear own7 hgrow c0 c1 c2 HB6 HO6 o6 hz7 HZ6
 have c0:=HB7.out.cell 0
 have c1:=HB7.out.cell 1
 have c2:=HB7.out.cell 2
 simp at c0 c1 c2
 go_wp2
 go_ret
 refine ⟨_,rfl,?_,B7⟩
 rw [HSL.out,HST.out]
 exact Joins.ownsRow_le HO7.out (by omega)
def Zr (S:List Int):Nat→List Nat
 | 0=>[]
 | i+1=>Zr S i++gamL ((S.getD i 0).toNat+1)
noncomputable def QR (s:ByteArray) (m:Nat) (b:Bool):List Nat :=
 Qe m 2++gamL s.size++Qe (crcN s) 32++gamL ((fstZ s).toNat+1)++Qr (Qm (Qb s))++(if b=true then [1]++putO (Qm (Qb s)) (ordB (Qb s) b) else [0])
theorem jX (s:ByteArray) (w:World) (hs:0<s.size∧s.size≤600) :
 Calls Tryz.prog 33 #[.string s,.agg #[.int .i64 3,.bool false,.int .i64 0]] w fun e w'=>∃ v X,e=.returned v∧X=QR s 3 false++Zr (stgZ s 3 false 0) (stgZ s 3 false 0).length∧w'.ownsRow w.heap.size 5 1 v X.length (u8s X)∧X.length≤1000000∧Below w.heap.size w w':=by
 obtain ⟨i0,hi,hz0,hz1,hz2⟩:=info_parts Tryz.info5
 have hg40:=Zd hs.1 (by omega:s.size≤1048575)
 obtain ⟨f,hf,hf6⟩:=qj hs
 have hgf40:(gamL (f+1)).length≤40:=Zd (by omega) (by omega)
 have hU:=qF hs.1
 have hUb:=Xm (Qb s)
 have hu272:=ZS (Qm (Qb s))
 have K1:=Qa (fun W=>QY 3 2 W (by omega) (by decide))
 have K2:=Qa (fun W=>ZC s.size W hs.1 (by omega))
 have K3:=Qa (fun W=>Jk s W (by unfold maxLen;omega))
 have K4:=Qa (fun W=>QY (crcN s) 32 W (by omega) (by have:=Jy s;omega))
 have K5:=Qa (fun W=>XZ s W (by omega))
 have K6:=Qa (fun W=>XV s 3 0 false W (by omega))
 have K7:=Qa (fun W=>ZC (f+1) W (by omega) (by omega))
 have K8:=Qa (fun W=>Xg s W (by omega))
 have K9:=Qa (fun W=>by
  have h:=VV (Qh (Qm (Qb s))) W (by rw [QI];have:=QO hUb (ZF (Qb s));omega) (by rw [QL hUb];exact hU)
  rw [QL hUb] at h
  exact h)
 have K11:=Qa (fun W=>Jl s 3 0 false W (by omega))
 have HSB:=Qa (Yf s 3 false 0)
 have HTL:Hid (QR s 3 false=Qe 3 2++gamL s.size++Qe (crcN s) 32++gamL (f+1)++Qr (Qm (Qb s))++(if false=true then [1]++putO (Qm (Qb s)) (ordB (Qb s) false) else [0])):=Qa (by unfold QR;rw [hf,Int.toNat_natCast])
 have HGS:Hid (∀ i,Zr (stgZ s 3 false 0) (i+1)=Zr (stgZ s 3 false 0) i++gamL (((stgZ s 3 false 0).getD i 0).toNat+1)):=Qa (fun i=>rfl)
 obtain ⟨g,hg⟩:∃ g,(gamL s.size).length=g:=⟨_,rfl⟩
 obtain ⟨gf,hgf⟩:∃ gf,(gamL (f+1)).length=gf:=⟨_,rfl⟩
 obtain ⟨ub,hub⟩:∃ ub,(Qr (Qm (Qb s))).length=ub:=⟨_,rfl⟩
 obtain ⟨cr,hcr⟩:∃ cr,crcN s=cr:=⟨_,rfl⟩
 obtain ⟨Z,hZ⟩:∃ Z,stgZ s 3 false 0=Z:=⟨_,rfl⟩
 obtain ⟨z,hz⟩:∃ z,Z.length=z:=⟨_,rfl⟩
 rw [hcr] at K3 K4 HTL
 rw [hg] at K2 hg40
 rw [hgf] at K7 hgf40
 rw [hub] at K9 hu272
 rw [hf] at K5
 rw [hZ,hz] at K11 HSB
 rw [hZ] at HGS
 rw [hZ,hz]
 have HZZ:=Qa hz
 rw [show ((f+1:Nat):Int)=(f:Int)+1 by omega] at K7
 obtain ⟨wi,hwe⟩:∃ wi,wi=w.alloc (.cells #[.int .i64 3,.bool false,.int .i64 0] 26):=⟨_,rfl⟩
 have hwi:wi.heap.size=w.heap.size+1:=by rw [hwe];simp
 have Bi:Below w.heap.size w wi:=by rw [hwe];exact (Below.refl _ _).alloc (Nat.le_refl _) _
 have HB0:Hid (Has wi w.heap.size 26 #[.int .i64 3,.bool false,.int .i64 0]):=Qa (by rw [hwe];exact Has.fresh _ _ _)
 have c0:=HB0.out.cell 0
 have c1:=HB0.out.cell 1
 have c2:=HB0.out.cell 2
 simp at c0 c1 c2
 clear hg hcr hgf hub hf hU hUb hZ hz
 go_enter Tryz.func33,Tryz.ntmps33
 go_wp2_with fail
 rw [←hwe]
 refine (K1.out wi).mono ?_
 rintro e w1 ⟨rfl,o1,b1⟩
 have B1:=Qc b1 Bi.size Bi
 have s1:=b1.size
 have HB1:=Qa (HB0.out.below b1 HB0.out.lt)
 rw [hwi] at o1
 have HO1:=Qa o1
 have HZ1:Hid (2≤1000000):=Qa (by omega)
 clear b1 c0 c1 c2 HB0 o1 hwe
 have c0:=HB1.out.cell 0
 have c1:=HB1.out.cell 1
 have c2:=HB1.out.cell 2
 simp at c0 c1 c2
 go_wp2_with fail
 refine (K2.out _).mono ?_
 rintro e w2 ⟨v2,rfl,o2,b2⟩
 have B2:=Qc b2 B1.size B1
 have s2:=b2.size
 have HB2:=Qa (HB1.out.below b2 HB1.out.lt)
 have HO2:=Qa (Qd HO1.out b2)
 have HZ2:=HZ1
 clear b2 c0 c1 c2 HB1 HO1 HZ1
 have c0:=HB2.out.cell 0
 have c1:=HB2.out.cell 1
 have c2:=HB2.out.cell 2
 simp at c0 c1 c2
 have hz3:=HZ2.out
 go_wp2_with (at_builtin;refine Qj rfl _ _ 61 rfl (w.heap.size+1) 5 i0 (.int .u8 0) 1 Tryz.underlying61 hi hz0 hz1 hz2 rfl _ _ _ rfl HO2.out v2 _ g (u8s (gamL s.size)) rfl o2 ?ce2 ?ce3 ?ce4 ?ce5 ?_)
 case ce2=>exact QC _
 case ce3=>unfold maxLen;omega
 case ce4=>omega
 case ce5=>have:=B2.size;omega
 intro v3 w3 own3 hgrow _
 rw [←Qq] at own3
 have HO3:=Qa own3
 have s3:=hgrow.size
 have HZ3:Hid (2+g≤1000000):=Qa (by omega)
 have B3:=B2.grown hgrow B2.size (fun g hg=>by have:=(HO2.out.lt g hg).1;omega)
 have HB3:=Qa (HB2.out.grown hgrow (by intro e;have:=(HO2.out.lt _ e.symm).1;omega))
 clear own3 hgrow c0 c1 c2 HB2 HO2 o2 hz3 HZ2
 have c0:=HB3.out.cell 0
 have c1:=HB3.out.cell 1
 have c2:=HB3.out.cell 2
 simp at c0 c1 c2
 go_wp2_with fail
 refine (K3.out _).mono ?_
 rintro e wz ⟨rfl,hwz⟩
 subst hwz
 go_wp2_with fail
 refine (K4.out _).mono ?_
 rintro e w4 ⟨rfl,o4,b4⟩
 have B4:=Qc b4 B3.size B3
 have s4:=b4.size
 have HB4:=Qa (HB3.out.below b4 HB3.out.lt)
 have HO4:=Qa (Qd HO3.out b4)
 have HZ4:=HZ3
 clear b4 c0 c1 c2 HB3 HO3 HZ3
 have c0:=HB4.out.cell 0
 have c1:=HB4.out.cell 1
 have c2:=HB4.out.cell 2
 simp at c0 c1 c2
 have hz5:=HZ4.out
 go_wp2_with (at_builtin;refine Qj rfl _ _ 61 rfl (w.heap.size+1) 5 i0 (.int .u8 0) 1 Tryz.underlying61 hi hz0 hz1 hz2 rfl _ _ _ rfl HO4.out _ _ 32 (u8s (Qe cr 32)) rfl o4 ?ce2 ?ce3 ?ce4 ?ce5 ?_)
 case ce2=>exact QC _
 case ce3=>unfold maxLen;omega
 case ce4=>omega
 case ce5=>have:=B4.size;omega
 intro v5 w5 own5 hgrow _
 rw [←Qq] at own5
 have HO5:=Qa own5
 have s5:=hgrow.size
 have HZ5:Hid (2+g+32≤1000000):=Qa (by omega)
 have B5:=B4.grown hgrow B4.size (fun g hg=>by have:=(HO4.out.lt g hg).1;omega)
 have HB5:=Qa (HB4.out.grown hgrow (by intro e;have:=(HO4.out.lt _ e.symm).1;omega))
 clear own5 hgrow c0 c1 c2 HB4 HO4 o4 hz5 HZ4
 have c0:=HB5.out.cell 0
 have c1:=HB5.out.cell 1
 have c2:=HB5.out.cell 2
 simp at c0 c1 c2
 go_wp2_with fail
 refine (K5.out _).mono ?_
 rintro e w6 ⟨rfl,b6⟩
 have B6:=Qc b6 B5.size B5
 have s6:=b6.size
 have HB6:=Qa (HB5.out.below b6 HB5.out.lt)
 have HO6:=Qa (Qd HO5.out b6)
 have HZ6:=HZ5
 clear b6 c0 c1 c2 HB5 HO5 HZ5
 have c0:=HB6.out.cell 0
 have c1:=HB6.out.cell 1
 have c2:=HB6.out.cell 2
 simp at c0 c1 c2
 go_wp2_with fail
 refine (K6.out _).mono ?_
 rintro e w7 ⟨rfl,hB7,hO7,hR7,b7⟩
 have B7:=Qc b7 B6.size B6
 have s7:=b7.size
 have HB7:=Qa (HB6.out.below b7 HB6.out.lt)
 have HO7:=Qa (Qd HO6.out b7)
 have HZ7:=HZ6
 clear b7 c0 c1 c2 HB6 HO6 HZ6
 have c0:=HB7.out.cell 0
 have c1:=HB7.out.cell 1
 have c2:=HB7.out.cell 2
 simp at c0 c1 c2
 go_wp2_with fail
 refine (K7.out _).mono ?_
 rintro e w8 ⟨v8,rfl,o8,b8⟩
 have B8:=Qc b8 B7.size B7
 have s8:=b8.size
 have HB8:=Qa (HB7.out.below b8 HB7.out.lt)
 have HO8:=Qa (Qd HO7.out b8)
 have HZ8:=HZ7
 clear b8 c0 c1 c2 HB7 HO7 HZ7
 have c0:=HB8.out.cell 0
 have c1:=HB8.out.cell 1
 have c2:=HB8.out.cell 2
 simp at c0 c1 c2
 have hz9:=HZ8.out
 go_wp2_with (at_builtin;refine Qj rfl _ _ 61 rfl (w.heap.size+1) 5 i0 (.int .u8 0) 1 Tryz.underlying61 hi hz0 hz1 hz2 rfl _ _ _ rfl HO8.out v8 _ gf (u8s (gamL (f+1))) rfl o8 ?ce2 ?ce3 ?ce4 ?ce5 ?_)
 case ce2=>exact QC _
 case ce3=>unfold maxLen;omega
 case ce4=>omega
 case ce5=>have:=B8.size;omega
 intro v9 w9 own9 hgrow _
 rw [←Qq] at own9
 have HO9:=Qa own9
 have s9:=hgrow.size
 have HZ9:Hid (2+g+32+gf≤1000000):=Qa (by omega)
 have B9:=B8.grown hgrow B8.size (fun g hg=>by have:=(HO8.out.lt g hg).1;omega)
 have HB9:=Qa (HB8.out.grown hgrow (by intro e;have:=(HO8.out.lt _ e.symm).1;omega))
 clear own9 hgrow c0 c1 c2 HB8 HO8 o8 hz9 HZ8
 have c0:=HB9.out.cell 0
 have c1:=HB9.out.cell 1
 have c2:=HB9.out.cell 2
 simp at c0 c1 c2
 go_wp2_with fail
 refine (K8.out _).mono ?_
 rintro e w10 ⟨rfl,b10⟩
 have B10:=Qc b10 B9.size B9
 have s10:=b10.size
 have HB10:=Qa (HB9.out.below b10 HB9.out.lt)
 have HO10:=Qa (Qd HO9.out b10)
 have HZ10:=HZ9
 clear b10 c0 c1 c2 HB9 HO9 HZ9
 have c0:=HB10.out.cell 0
 have c1:=HB10.out.cell 1
 have c2:=HB10.out.cell 2
 simp at c0 c1 c2
 go_wp2_with fail
 refine (K9.out _).mono ?_
 rintro e w11 ⟨v11,rfl,o11,b11⟩
 have B11:=Qc b11 B10.size B10
 have s11:=b11.size
 have HB11:=Qa (HB10.out.below b11 HB10.out.lt)
 have HO11:=Qa (Qd HO10.out b11)
 have HZ11:=HZ10
 clear b11 c0 c1 c2 HB10 HO10 HZ10
 have c0:=HB11.out.cell 0
 have c1:=HB11.out.cell 1
 have c2:=HB11.out.cell 2
 simp at c0 c1 c2
 have hz12:=HZ11.out
 go_wp2_with (at_builtin;refine Qj rfl _ _ 61 rfl (w.heap.size+1) 5 i0 (.int .u8 0) 1 Tryz.underlying61 hi hz0 hz1 hz2 rfl _ _ _ rfl HO11.out v11 _ ub (u8s (Qr (Qm (Qb s)))) rfl o11 ?ce2 ?ce3 ?ce4 ?ce5 ?_)
 case ce2=>exact QC _
 case ce3=>unfold maxLen;omega
 case ce4=>omega
 case ce5=>have:=B11.size;omega
 intro v12 w12 own12 hgrow _
 rw [←Qq] at own12
 have HO12:=Qa own12
 have s12:=hgrow.size
 have HZ12:Hid (2+g+32+gf+ub≤1000000):=Qa (by omega)
 have B12:=B11.grown hgrow B11.size (fun g hg=>by have:=(HO11.out.lt g hg).1;omega)
 have HB12:=Qa (HB11.out.grown hgrow (by intro e;have:=(HO11.out.lt _ e.symm).1;omega))
 clear own12 hgrow c0 c1 c2 HB11 HO11 o11 hz12 HZ11
 have c0:=HB12.out.cell 0
 have c1:=HB12.out.cell 1
 have c2:=HB12.out.cell 2
 simp at c0 c1 c2
 have hz13:=HZ12.out
 go_wp2_with (at_builtin;refine wpList_append_own _ rfl _ _ 61 rfl (w.heap.size+1) 5 i0 (.int .u8 0) 1 1 Tryz.underlying61 hi hz0 hz1 hz2 rfl (by decide) _ _ _ rfl (HO12.out.alloc _) ⟨w12.heap.size,0,none⟩ 1 1 [.int .u8 0] rfl rfl ?ce1 ?ce2 ?ce3 ?ce4 ?ce5 ?_)
 case ce1=>exact cell_one_new _ _ _
 case ce2=>exact fun u hu=>by simp at hu;subst hu;rfl
 case ce3=>unfold maxLen;omega
 case ce4=>omega
 case ce5=>have:=B12.size;simp;omega
 intro v13 w13 own13 hgrow _
 rw [show ([.int .u8 0]:List Value)=u8s [0] from rfl,←Qq] at own13
 have HO13:=Qa own13
 have s13:=hgrow.size
 have HZ13:Hid (2+g+32+gf+ub+1≤1000000):=Qa (by omega)
 have B13:=(B12.alloc B12.size (.cells #[.int .u8 0] 5)).grown hgrow (by have:=B12.size;simp;omega) (fun g hg=>by have:=(HO12.out.lt g hg).1;omega)
 have HB13:=Qa ((HB12.out.alloc (.cells #[.int .u8 0] 5)).grown hgrow (by intro e;have:=(HO12.out.lt _ e.symm).1;omega))
 simp at s13
 clear own13 hgrow c0 c1 c2 HB12 HO12 hz13 HZ12
 have c0:=HB13.out.cell 0
 have c1:=HB13.out.cell 1
 have c2:=HB13.out.cell 2
 simp at c0 c1 c2
 go_wp2_with fail
 refine (K11.out _).mono ?_
 rintro e w14 ⟨v14,rfl,oS,b14⟩
 have B14:=Qc b14 B13.size B13
 have s14:=b14.size
 have HB14:=Qa (HB13.out.below b14 HB13.out.lt)
 have HO14:=Qa (Qd HO13.out b14)
 have HZ14:=HZ13
 clear b14 c0 c1 c2 HB13 HO13 HZ13
 have c0:=HB14.out.cell 0
 have c1:=HB14.out.cell 1
 have c2:=HB14.out.cell 2
 simp at c0 c1 c2
 have HS14:=Qa oS
 clear oS
 clear K1 K2 K3 K4 K5 K6 K7 K8 K9 K11
 have hzz:=HZ14.out
 obtain ⟨p,hp⟩:∃ p,2+g+32+gf+ub+1=p:=⟨_,rfl⟩
 obtain ⟨X,hX⟩:∃ X,Qe 3 2++gamL s.size++Qe cr 32++gamL (f+1)++Qr (Qm (Qb s))++[0]=X:=⟨_,rfl⟩
 have HX:Hid (QR s 3 false=X):=Qa (by rw [HTL.out,←hX];simp [List.append_assoc])
 rw [hp] at hzz
 have hpX:p≤4000:=by omega
 have HOx:Hid (w14.ownsRow (w.heap.size+1) 5 1 v13 p (u8s X)):=Qa (by rw [←hp,←hX];have h:=HO14.out;simp only [List.append_assoc] at h ⊢;exact h)
 have HBx:=HB14
 have HSx:=HS14
 have hsx:=HSB.out
 have HLX:Hid (X.length=p):=Qa (by have h:=HOx.out.1;rw [QS] at h;omega)
 obtain ⟨aS,cS,rfl⟩:=Qv HSx.out
 clear hp hX HO14 HZ14 HTL HB14 HS14
 go_wp2
 go_loopw [5,10] (fun vo si wr=>∃ (i q:Nat) (Y:List Nat),i≤z∧si=.int .i64 i∧Hid (Y=X++Zr Z i)∧Hid (Y.length=q)∧q≤p+40*i∧wr.ownsRow (w.heap.size+1) 5 1 vo q (u8s Y)∧Hid (wr.ownsRow w13.heap.size 3 1 (.slice aS z cS) z (Qn Z))∧Below w.heap.size w wr∧w.heap.size+1≤wr.heap.size) (fun _ si _=>z-(intOf si).toNat)
 case atStart=>exact ⟨0,p,X,Nat.zero_le _,rfl,Qa (by simp [Zr]),HLX,by omega,HOx.out,HSx,B14,by have:=B14.size;omega⟩
 case round =>
  obtain ⟨i,q,Y,hi2,rfl,HY,HYl,hq,hown,HSr,hbl,hsr⟩:=hrel
  by_cases hlt:i<z
  ·obtain ⟨gS,cS2,hgS⟩:=Joins.ownsRow_form HSr.out (by omega)
   simp only [Value.slice.injEq] at hgS
   obtain ⟨rfl,_,rfl⟩:=hgS
   have d0:=HSr.out.cellAt i (by omega)
   rw [Xv Z i (by rw [HZZ.out];exact hlt)] at d0
   have hy:=hsx.2 _ (XI (by rw [HZZ.out];exact hlt:i<Z.length))
   obtain ⟨y,hye⟩:∃ y:Nat,Z.getD i 0=(y:Int):=⟨(Z.getD i 0).toNat,by omega⟩
   have hgs:=HGS.out i
   rw [hye] at d0 hy hgs
   rw [Int.toNat_natCast] at hgs
   have K:=Qa (fun W=>ZC (y+1) W (by omega) (by omega))
   rw [show ((y+1:Nat):Int)=(y:Int)+1 by omega] at K
   have hl40:=Zd (n:=y+1) (by omega) (by omega)
   obtain ⟨gl,hgl⟩:∃ gl,(gamL (y+1)).length=gl:=⟨_,rfl⟩
   rw [hgl] at K hl40
   have HGX:=Qa hgs
   have HGL:=Qa hgl
   have HOo:=Qa hown
   have HBL:=Qa hbl
   clear hgs hye hgl hown hbl
   go_wp2_with fail
   refine (K.out _).mono ?_
   rintro e w3 ⟨v3,rfl,o3,b3⟩
   have hO:=Qd HOo.out b3
   have hS3:=Qa (Qd HSr.out b3)
   have hb3:=Qc b3 HBL.out.size HBL.out
   have s3:=b3.size
   clear K b3 d0
   go_wp2_with (at_builtin;refine Qj rfl _ _ 61 rfl (w.heap.size+1) 5 i0 (.int .u8 0) 1 Tryz.underlying61 hi hz0 hz1 hz2 rfl _ _ _ rfl hO v3 _ gl (u8s (gamL (y+1))) rfl o3 ?ce2 ?ce3 ?ce4 ?ce5 ?_)
   case ce2=>exact QC _
   case ce3=>unfold maxLen;omega
   case ce4=>omega
   case ce5=>omega
   intro v5 w5 hown5 hgrow _
   have hb5:=Qa (hb3.grown hgrow hb3.size (fun g hg=>by have:=(hO.lt g hg).1;omega))
   have hS5:=Qa (Qt hS3.out hgrow (fun g hg=>Qy hS3.out hO (by decide) hg))
   have s5:=hgrow.size
   rw [←Qq] at hown5
   have HY5:Hid (Y++gamL (y+1)=X++Zr Z (i+1)):=Qa (by rw [HY.out,HGX.out,List.append_assoc])
   have HYl5:Hid ((Y++gamL (y+1)).length=q+gl):=Qa (by rw [List.length_append,HYl.out,HGL.out])
   have hO5:=Qa hown5
   clear hO hown5 hgrow o3 hb3
   go_wp2
   go_roundw
   case rel=>exact ⟨i+1,q+gl,_,by omega,by go_num,HY5,HYl5,by omega,hO5.out,hS5,hb5.out,by omega⟩
   case measure=>simp [intOf];omega
  ·obtain rfl:i=z:=by omega
   have HOo:=Qa hown
   have HBL:=Qa hbl
   clear hown hbl
   go_wp2
   go_ret
   exact ⟨_,Y,rfl,by rw [HY.out,HX.out],by rw [HYl.out];exact Joins.ownsRow_le HOo.out (by omega),by rw [HYl.out];omega,HBL.out⟩
theorem vy (s:ByteArray) (w:World) (hs:0<s.size∧s.size≤600) :
 Calls Tryz.prog 33 #[.string s,.agg #[.int .i64 3,.bool true,.int .i64 0]] w fun e w'=>∃ v X,e=.returned v∧X=QR s 3 true++Zr (stgZ s 3 true 0) (stgZ s 3 true 0).length∧w'.ownsRow w.heap.size 5 1 v X.length (u8s X)∧X.length≤1000000∧Below w.heap.size w w':=by
 obtain ⟨i0,hi,hz0,hz1,hz2⟩:=info_parts Tryz.info5
 have hg40:=Zd hs.1 (by omega:s.size≤1048575)
 obtain ⟨f,hf,hf6⟩:=qj hs
 have hgf40:(gamL (f+1)).length≤40:=Zd (by omega) (by omega)
 have hU:=qF hs.1
 have hUb:=Xm (Qb s)
 have hu272:=ZS (Qm (Qb s))
 have K1:=Qa (fun W=>QY 3 2 W (by omega) (by decide))
 have K2:=Qa (fun W=>ZC s.size W hs.1 (by omega))
 have K3:=Qa (fun W=>Jk s W (by unfold maxLen;omega))
 have K4:=Qa (fun W=>QY (crcN s) 32 W (by omega) (by have:=Jy s;omega))
 have K5:=Qa (fun W=>XZ s W (by omega))
 have K6:=Qa (fun W=>XV s 3 0 true W (by omega))
 have K7:=Qa (fun W=>ZC (f+1) W (by omega) (by omega))
 have K8:=Qa (fun W=>Xg s W (by omega))
 have K9:=Qa (fun W=>by
  have h:=VV (Qh (Qm (Qb s))) W (by rw [QI];have:=QO hUb (ZF (Qb s));omega) (by rw [QL hUb];exact hU)
  rw [QL hUb] at h
  exact h)
 have K11:=Qa (fun W=>Jl s 3 0 true W (by omega))
 have HSB:=Qa (Yf s 3 true 0)
 have HTL:Hid (QR s 3 true=Qe 3 2++gamL s.size++Qe (crcN s) 32++gamL (f+1)++Qr (Qm (Qb s))++(if true=true then [1]++putO (Qm (Qb s)) (ordB (Qb s) true) else [0])):=Qa (by unfold QR;rw [hf,Int.toNat_natCast])
 have HGS:Hid (∀ i,Zr (stgZ s 3 true 0) (i+1)=Zr (stgZ s 3 true 0) i++gamL (((stgZ s 3 true 0).getD i 0).toNat+1)):=Qa (fun i=>rfl)
 have hO:QT (Qb s) (ordB (Qb s) true)∨ordB (Qb s) true=Qm (Qb s)→ZJ (ordB (Qb s) true)=true∧Qm (ordB (Qb s) true)=Qm (Qb s):=fun h=>by
  obtain ⟨h1,_,_,_,_,h6⟩:=qA (Jn hs.1) (QF s) h
  exact ⟨h1,h6⟩
 have K10:=Qa (fun W (h1:Byt (ordB (Qb s) true)) (h2:ZJ (ordB (Qb s) true)=true∧Qm (ordB (Qb s) true)=Qm (Qb s))=>by
  have h:=jj (Qh (ordB (Qb s) true)) W (by rw [QL h1];exact h2.1)
  rw [QL h1,h2.2] at h
  exact h)
 have HPL:=Qa (fun (h:(ordB (Qb s) true).length≤256)=>VB (Qm (Qb s)) (ordB (Qb s) true) (QO hUb (ZF (Qb s))))
 obtain ⟨g,hg⟩:∃ g,(gamL s.size).length=g:=⟨_,rfl⟩
 obtain ⟨gf,hgf⟩:∃ gf,(gamL (f+1)).length=gf:=⟨_,rfl⟩
 obtain ⟨ub,hub⟩:∃ ub,(Qr (Qm (Qb s))).length=ub:=⟨_,rfl⟩
 obtain ⟨cr,hcr⟩:∃ cr,crcN s=cr:=⟨_,rfl⟩
 obtain ⟨Z,hZ⟩:∃ Z,stgZ s 3 true 0=Z:=⟨_,rfl⟩
 obtain ⟨z,hz⟩:∃ z,Z.length=z:=⟨_,rfl⟩
 rw [hcr] at K3 K4 HTL
 rw [hg] at K2 hg40
 rw [hgf] at K7 hgf40
 rw [hub] at K9 hu272
 rw [hf] at K5
 rw [hZ,hz] at K11 HSB
 rw [hZ] at HGS
 rw [hZ,hz]
 have HZZ:=Qa hz
 rw [show ((f+1:Nat):Int)=(f:Int)+1 by omega] at K7
 obtain ⟨wi,hwe⟩:∃ wi,wi=w.alloc (.cells #[.int .i64 3,.bool true,.int .i64 0] 26):=⟨_,rfl⟩
 have hwi:wi.heap.size=w.heap.size+1:=by rw [hwe];simp
 have Bi:Below w.heap.size w wi:=by rw [hwe];exact (Below.refl _ _).alloc (Nat.le_refl _) _
 have HB0:Hid (Has wi w.heap.size 26 #[.int .i64 3,.bool true,.int .i64 0]):=Qa (by rw [hwe];exact Has.fresh _ _ _)
 have c0:=HB0.out.cell 0
 have c1:=HB0.out.cell 1
 have c2:=HB0.out.cell 2
 simp at c0 c1 c2
 clear hg hcr hgf hub hf hU hUb hZ hz
 go_enter Tryz.func33,Tryz.ntmps33
 go_wp2_with fail
 rw [←hwe]
 refine (K1.out wi).mono ?_
 rintro e w1 ⟨rfl,o1,b1⟩
 have B1:=Qc b1 Bi.size Bi
 have s1:=b1.size
 have HB1:=Qa (HB0.out.below b1 HB0.out.lt)
 rw [hwi] at o1
 have HO1:=Qa o1
 have HZ1:Hid (2≤1000000):=Qa (by omega)
 clear b1 c0 c1 c2 HB0 o1 hwe
 have c0:=HB1.out.cell 0
 have c1:=HB1.out.cell 1
 have c2:=HB1.out.cell 2
 simp at c0 c1 c2
 go_wp2_with fail
 refine (K2.out _).mono ?_
 rintro e w2 ⟨v2,rfl,o2,b2⟩
 have B2:=Qc b2 B1.size B1
 have s2:=b2.size
 have HB2:=Qa (HB1.out.below b2 HB1.out.lt)
 have HO2:=Qa (Qd HO1.out b2)
 have HZ2:=HZ1
 clear b2 c0 c1 c2 HB1 HO1 HZ1
 have c0:=HB2.out.cell 0
 have c1:=HB2.out.cell 1
 have c2:=HB2.out.cell 2
 simp at c0 c1 c2
 have hz3:=HZ2.out
 go_wp2_with (at_builtin;refine Qj rfl _ _ 61 rfl (w.heap.size+1) 5 i0 (.int .u8 0) 1 Tryz.underlying61 hi hz0 hz1 hz2 rfl _ _ _ rfl HO2.out v2 _ g (u8s (gamL s.size)) rfl o2 ?ce2 ?ce3 ?ce4 ?ce5 ?_)
 case ce2=>exact QC _
 case ce3=>unfold maxLen;omega
 case ce4=>omega
 case ce5=>have:=B2.size;omega
 intro v3 w3 own3 hgrow _
 rw [←Qq] at own3
 have HO3:=Qa own3
 have s3:=hgrow.size
 have HZ3:Hid (2+g≤1000000):=Qa (by omega)
 have B3:=B2.grown hgrow B2.size (fun g hg=>by have:=(HO2.out.lt g hg).1;omega)
 have HB3:=Qa (HB2.out.grown hgrow (by intro e;have:=(HO2.out.lt _ e.symm).1;omega))
 clear own3 hgrow c0 c1 c2 HB2 HO2 o2 hz3 HZ2
 have c0:=HB3.out.cell 0
 have c1:=HB3.out.cell 1
 have c2:=HB3.out.cell 2
 simp at c0 c1 c2
 go_wp2_with fail
 refine (K3.out _).mono ?_
 rintro e wz ⟨rfl,hwz⟩
 subst hwz
 go_wp2_with fail
 refine (K4.out _).mono ?_
 rintro e w4 ⟨rfl,o4,b4⟩
 have B4:=Qc b4 B3.size B3
 have s4:=b4.size
 have HB4:=Qa (HB3.out.below b4 HB3.out.lt)
 have HO4:=Qa (Qd HO3.out b4)
 have HZ4:=HZ3
 clear b4 c0 c1 c2 HB3 HO3 HZ3
 have c0:=HB4.out.cell 0
 have c1:=HB4.out.cell 1
 have c2:=HB4.out.cell 2
 simp at c0 c1 c2
 have hz5:=HZ4.out
 go_wp2_with (at_builtin;refine Qj rfl _ _ 61 rfl (w.heap.size+1) 5 i0 (.int .u8 0) 1 Tryz.underlying61 hi hz0 hz1 hz2 rfl _ _ _ rfl HO4.out _ _ 32 (u8s (Qe cr 32)) rfl o4 ?ce2 ?ce3 ?ce4 ?ce5 ?_)
 case ce2=>exact QC _
 case ce3=>unfold maxLen;omega
 case ce4=>omega
 case ce5=>have:=B4.size;omega
 intro v5 w5 own5 hgrow _
 rw [←Qq] at own5
 have HO5:=Qa own5
 have s5:=hgrow.size
 have HZ5:Hid (2+g+32≤1000000):=Qa (by omega)
 have B5:=B4.grown hgrow B4.size (fun g hg=>by have:=(HO4.out.lt g hg).1;omega)
 have HB5:=Qa (HB4.out.grown hgrow (by intro e;have:=(HO4.out.lt _ e.symm).1;omega))
 clear own5 hgrow c0 c1 c2 HB4 HO4 o4 hz5 HZ4
 have c0:=HB5.out.cell 0
 have c1:=HB5.out.cell 1
 have c2:=HB5.out.cell 2
 simp at c0 c1 c2
 go_wp2_with fail
 refine (K5.out _).mono ?_
 rintro e w6 ⟨rfl,b6⟩
 have B6:=Qc b6 B5.size B5
 have s6:=b6.size
 have HB6:=Qa (HB5.out.below b6 HB5.out.lt)
 have HO6:=Qa (Qd HO5.out b6)
 have HZ6:=HZ5
 clear b6 c0 c1 c2 HB5 HO5 HZ5
 have c0:=HB6.out.cell 0
 have c1:=HB6.out.cell 1
 have c2:=HB6.out.cell 2
 simp at c0 c1 c2
 go_wp2_with fail
 refine (K6.out _).mono ?_
 rintro e w7 ⟨rfl,hB7,hO7,hR7,b7⟩
 have B7:=Qc b7 B6.size B6
 have s7:=b7.size
 have HB7:=Qa (HB6.out.below b7 HB6.out.lt)
 have HO7:=Qa (Qd HO6.out b7)
 have HZ7:=HZ6
 clear b7 c0 c1 c2 HB6 HO6 HZ6
 have c0:=HB7.out.cell 0
 have c1:=HB7.out.cell 1
 have c2:=HB7.out.cell 2
 simp at c0 c1 c2
 go_wp2_with fail
 refine (K7.out _).mono ?_
 rintro e w8 ⟨v8,rfl,o8,b8⟩
 have B8:=Qc b8 B7.size B7
 have s8:=b8.size
 have HB8:=Qa (HB7.out.below b8 HB7.out.lt)
 have HO8:=Qa (Qd HO7.out b8)
 have HZ8:=HZ7
 clear b8 c0 c1 c2 HB7 HO7 HZ7
 have c0:=HB8.out.cell 0
 have c1:=HB8.out.cell 1
 have c2:=HB8.out.cell 2
 simp at c0 c1 c2
 have hz9:=HZ8.out
 go_wp2_with (at_builtin;refine Qj rfl _ _ 61 rfl (w.heap.size+1) 5 i0 (.int .u8 0) 1 Tryz.underlying61 hi hz0 hz1 hz2 rfl _ _ _ rfl HO8.out v8 _ gf (u8s (gamL (f+1))) rfl o8 ?ce2 ?ce3 ?ce4 ?ce5 ?_)
 case ce2=>exact QC _
 case ce3=>unfold maxLen;omega
 case ce4=>omega
 case ce5=>have:=B8.size;omega
 intro v9 w9 own9 hgrow _
 rw [←Qq] at own9
 have HO9:=Qa own9
 have s9:=hgrow.size
 have HZ9:Hid (2+g+32+gf≤1000000):=Qa (by omega)
 have B9:=B8.grown hgrow B8.size (fun g hg=>by have:=(HO8.out.lt g hg).1;omega)
 have HB9:=Qa (HB8.out.grown hgrow (by intro e;have:=(HO8.out.lt _ e.symm).1;omega))
 clear own9 hgrow c0 c1 c2 HB8 HO8 o8 hz9 HZ8
 have c0:=HB9.out.cell 0
 have c1:=HB9.out.cell 1
 have c2:=HB9.out.cell 2
 simp at c0 c1 c2
 go_wp2_with fail
 refine (K8.out _).mono ?_
 rintro e w10 ⟨rfl,b10⟩
 have B10:=Qc b10 B9.size B9
 have s10:=b10.size
 have HB10:=Qa (HB9.out.below b10 HB9.out.lt)
 have HO10:=Qa (Qd HO9.out b10)
 have HZ10:=HZ9
 clear b10 c0 c1 c2 HB9 HO9 HZ9
 have c0:=HB10.out.cell 0
 have c1:=HB10.out.cell 1
 have c2:=HB10.out.cell 2
 simp at c0 c1 c2
 go_wp2_with fail
 refine (K9.out _).mono ?_
 rintro e w11 ⟨v11,rfl,o11,b11⟩
 have B11:=Qc b11 B10.size B10
 have s11:=b11.size
 have HB11:=Qa (HB10.out.below b11 HB10.out.lt)
 have HO11:=Qa (Qd HO10.out b11)
 have HZ11:=HZ10
 clear b11 c0 c1 c2 HB10 HO10 HZ10
 have c0:=HB11.out.cell 0
 have c1:=HB11.out.cell 1
 have c2:=HB11.out.cell 2
 simp at c0 c1 c2
 have hz12:=HZ11.out
 go_wp2_with (at_builtin;refine Qj rfl _ _ 61 rfl (w.heap.size+1) 5 i0 (.int .u8 0) 1 Tryz.underlying61 hi hz0 hz1 hz2 rfl _ _ _ rfl HO11.out v11 _ ub (u8s (Qr (Qm (Qb s)))) rfl o11 ?ce2 ?ce3 ?ce4 ?ce5 ?_)
 case ce2=>exact QC _
 case ce3=>unfold maxLen;omega
 case ce4=>omega
 case ce5=>have:=B11.size;omega
 intro v12 w12 own12 hgrow _
 rw [←Qq] at own12
 have HO12:=Qa own12
 have s12:=hgrow.size
 have HZ12:Hid (2+g+32+gf+ub≤1000000):=Qa (by omega)
 have B12:=B11.grown hgrow B11.size (fun g hg=>by have:=(HO11.out.lt g hg).1;omega)
 have HB12:=Qa (HB11.out.grown hgrow (by intro e;have:=(HO11.out.lt _ e.symm).1;omega))
 clear own12 hgrow c0 c1 c2 HB11 HO11 o11 hz12 HZ11
 have c0:=HB12.out.cell 0
 have c1:=HB12.out.cell 1
 have c2:=HB12.out.cell 2
 simp at c0 c1 c2
 have hz13:=HZ12.out
 go_wp2_with (at_builtin;refine wpList_append_own _ rfl _ _ 61 rfl (w.heap.size+1) 5 i0 (.int .u8 0) 1 1 Tryz.underlying61 hi hz0 hz1 hz2 rfl (by decide) _ _ _ rfl (HO12.out.alloc _) ⟨w12.heap.size,0,none⟩ 1 1 [.int .u8 1] rfl rfl ?ce1 ?ce2 ?ce3 ?ce4 ?ce5 ?_)
 case ce1=>exact cell_one_new _ _ _
 case ce2=>exact fun u hu=>by simp at hu;subst hu;rfl
 case ce3=>unfold maxLen;omega
 case ce4=>omega
 case ce5=>have:=B12.size;simp;omega
 intro v13 w13 own13 hgrow _
 rw [show ([.int .u8 1]:List Value)=u8s [1] from rfl,←Qq] at own13
 have HO13:=Qa own13
 have s13:=hgrow.size
 have HZ13:Hid (2+g+32+gf+ub+1≤1000000):=Qa (by omega)
 have B13:=(B12.alloc B12.size (.cells #[.int .u8 1] 5)).grown hgrow (by have:=B12.size;simp;omega) (fun g hg=>by have:=(HO12.out.lt g hg).1;omega)
 have HB13:=Qa ((HB12.out.alloc (.cells #[.int .u8 1] 5)).grown hgrow (by intro e;have:=(HO12.out.lt _ e.symm).1;omega))
 simp at s13
 clear own13 hgrow c0 c1 c2 HB12 HO12 hz13 HZ12
 have c0:=HB13.out.cell 0
 have c1:=HB13.out.cell 1
 have c2:=HB13.out.cell 2
 simp at c0 c1 c2
 have hpl:=HPL.out hO7
 obtain ⟨pl,hpe⟩:∃ pl,(putO (Qm (Qb s)) (ordB (Qb s) true)).length=pl:=⟨_,rfl⟩
 have K10b:=Qa (fun W=>K10.out W hB7 (hO hR7.out))
 rw [hpe] at K10b hpl
 clear hpe K10 HPL
 go_wp2_with fail
 refine (K10b.out _).mono ?_
 rintro e w14 ⟨v14,rfl,o14,b14⟩
 have B14:=Qc b14 B13.size B13
 have s14:=b14.size
 have HB14:=Qa (HB13.out.below b14 HB13.out.lt)
 have HO14:=Qa (Qd HO13.out b14)
 have HZ14:=HZ13
 clear b14 c0 c1 c2 HB13 HO13 HZ13
 have c0:=HB14.out.cell 0
 have c1:=HB14.out.cell 1
 have c2:=HB14.out.cell 2
 simp at c0 c1 c2
 have hz15:=HZ14.out
 go_wp2_with (at_builtin;refine Qj rfl _ _ 61 rfl (w.heap.size+1) 5 i0 (.int .u8 0) 1 Tryz.underlying61 hi hz0 hz1 hz2 rfl _ _ _ rfl HO14.out v14 _ pl (u8s (putO (Qm (Qb s)) (ordB (Qb s) true))) rfl o14 ?ce2 ?ce3 ?ce4 ?ce5 ?_)
 case ce2=>exact QC _
 case ce3=>unfold maxLen;omega
 case ce4=>omega
 case ce5=>have:=B14.size;omega
 intro v15 w15 own15 hgrow _
 rw [←Qq] at own15
 have HO15:=Qa own15
 have s15:=hgrow.size
 have HZ15:Hid (2+g+32+gf+ub+1+pl≤1000000):=Qa (by omega)
 have B15:=B14.grown hgrow B14.size (fun g hg=>by have:=(HO14.out.lt g hg).1;omega)
 have HB15:=Qa (HB14.out.grown hgrow (by intro e;have:=(HO14.out.lt _ e.symm).1;omega))
 clear own15 hgrow c0 c1 c2 HB14 HO14 o14 hz15 HZ14
 have c0:=HB15.out.cell 0
 have c1:=HB15.out.cell 1
 have c2:=HB15.out.cell 2
 simp at c0 c1 c2
 go_wp2_with fail
 refine (K11.out _).mono ?_
 rintro e w16 ⟨v16,rfl,oS,b16⟩
 have B16:=Qc b16 B15.size B15
 have s16:=b16.size
 have HB16:=Qa (HB15.out.below b16 HB15.out.lt)
 have HO16:=Qa (Qd HO15.out b16)
 have HZ16:=HZ15
 clear b16 c0 c1 c2 HB15 HO15 HZ15
 have c0:=HB16.out.cell 0
 have c1:=HB16.out.cell 1
 have c2:=HB16.out.cell 2
 simp at c0 c1 c2
 have HS16:=Qa oS
 clear oS
 clear K1 K2 K3 K4 K5 K6 K7 K8 K9 K11
 have hzz:=HZ16.out
 obtain ⟨p,hp⟩:∃ p,2+g+32+gf+ub+1+pl=p:=⟨_,rfl⟩
 obtain ⟨X,hX⟩:∃ X,Qe 3 2++gamL s.size++Qe cr 32++gamL (f+1)++Qr (Qm (Qb s))++[1]++putO (Qm (Qb s)) (ordB (Qb s) true)=X:=⟨_,rfl⟩
 have HX:Hid (QR s 3 true=X):=Qa (by rw [HTL.out,←hX];simp [List.append_assoc])
 rw [hp] at hzz
 have hpX:p≤4000:=by omega
 have HOx:Hid (w16.ownsRow (w.heap.size+1) 5 1 v15 p (u8s X)):=Qa (by rw [←hp,←hX];have h:=HO16.out;simp only [List.append_assoc] at h ⊢;exact h)
 have HBx:=HB16
 have HSx:=HS16
 have hsx:=HSB.out
 have HLX:Hid (X.length=p):=Qa (by have h:=HOx.out.1;rw [QS] at h;omega)
 obtain ⟨aS,cS,rfl⟩:=Qv HSx.out
 clear hp hX HO16 HZ16 HTL HB16 HS16
 go_wp2
 go_loopw [5,10] (fun vo si wr=>∃ (i q:Nat) (Y:List Nat),i≤z∧si=.int .i64 i∧Hid (Y=X++Zr Z i)∧Hid (Y.length=q)∧q≤p+40*i∧wr.ownsRow (w.heap.size+1) 5 1 vo q (u8s Y)∧Hid (wr.ownsRow w15.heap.size 3 1 (.slice aS z cS) z (Qn Z))∧Below w.heap.size w wr∧w.heap.size+1≤wr.heap.size) (fun _ si _=>z-(intOf si).toNat)
 case atStart=>exact ⟨0,p,X,Nat.zero_le _,rfl,Qa (by simp [Zr]),HLX,by omega,HOx.out,HSx,B16,by have:=B16.size;omega⟩
 case round =>
  obtain ⟨i,q,Y,hi2,rfl,HY,HYl,hq,hown,HSr,hbl,hsr⟩:=hrel
  by_cases hlt:i<z
  ·obtain ⟨gS,cS2,hgS⟩:=Joins.ownsRow_form HSr.out (by omega)
   simp only [Value.slice.injEq] at hgS
   obtain ⟨rfl,_,rfl⟩:=hgS
   have d0:=HSr.out.cellAt i (by omega)
   rw [Xv Z i (by rw [HZZ.out];exact hlt)] at d0
   have hy:=hsx.2 _ (XI (by rw [HZZ.out];exact hlt:i<Z.length))
   obtain ⟨y,hye⟩:∃ y:Nat,Z.getD i 0=(y:Int):=⟨(Z.getD i 0).toNat,by omega⟩
   have hgs:=HGS.out i
   rw [hye] at d0 hy hgs
   rw [Int.toNat_natCast] at hgs
   have K:=Qa (fun W=>ZC (y+1) W (by omega) (by omega))
   rw [show ((y+1:Nat):Int)=(y:Int)+1 by omega] at K
   have hl40:=Zd (n:=y+1) (by omega) (by omega)
   obtain ⟨gl,hgl⟩:∃ gl,(gamL (y+1)).length=gl:=⟨_,rfl⟩
   rw [hgl] at K hl40
   have HGX:=Qa hgs
   have HGL:=Qa hgl
   have HOo:=Qa hown
   have HBL:=Qa hbl
   clear hgs hye hgl hown hbl
   go_wp2_with fail
   refine (K.out _).mono ?_
   rintro e w3 ⟨v3,rfl,o3,b3⟩
   have hO:=Qd HOo.out b3
   have hS3:=Qa (Qd HSr.out b3)
   have hb3:=Qc b3 HBL.out.size HBL.out
   have s3:=b3.size
   clear K b3 d0
   go_wp2_with (at_builtin;refine Qj rfl _ _ 61 rfl (w.heap.size+1) 5 i0 (.int .u8 0) 1 Tryz.underlying61 hi hz0 hz1 hz2 rfl _ _ _ rfl hO v3 _ gl (u8s (gamL (y+1))) rfl o3 ?ce2 ?ce3 ?ce4 ?ce5 ?_)
   case ce2=>exact QC _
   case ce3=>unfold maxLen;omega
   case ce4=>omega
   case ce5=>omega
   intro v5 w5 hown5 hgrow _
   have hb5:=Qa (hb3.grown hgrow hb3.size (fun g hg=>by have:=(hO.lt g hg).1;omega))
   have hS5:=Qa (Qt hS3.out hgrow (fun g hg=>Qy hS3.out hO (by decide) hg))
   have s5:=hgrow.size
   rw [←Qq] at hown5
   have HY5:Hid (Y++gamL (y+1)=X++Zr Z (i+1)):=Qa (by rw [HY.out,HGX.out,List.append_assoc])
   have HYl5:Hid ((Y++gamL (y+1)).length=q+gl):=Qa (by rw [List.length_append,HYl.out,HGL.out])
   have hO5:=Qa hown5
   clear hO hown5 hgrow o3 hb3
   go_wp2
   go_roundw
   case rel=>exact ⟨i+1,q+gl,_,by omega,by go_num,HY5,HYl5,by omega,hO5.out,hS5,hb5.out,by omega⟩
   case measure=>simp [intOf];omega
  ·obtain rfl:i=z:=by omega
   have HOo:=Qa hown
   have HBL:=Qa hbl
   clear hown hbl
   go_wp2
   go_ret
   exact ⟨_,Y,rfl,by rw [HY.out,HX.out],by rw [HYl.out];exact Joins.ownsRow_le HOo.out (by omega),by rw [HYl.out];omega,HBL.out⟩
theorem QU.grown8 {w w':World} {base b2 n:Nat} {V xs:List Value} {T:List (List Int)} {vo:Value} (h:QU w base V T) (hown:w.ownsRow b2 5 1 vo n xs) (hg:w.grownBy w' vo.ownBlock):QU w' base V T :=
 ⟨h.1,fun j hj=>Qt (h.2 j hj) hg (fun g h1=>Qy (h.2 j hj) hown (by decide) h1)⟩
def ZE (T:List (List Int)):Nat→List Nat
 | 0=>[]
 | i+1=>ZE T i++put5 (T.getD i [])
noncomputable def symL (Z:List Int) (n t:Nat):List Nat :=
 Qe (t-1) 2++gamL (sel2 Z n t).length++unaL (mtfD (sel2 Z n t) t)++ZE (tab2 Z n t) t++cpF Z (tab2 Z n t) (sel2 Z n t) Z.length
theorem jz {S:List Int} {n k:Nat} (hk1:1≤k) (hk:k≤4) (hS:S.length≤2000):rOk (sel2 S n k) k=true:=by
 have hl:=XJ S n k 2
 rw [Xe] at hl
 rw [Je,hl]
 refine ⟨by omega,by omega,by unfold grp;omega,fun x hx=>?_⟩
 exact YM (S:=S) (n:=n) hk1 2 x (by rw [Xe];exact hx)
theorem jJ (s:ByteArray) (m t:Nat) (w:World) (hs:0<s.size∧s.size≤600) (hm:m=1∨m=2) (ht1:1≤t) (ht4:t≤4) :
 Calls Tryz.prog 33 #[.string s,.agg #[.int .i64 m,.bool false,.int .i64 t]] w fun e w'=>∃ v X,e=.returned v∧X=QR s m false++symL (stgZ s m false t) ((ordB (Qb s) false).length+2) t∧w'.ownsRow w.heap.size 5 1 v X.length (u8s X)∧X.length≤1000000∧Below w.heap.size w w':=by
 obtain ⟨i0,hi,hz0,hz1,hz2⟩:=info_parts Tryz.info5
 have hg40:=Zd hs.1 (by omega:s.size≤1048575)
 obtain ⟨f,hf,hf6⟩:=qj hs
 have hgf40:(gamL (f+1)).length≤40:=Zd (by omega) (by omega)
 have hU:=qF hs.1
 have hUb:=Xm (Qb s)
 have hu272:=ZS (Qm (Qb s))
 have K1:=Qa (fun W=>QY m 2 W (by omega) (by omega))
 have K2:=Qa (fun W=>ZC s.size W hs.1 (by omega))
 have K3:=Qa (fun W=>Jk s W (by unfold maxLen;omega))
 have K4:=Qa (fun W=>QY (crcN s) 32 W (by omega) (by have:=Jy s;omega))
 have K5:=Qa (fun W=>XZ s W (by omega))
 have K6:=Qa (fun W=>XV s m t false W (by omega))
 have K7:=Qa (fun W=>ZC (f+1) W (by omega) (by omega))
 have K8:=Qa (fun W=>Xg s W (by omega))
 have K9:=Qa (fun W=>by
  have h:=VV (Qh (Qm (Qb s))) W (by rw [QI];have:=QO hUb (ZF (Qb s));omega) (by rw [QL hUb];exact hU)
  rw [QL hUb] at h
  exact h)
 have K11:=Qa (fun W=>Jl s m t false W (by omega))
 have HSB:=Qa (Yf s m false t)
 have HTL:Hid (QR s m false=Qe m 2++gamL s.size++Qe (crcN s) 32++gamL (f+1)++Qr (Qm (Qb s))++(if false=true then [1]++putO (Qm (Qb s)) (ordB (Qb s) false) else [0])):=Qa (by unfold QR;rw [hf,Int.toNat_natCast])
 have HROW:Hid (QT (Qb s) (ordB (Qb s) false)∨ordB (Qb s) false=Qm (Qb s)→rowB (stgZ s m false t) (((ordB (Qb s) false).length+2:Nat):Int)=true∧1≤(stgZ s m false t).length):=Qa (fun h=>by
  have hw:QM m false t=true:=by rcases hm with rfl | rfl <;> simp [QM] <;> omega
  have e:stgZ s m false t=stgR (rkS s (ordB (Qb s) false)) m ((ordB (Qb s) false).length:Int):=by unfold stgZ;rw [if_pos ⟨hs.1,hs.2,hw⟩]
  rw [e]
  exact jx (qG hs h).1 m (by omega))
 have HOO:Hid (QT (Qb s) (ordB (Qb s) false)∨ordB (Qb s) false=Qm (Qb s)→ZJ (ordB (Qb s) false)=true∧Qm (ordB (Qb s) false)=Qm (Qb s)):=Qa (fun h=>by
  obtain ⟨h1,_,_,_,_,h6⟩:=qA (Jn hs.1) (QF s) h
  exact ⟨h1,h6⟩)
 have hm0:((m:Int) == 0)=false:=beq_eq_false_iff_ne.2 (by omega)
 have hm3:((m:Int) == 3)=false:=beq_eq_false_iff_ne.2 (by omega)
 have ht1':((t-1:Nat):Int)=(t:Int)-1:=by omega
 have K13:=Qa (fun W=>QY (t-1) 2 W (by omega) (by omega))
 rw [ht1'] at K13
 clear ht1' 
 obtain ⟨g,hg⟩:∃ g,(gamL s.size).length=g:=⟨_,rfl⟩
 obtain ⟨gf,hgf⟩:∃ gf,(gamL (f+1)).length=gf:=⟨_,rfl⟩
 obtain ⟨ub,hub⟩:∃ ub,(Qr (Qm (Qb s))).length=ub:=⟨_,rfl⟩
 obtain ⟨cr,hcr⟩:∃ cr,crcN s=cr:=⟨_,rfl⟩
 obtain ⟨Z,hZ⟩:∃ Z,stgZ s m false t=Z:=⟨_,rfl⟩
 obtain ⟨O,hOe⟩:∃ O,ordB (Qb s) false=O:=⟨_,rfl⟩
 obtain ⟨n0,hn0⟩:∃ n0,O.length=n0:=⟨_,rfl⟩
 have hzO:(Qh O).size=n0:=by rw [QI,hn0]
 obtain ⟨z,hz⟩:∃ z,Z.length=z:=⟨_,rfl⟩
 rw [hcr] at K3 K4 HTL
 rw [hg] at K2 hg40
 rw [hgf] at K7 hgf40
 rw [hub] at K9 hu272
 rw [hf] at K5
 rw [hZ,hz] at K11 HSB
 rw [hZ,hOe,hn0] at HROW
 rw [hOe] at K6 HTL HOO
 rw [hn0] at K6
 rw [hZ,hOe,hn0]
 have HCL:Hid (rowB Z ((n0+2:Nat):Int)=true→cdOk Z (tab2 Z (n0+2) t) (sel2 Z (n0+2) t)=true):=Qa (fun h=>AHg h ht1 ht4)
 have HZZ:=Qa hz
 rw [show ((f+1:Nat):Int)=(f:Int)+1 by omega] at K7
 obtain ⟨wi,hwe⟩:∃ wi,wi=w.alloc (.cells #[.int .i64 m,.bool false,.int .i64 t] 26):=⟨_,rfl⟩
 have hwi:wi.heap.size=w.heap.size+1:=by rw [hwe];simp
 have Bi:Below w.heap.size w wi:=by rw [hwe];exact (Below.refl _ _).alloc (Nat.le_refl _) _
 have HB0:Hid (Has wi w.heap.size 26 #[.int .i64 m,.bool false,.int .i64 t]):=Qa (by rw [hwe];exact Has.fresh _ _ _)
 have c0:=HB0.out.cell 0
 have c1:=HB0.out.cell 1
 have c2:=HB0.out.cell 2
 simp at c0 c1 c2
 clear hg hcr hgf hub hf hU hUb hZ hz hOe hn0
 go_enter Tryz.func33,Tryz.ntmps33
 go_wp2_with fail
 rw [←hwe]
 refine (K1.out wi).mono ?_
 rintro e w1 ⟨rfl,o1,b1⟩
 have B1:=Qc b1 Bi.size Bi
 have s1:=b1.size
 have HB1:=Qa (HB0.out.below b1 HB0.out.lt)
 rw [hwi] at o1
 have HO1:=Qa o1
 have HZ1:Hid (2≤1000000):=Qa (by omega)
 clear b1 c0 c1 c2 HB0 o1 hwe
 have c0:=HB1.out.cell 0
 have c1:=HB1.out.cell 1
 have c2:=HB1.out.cell 2
 simp at c0 c1 c2
 go_wp2_with fail
 refine (K2.out _).mono ?_
 rintro e w2 ⟨v2,rfl,o2,b2⟩
 have B2:=Qc b2 B1.size B1
 have s2:=b2.size
 have HB2:=Qa (HB1.out.below b2 HB1.out.lt)
 have HO2:=Qa (Qd HO1.out b2)
 have HZ2:=HZ1
 clear b2 c0 c1 c2 HB1 HO1 HZ1
 have c0:=HB2.out.cell 0
 have c1:=HB2.out.cell 1
 have c2:=HB2.out.cell 2
 simp at c0 c1 c2
 have hz3:=HZ2.out
 go_wp2_with (at_builtin;refine Qj rfl _ _ 61 rfl (w.heap.size+1) 5 i0 (.int .u8 0) 1 Tryz.underlying61 hi hz0 hz1 hz2 rfl _ _ _ rfl HO2.out v2 _ g (u8s (gamL s.size)) rfl o2 ?ce2 ?ce3 ?ce4 ?ce5 ?_)
 case ce2=>exact QC _
 case ce3=>unfold maxLen;omega
 case ce4=>omega
 case ce5=>have:=B2.size;omega
 intro v3 w3 own3 hgrow _
 rw [←Qq] at own3
 have HO3:=Qa own3
 have s3:=hgrow.size
 have HZ3:Hid (2+g≤1000000):=Qa (by omega)
 have B3:=B2.grown hgrow B2.size (fun g hg=>by have:=(HO2.out.lt g hg).1;omega)
 have HB3:=Qa (HB2.out.grown hgrow (by intro e;have:=(HO2.out.lt _ e.symm).1;omega))
 clear own3 hgrow c0 c1 c2 HB2 HO2 o2 hz3 HZ2
 have c0:=HB3.out.cell 0
 have c1:=HB3.out.cell 1
 have c2:=HB3.out.cell 2
 simp at c0 c1 c2
 go_wp2_with fail
 refine (K3.out _).mono ?_
 rintro e wz ⟨rfl,hwz⟩
 subst hwz
 go_wp2_with fail
 refine (K4.out _).mono ?_
 rintro e w4 ⟨rfl,o4,b4⟩
 have B4:=Qc b4 B3.size B3
 have s4:=b4.size
 have HB4:=Qa (HB3.out.below b4 HB3.out.lt)
 have HO4:=Qa (Qd HO3.out b4)
 have HZ4:=HZ3
 clear b4 c0 c1 c2 HB3 HO3 HZ3
 have c0:=HB4.out.cell 0
 have c1:=HB4.out.cell 1
 have c2:=HB4.out.cell 2
 simp at c0 c1 c2
 have hz5:=HZ4.out
 go_wp2_with (at_builtin;refine Qj rfl _ _ 61 rfl (w.heap.size+1) 5 i0 (.int .u8 0) 1 Tryz.underlying61 hi hz0 hz1 hz2 rfl _ _ _ rfl HO4.out _ _ 32 (u8s (Qe cr 32)) rfl o4 ?ce2 ?ce3 ?ce4 ?ce5 ?_)
 case ce2=>exact QC _
 case ce3=>unfold maxLen;omega
 case ce4=>omega
 case ce5=>have:=B4.size;omega
 intro v5 w5 own5 hgrow _
 rw [←Qq] at own5
 have HO5:=Qa own5
 have s5:=hgrow.size
 have HZ5:Hid (2+g+32≤1000000):=Qa (by omega)
 have B5:=B4.grown hgrow B4.size (fun g hg=>by have:=(HO4.out.lt g hg).1;omega)
 have HB5:=Qa (HB4.out.grown hgrow (by intro e;have:=(HO4.out.lt _ e.symm).1;omega))
 clear own5 hgrow c0 c1 c2 HB4 HO4 o4 hz5 HZ4
 have c0:=HB5.out.cell 0
 have c1:=HB5.out.cell 1
 have c2:=HB5.out.cell 2
 simp at c0 c1 c2
 go_wp2_with fail
 refine (K5.out _).mono ?_
 rintro e w6 ⟨rfl,b6⟩
 have B6:=Qc b6 B5.size B5
 have s6:=b6.size
 have HB6:=Qa (HB5.out.below b6 HB5.out.lt)
 have HO6:=Qa (Qd HO5.out b6)
 have HZ6:=HZ5
 clear b6 c0 c1 c2 HB5 HO5 HZ5
 have c0:=HB6.out.cell 0
 have c1:=HB6.out.cell 1
 have c2:=HB6.out.cell 2
 simp at c0 c1 c2
 go_wp2_with fail
 refine (K6.out _).mono ?_
 rintro e w7 ⟨rfl,hB7,hO7,hR7,b7⟩
 have B7:=Qc b7 B6.size B6
 have s7:=b7.size
 have HB7:=Qa (HB6.out.below b7 HB6.out.lt)
 have HO7:=Qa (Qd HO6.out b7)
 have HZ7:=HZ6
 clear b7 c0 c1 c2 HB6 HO6 HZ6
 have c0:=HB7.out.cell 0
 have c1:=HB7.out.cell 1
 have c2:=HB7.out.cell 2
 simp at c0 c1 c2
 go_wp2_with fail
 refine (K7.out _).mono ?_
 rintro e w8 ⟨v8,rfl,o8,b8⟩
 have B8:=Qc b8 B7.size B7
 have s8:=b8.size
 have HB8:=Qa (HB7.out.below b8 HB7.out.lt)
 have HO8:=Qa (Qd HO7.out b8)
 have HZ8:=HZ7
 clear b8 c0 c1 c2 HB7 HO7 HZ7
 have c0:=HB8.out.cell 0
 have c1:=HB8.out.cell 1
 have c2:=HB8.out.cell 2
 simp at c0 c1 c2
 have hz9:=HZ8.out
 go_wp2_with (at_builtin;refine Qj rfl _ _ 61 rfl (w.heap.size+1) 5 i0 (.int .u8 0) 1 Tryz.underlying61 hi hz0 hz1 hz2 rfl _ _ _ rfl HO8.out v8 _ gf (u8s (gamL (f+1))) rfl o8 ?ce2 ?ce3 ?ce4 ?ce5 ?_)
 case ce2=>exact QC _
 case ce3=>unfold maxLen;omega
 case ce4=>omega
 case ce5=>have:=B8.size;omega
 intro v9 w9 own9 hgrow _
 rw [←Qq] at own9
 have HO9:=Qa own9
 have s9:=hgrow.size
 have HZ9:Hid (2+g+32+gf≤1000000):=Qa (by omega)
 have B9:=B8.grown hgrow B8.size (fun g hg=>by have:=(HO8.out.lt g hg).1;omega)
 have HB9:=Qa (HB8.out.grown hgrow (by intro e;have:=(HO8.out.lt _ e.symm).1;omega))
 clear own9 hgrow c0 c1 c2 HB8 HO8 o8 hz9 HZ8
 have c0:=HB9.out.cell 0
 have c1:=HB9.out.cell 1
 have c2:=HB9.out.cell 2
 simp at c0 c1 c2
 go_wp2_with fail
 refine (K8.out _).mono ?_
 rintro e w10 ⟨rfl,b10⟩
 have B10:=Qc b10 B9.size B9
 have s10:=b10.size
 have HB10:=Qa (HB9.out.below b10 HB9.out.lt)
 have HO10:=Qa (Qd HO9.out b10)
 have HZ10:=HZ9
 clear b10 c0 c1 c2 HB9 HO9 HZ9
 have c0:=HB10.out.cell 0
 have c1:=HB10.out.cell 1
 have c2:=HB10.out.cell 2
 simp at c0 c1 c2
 go_wp2_with fail
 refine (K9.out _).mono ?_
 rintro e w11 ⟨v11,rfl,o11,b11⟩
 have B11:=Qc b11 B10.size B10
 have s11:=b11.size
 have HB11:=Qa (HB10.out.below b11 HB10.out.lt)
 have HO11:=Qa (Qd HO10.out b11)
 have HZ11:=HZ10
 clear b11 c0 c1 c2 HB10 HO10 HZ10
 have c0:=HB11.out.cell 0
 have c1:=HB11.out.cell 1
 have c2:=HB11.out.cell 2
 simp at c0 c1 c2
 have hz12:=HZ11.out
 go_wp2_with (at_builtin;refine Qj rfl _ _ 61 rfl (w.heap.size+1) 5 i0 (.int .u8 0) 1 Tryz.underlying61 hi hz0 hz1 hz2 rfl _ _ _ rfl HO11.out v11 _ ub (u8s (Qr (Qm (Qb s)))) rfl o11 ?ce2 ?ce3 ?ce4 ?ce5 ?_)
 case ce2=>exact QC _
 case ce3=>unfold maxLen;omega
 case ce4=>omega
 case ce5=>have:=B11.size;omega
 intro v12 w12 own12 hgrow _
 rw [←Qq] at own12
 have HO12:=Qa own12
 have s12:=hgrow.size
 have HZ12:Hid (2+g+32+gf+ub≤1000000):=Qa (by omega)
 have B12:=B11.grown hgrow B11.size (fun g hg=>by have:=(HO11.out.lt g hg).1;omega)
 have HB12:=Qa (HB11.out.grown hgrow (by intro e;have:=(HO11.out.lt _ e.symm).1;omega))
 clear own12 hgrow c0 c1 c2 HB11 HO11 o11 hz12 HZ11
 have c0:=HB12.out.cell 0
 have c1:=HB12.out.cell 1
 have c2:=HB12.out.cell 2
 simp at c0 c1 c2
 have hz13:=HZ12.out
 go_wp2_with (at_builtin;refine wpList_append_own _ rfl _ _ 61 rfl (w.heap.size+1) 5 i0 (.int .u8 0) 1 1 Tryz.underlying61 hi hz0 hz1 hz2 rfl (by decide) _ _ _ rfl (HO12.out.alloc _) ⟨w12.heap.size,0,none⟩ 1 1 [.int .u8 0] rfl rfl ?ce1 ?ce2 ?ce3 ?ce4 ?ce5 ?_)
 case ce1=>exact cell_one_new _ _ _
 case ce2=>exact fun u hu=>by simp at hu;subst hu;rfl
 case ce3=>unfold maxLen;omega
 case ce4=>omega
 case ce5=>have:=B12.size;simp;omega
 intro v13 w13 own13 hgrow _
 rw [show ([.int .u8 0]:List Value)=u8s [0] from rfl,←Qq] at own13
 have HO13:=Qa own13
 have s13:=hgrow.size
 have HZ13:Hid (2+g+32+gf+ub+1≤1000000):=Qa (by omega)
 have B13:=(B12.alloc B12.size (.cells #[.int .u8 0] 5)).grown hgrow (by have:=B12.size;simp;omega) (fun g hg=>by have:=(HO12.out.lt g hg).1;omega)
 have HB13:=Qa ((HB12.out.alloc (.cells #[.int .u8 0] 5)).grown hgrow (by intro e;have:=(HO12.out.lt _ e.symm).1;omega))
 simp at s13
 clear own13 hgrow c0 c1 c2 HB12 HO12 hz13 HZ12
 have c0:=HB13.out.cell 0
 have c1:=HB13.out.cell 1
 have c2:=HB13.out.cell 2
 simp at c0 c1 c2
 go_wp2_with fail
 refine (K11.out _).mono ?_
 rintro e w14 ⟨v14,rfl,oS,b14⟩
 have B14:=Qc b14 B13.size B13
 have s14:=b14.size
 have HB14:=Qa (HB13.out.below b14 HB13.out.lt)
 have HO14:=Qa (Qd HO13.out b14)
 have HZ14:=HZ13
 clear b14 c0 c1 c2 HB13 HO13 HZ13
 have c0:=HB14.out.cell 0
 have c1:=HB14.out.cell 1
 have c2:=HB14.out.cell 2
 simp at c0 c1 c2
 have HS14:=Qa oS
 clear oS
 clear K1 K2 K3 K4 K5 K6 K7 K8 K9 K11
 obtain ⟨hrow,hz1'⟩:=HROW.out hR7.out
 have hcd:=HCL.out hrow
 have hsb:=HSB.out
 have HSR:=Qa hsb.2
 have hSl2:Z.length≤2000:=by rw [HZZ.out];omega
 have hnn:1≤n0+2∧n0+2≤260:=by omega
 obtain ⟨aS,cS,rfl⟩:=Qv HS14.out
 have hIS:=(Ints.ofOwn (by have h:=HS14.out;exact h) (by omega) (fun x hx=>by have:=hsb.2 x hx;omega)).2
 have K12:=Qa (qu aS cS w14.heap.size (n0+2) t Z w14 hIS (Nat.le_refl _) hrow ht1 ht4)
 have hTl:(tab2 Z (n0+2) t).length=t:=Zo _ _ _ _
 have hGl:(sel2 Z (n0+2) t).length=grp Z.length:=by have:=XJ Z (n0+2) t 2;rw [Xe] at this;exact this
 have HSY:Hid (symL Z (n0+2) t=Qe (t-1) 2++gamL (sel2 Z (n0+2) t).length++unaL (mtfD (sel2 Z (n0+2) t) t)++ZE (tab2 Z (n0+2) t) t++cpF Z (tab2 Z (n0+2) t) (sel2 Z (n0+2) t) Z.length):=Qa rfl
 have HLO:Hid (∀ i,i<t→lOk ((tab2 Z (n0+2) t).getD i [])=true):=Qa (fun i hi=>xB hnn.1 hnn.2 hSl2 i hi)
 have HTF:Hid (∀ i,i<(tab2 Z (n0+2) t).length→((tab2 Z (n0+2) t).getD i []).length≤140737488355328∧∀ x∈(tab2 Z (n0+2) t).getD i [],-9223372036854775808≤x∧x≤9223372036854775807):=Qa (fun i hi=>Vl hnn.1 hnn.2 hSl2 i hi)
 have HGR:=Qa (jz (S:=Z) (n:=n0+2) ht1 ht4 hSl2)
 have HGF:=Qa (yr (S:=Z) (n:=n0+2) ht1 ht4 hSl2)
 have hcpl:=qC (Vx hcd) Z.length (Nat.le_refl _)
 have hcpe:=qg Z (tab2 Z (n0+2) t) (sel2 Z (n0+2) t) Z.length
 obtain ⟨T,hT⟩:∃ T,tab2 Z (n0+2) t=T:=⟨_,rfl⟩
 obtain ⟨G,hG⟩:∃ G,sel2 Z (n0+2) t=G:=⟨_,rfl⟩
 obtain ⟨gz,hgz⟩:∃ gz,grp Z.length=gz:=⟨_,rfl⟩
 have hgz1:1≤gz∧gz≤600:=by rw [←hgz];unfold grp;omega
 rw [hT] at K12 hTl hcd HSY HLO HTF hcpl hcpe
 rw [hG] at K12 hGl hcd HSY HGR HGF hcpl hcpe
 rw [hgz] at K12 hGl
 have HTL2:=Qa hTl
 have HGL2:=Qa hGl
 have HCD:=Qa hcd
 obtain ⟨cp,hcp⟩:∃ cp,cpN Z T G Z.length=cp:=⟨_,rfl⟩
 rw [hcp] at hcpl hcpe
 have HCP:=Qa hcp
 have HCE:=Qa hcpe
 have hcp2:cp≤20000:=by have:=HZZ.out;omega
 have hul:=zf (qq HGR.out)
 rw [Jt,hGl] at hul
 have hul2:(unaL (mtfD G t)).length≤2400:=by have:gz*t≤600*4:=Nat.mul_le_mul hgz1.2 ht4;omega
 obtain ⟨ul,hule⟩:∃ ul,(unaL (mtfD G t)).length=ul:=⟨_,rfl⟩
 rw [hule] at hul2
 have HUL:=Qa hule
 have hgl40:=Zd (n:=gz) hgz1.1 (by omega)
 have K14:=Qa (fun W=>ZC gz W hgz1.1 (by omega))
 obtain ⟨gl,hgle⟩:∃ gl,(gamL gz).length=gl:=⟨_,rfl⟩
 rw [hgle] at K14 hgl40
 rw [show ((n0+2:Nat):Int)=(n0:Int)+2 by omega,HZZ.out] at K12
 clear hrow hcd hsb hIS hTl hGl hT hG hgz hcp hcpl hcpe hul hule hgle HROW HCL HSB
 go_wp2_with fail
 refine K12.out.mono ?_
 rintro e w15 ⟨vT,V,vG,rfl,oT,hRA,_,_,oG,b15⟩
 have B15:=Qc b15 B14.size B14
 have s15:=b15.size
 have HB15:=Qa (HB14.out.below b15 HB14.out.lt)
 have HO15:=Qa (Qd HO14.out b15)
 have HZ15:=HZ14
 have HS15:=Qa (Qd HS14.out b15)
 have HT15:=Qa oT
 have HR15:=Qa hRA
 have HG15:=Qa oG
 obtain ⟨aT,cT,rfl⟩:=Qv HT15.out
 obtain ⟨aG,cG,rfl⟩:=Qv HG15.out
 clear b15 c0 c1 c2 HB14 HO14 HZ14 HS14 oT hRA oG K12
 have c0:=HB15.out.cell 0
 have c1:=HB15.out.cell 1
 have c2:=HB15.out.cell 2
 simp at c0 c1 c2
 go_wp2_with fail
 refine (K13.out _).mono ?_
 rintro e w16 ⟨rfl,o16,b16⟩
 have B16:=Qc b16 B15.size B15
 have s16:=b16.size
 have HB16:=Qa (HB15.out.below b16 HB15.out.lt)
 have HO16:=Qa (Qd HO15.out b16)
 have HZ16:=HZ15
 have HS16:=Qa (Qd HS15.out b16)
 have HT16:=Qa (Qd HT15.out b16)
 have HR16:=Qa (HR15.out.below b16)
 have HG16:=Qa (Qd HG15.out b16)
 clear b16 c0 c1 c2 HB15 HO15 HZ15 HS15 HT15 HR15 HG15
 have c0:=HB16.out.cell 0
 have c1:=HB16.out.cell 1
 have c2:=HB16.out.cell 2
 simp at c0 c1 c2
 have hz17:=HZ16.out
 go_wp2_with (at_builtin;refine Qj rfl _ _ 61 rfl (w.heap.size+1) 5 i0 (.int .u8 0) 1 Tryz.underlying61 hi hz0 hz1 hz2 rfl _ _ _ rfl HO16.out _ _ 2 (u8s (Qe (t-1) 2)) rfl o16 ?ce2 ?ce3 ?ce4 ?ce5 ?_)
 case ce2=>exact QC _
 case ce3=>unfold maxLen;omega
 case ce4=>omega
 case ce5=>have:=B16.size;omega
 intro v17 w17 own17 hgrow _
 rw [←Qq] at own17
 have HO17:=Qa own17
 have s17:=hgrow.size
 have HZ17:Hid (2+g+32+gf+ub+1+2≤1000000):=Qa (by omega)
 have B17:=B16.grown hgrow B16.size (fun g hg=>by have:=(HO16.out.lt g hg).1;omega)
 have HB17:=Qa (HB16.out.grown hgrow (by intro e;have:=(HO16.out.lt _ e.symm).1;omega))
 have HS17:=Qa (Qt HS16.out hgrow (fun g hg=>Qy HS16.out HO16.out (by decide) hg))
 have HT17:=Qa (Qt HT16.out hgrow (fun g hg=>Qy HT16.out HO16.out (by decide) hg))
 have HR17:=Qa (HR16.out.grown8 HO16.out hgrow)
 have HG17:=Qa (Qt HG16.out hgrow (fun g hg=>Qy HG16.out HO16.out (by decide) hg))
 clear own17 hgrow c0 c1 c2 HB16 HO16 o16 hz17 HZ16 HS16 HT16 HR16 HG16
 have c0:=HB17.out.cell 0
 have c1:=HB17.out.cell 1
 have c2:=HB17.out.cell 2
 simp at c0 c1 c2
 go_wp2_with fail
 refine (K14.out _).mono ?_
 rintro e w18 ⟨v18,rfl,o18,b18⟩
 have B18:=Qc b18 B17.size B17
 have s18:=b18.size
 have HB18:=Qa (HB17.out.below b18 HB17.out.lt)
 have HO18:=Qa (Qd HO17.out b18)
 have HZ18:=HZ17
 have HS18:=Qa (Qd HS17.out b18)
 have HT18:=Qa (Qd HT17.out b18)
 have HR18:=Qa (HR17.out.below b18)
 have HG18:=Qa (Qd HG17.out b18)
 clear b18 c0 c1 c2 HB17 HO17 HZ17 HS17 HT17 HR17 HG17
 have c0:=HB18.out.cell 0
 have c1:=HB18.out.cell 1
 have c2:=HB18.out.cell 2
 simp at c0 c1 c2
 have hz19:=HZ18.out
 go_wp2_with (at_builtin;refine Qj rfl _ _ 61 rfl (w.heap.size+1) 5 i0 (.int .u8 0) 1 Tryz.underlying61 hi hz0 hz1 hz2 rfl _ _ _ rfl HO18.out v18 _ gl (u8s (gamL gz)) rfl o18 ?ce2 ?ce3 ?ce4 ?ce5 ?_)
 case ce2=>exact QC _
 case ce3=>unfold maxLen;omega
 case ce4=>omega
 case ce5=>have:=B18.size;omega
 intro v19 w19 own19 hgrow _
 rw [←Qq] at own19
 have HO19:=Qa own19
 have s19:=hgrow.size
 have HZ19:Hid (2+g+32+gf+ub+1+2+gl≤1000000):=Qa (by omega)
 have B19:=B18.grown hgrow B18.size (fun g hg=>by have:=(HO18.out.lt g hg).1;omega)
 have HB19:=Qa (HB18.out.grown hgrow (by intro e;have:=(HO18.out.lt _ e.symm).1;omega))
 have HS19:=Qa (Qt HS18.out hgrow (fun g hg=>Qy HS18.out HO18.out (by decide) hg))
 have HT19:=Qa (Qt HT18.out hgrow (fun g hg=>Qy HT18.out HO18.out (by decide) hg))
 have HR19:=Qa (HR18.out.grown8 HO18.out hgrow)
 have HG19:=Qa (Qt HG18.out hgrow (fun g hg=>Qy HG18.out HO18.out (by decide) hg))
 clear own19 hgrow c0 c1 c2 HB18 HO18 o18 hz19 HZ18 HS18 HT18 HR18 HG18
 have c0:=HB19.out.cell 0
 have c1:=HB19.out.cell 1
 have c2:=HB19.out.cell 2
 simp at c0 c1 c2
 have hIG:=(Ints.ofOwn HG19.out (by omega) (fun x hx=>HGF.out.2.2 x hx)).2
 have K15:=Qa (qB aG cG w19.heap.size t G w19 hIG (Nat.le_refl _) ht4 HGR.out)
 rw [HGL2.out,HUL.out] at K15
 clear hIG
 go_wp2_with fail
 refine (K15.out).mono ?_
 rintro e w20 ⟨v20,rfl,o20,b20⟩
 have B20:=Qc b20 B19.size B19
 have s20:=b20.size
 have HB20:=Qa (HB19.out.below b20 HB19.out.lt)
 have HO20:=Qa (Qd HO19.out b20)
 have HZ20:=HZ19
 have HS20:=Qa (Qd HS19.out b20)
 have HT20:=Qa (Qd HT19.out b20)
 have HR20:=Qa (HR19.out.below b20)
 have HG20:=Qa (Qd HG19.out b20)
 clear b20 c0 c1 c2 HB19 HO19 HZ19 HS19 HT19 HR19 HG19 K15
 have c0:=HB20.out.cell 0
 have c1:=HB20.out.cell 1
 have c2:=HB20.out.cell 2
 simp at c0 c1 c2
 have hz21:=HZ20.out
 go_wp2_with (at_builtin;refine Qj rfl _ _ 61 rfl (w.heap.size+1) 5 i0 (.int .u8 0) 1 Tryz.underlying61 hi hz0 hz1 hz2 rfl _ _ _ rfl HO20.out v20 _ ul (u8s (unaL (mtfD G t))) rfl o20 ?ce2 ?ce3 ?ce4 ?ce5 ?_)
 case ce2=>exact QC _
 case ce3=>unfold maxLen;omega
 case ce4=>omega
 case ce5=>have:=B20.size;omega
 intro v21 w21 own21 hgrow _
 rw [←Qq] at own21
 have HO21:=Qa own21
 have s21:=hgrow.size
 have HZ21:Hid (2+g+32+gf+ub+1+2+gl+ul≤1000000):=Qa (by omega)
 have B21:=B20.grown hgrow B20.size (fun g hg=>by have:=(HO20.out.lt g hg).1;omega)
 have HB21:=Qa (HB20.out.grown hgrow (by intro e;have:=(HO20.out.lt _ e.symm).1;omega))
 have HS21:=Qa (Qt HS20.out hgrow (fun g hg=>Qy HS20.out HO20.out (by decide) hg))
 have HT21:=Qa (Qt HT20.out hgrow (fun g hg=>Qy HT20.out HO20.out (by decide) hg))
 have HR21:=Qa (HR20.out.grown8 HO20.out hgrow)
 have HG21:=Qa (Qt HG20.out hgrow (fun g hg=>Qy HG20.out HO20.out (by decide) hg))
 clear own21 hgrow c0 c1 c2 HB20 HO20 o20 hz21 HZ20 HS20 HT20 HR20 HG20
 have c0:=HB21.out.cell 0
 have c1:=HB21.out.cell 1
 have c2:=HB21.out.cell 2
 simp at c0 c1 c2
 have hzz:=HZ21.out
 obtain ⟨p,hp⟩:∃ p,2+g+32+gf+ub+1+2+gl+ul=p:=⟨_,rfl⟩
 obtain ⟨X,hX⟩:∃ X,Qe m 2++gamL s.size++Qe cr 32++gamL (f+1)++Qr (Qm (Qb s))++[0]++Qe (t-1) 2++gamL gz++unaL (mtfD G t)=X:=⟨_,rfl⟩
 have HX:Hid (QR s m false++symL Z (n0+2) t=X++ZE T t++cpF Z T G Z.length):=Qa (by rw [HTL.out,HSY.out,HGL2.out,←hX];simp [List.append_assoc])
 rw [hp] at hzz
 have hpX:p≤100000:=by omega
 have HOx:Hid (w21.ownsRow (w.heap.size+1) 5 1 v21 p (u8s X)):=Qa (by rw [←hp,←hX];have h:=HO21.out;simp only [List.append_assoc,List.cons_append,List.nil_append] at h ⊢;exact h)
 have HSx:=HS21
 have HTx:=HT21
 have HRx:=HR21
 have HGx:=HG21
 have HLX:Hid (X.length=p):=Qa (by have h:=HOx.out.1;rw [QS] at h;omega)
 have HPS:Hid (∀ i,ZE T (i+1)=ZE T i++put5 (T.getD i [])):=Qa (fun i=>rfl)
 clear hp hX HO21 HZ21 HTL HSY HB21 HS21 HT21 HR21 HG21 c0 c1 c2
 go_wp2
 go_loopw [5,13] (fun vo si wr=>∃ (i q:Nat) (Y:List Nat),i≤t∧si=.int .i64 i∧Hid (Y=X++ZE T i)∧Hid (Y.length=q)∧q≤p+20000*i∧wr.ownsRow (w.heap.size+1) 5 1 vo q (u8s Y)∧Hid (wr.ownsRow w13.heap.size 3 1 (.slice aS z cS) z (Qn Z))∧Hid (wr.ownsRow w14.heap.size 99 1 (.slice aT t cT) t V)∧Hid (QU wr w14.heap.size V T)∧Hid (wr.ownsRow w14.heap.size 3 1 (.slice aG gz cG) gz (Qn G))∧Below w.heap.size w wr∧w.heap.size+1≤wr.heap.size) (fun _ si _=>t-(intOf si).toNat)
 case atStart=>exact ⟨0,p,X,Nat.zero_le _,rfl,Qa (by simp [ZE]),HLX,by omega,HOx.out,HSx,HTx,HRx,HGx,B21,by have:=B21.size;omega⟩
 case round =>
  obtain ⟨i,q,Y,hi2,rfl,HY,HYl,hq,hown,HSr,HTr,HRr,HGr,hbl,hsr⟩:=hrel
  by_cases hlt:i<t
  ·have hTab:=XR (T:=T) (by have h:=HTr.out;rw [←HTL2.out] at h;exact h) HRr.out (by rw [HTL2.out];omega) HTF.out
   obtain ⟨bT,oT,a2,c2,rfl,hbT,d0,hlc2,hI2⟩:=hTab.at (i:=i) (by rw [HTL2.out];exact hlt)
   have hok:=HLO.out i hlt
   have h5:=AAn hok
   have hps:=HPS.out i
   have K:=Qa (AAx a2 c2 wr.heap.size (T.getD i []) wr hI2 (Nat.le_refl _) hok)
   obtain ⟨Ti,hTi⟩:∃ Ti,T.getD i []=Ti:=⟨_,rfl⟩
   rw [hTi] at K h5 hps d0
   obtain ⟨gl2,hgl⟩:∃ gl2,(put5 Ti).length=gl2:=⟨_,rfl⟩
   rw [hgl] at K h5
   obtain ⟨tl,htl⟩:∃ tl,Ti.length=tl:=⟨_,rfl⟩
   rw [htl] at K d0
   have HGX:=Qa hps
   have HGL:=Qa hgl
   have HOo:=Qa hown
   have HBL:=Qa hbl
   clear hps hgl hown hbl hTab hI2 hok hTi htl hlc2
   go_wp2_with fail
   refine K.out.mono ?_
   rintro e w3 ⟨v3,rfl,o3,b3⟩
   have hO:=Qd HOo.out b3
   have hS3:=Qa (Qd HSr.out b3)
   have hT3:=Qa (Qd HTr.out b3)
   have hR3:=Qa (HRr.out.below b3)
   have hG3:=Qa (Qd HGr.out b3)
   have hb3:=Qc b3 HBL.out.size HBL.out
   have s3:=b3.size
   clear K b3 d0
   go_wp2_with (at_builtin;refine Qj rfl _ _ 61 rfl (w.heap.size+1) 5 i0 (.int .u8 0) 1 Tryz.underlying61 hi hz0 hz1 hz2 rfl _ _ _ rfl hO v3 _ gl2 (u8s (put5 Ti)) rfl o3 ?ce2 ?ce3 ?ce4 ?ce5 ?_)
   case ce2=>exact QC _
   case ce3=>unfold maxLen;omega
   case ce4=>omega
   case ce5=>omega
   intro v5 w5 hown5 hgrow _
   have hb5:=Qa (hb3.grown hgrow hb3.size (fun g hg=>by have:=(hO.lt g hg).1;omega))
   have hS5:=Qa (Qt hS3.out hgrow (fun g hg=>Qy hS3.out hO (by decide) hg))
   have hT5:=Qa (Qt hT3.out hgrow (fun g hg=>Qy hT3.out hO (by decide) hg))
   have hR5:=Qa (hR3.out.grown8 hO hgrow)
   have hG5:=Qa (Qt hG3.out hgrow (fun g hg=>Qy hG3.out hO (by decide) hg))
   have s5:=hgrow.size
   rw [←Qq] at hown5
   have HY5:Hid (Y++put5 Ti=X++ZE T (i+1)):=Qa (by rw [HY.out,HGX.out,List.append_assoc])
   have HYl5:Hid ((Y++put5 Ti).length=q+gl2):=Qa (by rw [List.length_append,HYl.out,HGL.out])
   have hO5:=Qa hown5
   clear hO hown5 hgrow o3 hb3
   go_wp2
   go_roundw
   case rel=>exact ⟨i+1,q+gl2,_,by omega,by go_num,HY5,HYl5,by omega,hO5.out,hS5,hT5,hR5,hG5,hb5.out,by omega⟩
   case measure=>simp [intOf];omega
  ·obtain rfl:i=t:=by omega
   have hTab:=XR (T:=T) (by have h:=HTr.out;rw [←HTL2.out] at h;exact h) HRr.out (by rw [HTL2.out];omega) HTF.out
   have hIS:=(Ints.ofOwn HSr.out (by have:=HZZ.out;omega) (fun x hx=>by have:=HSR.out x hx;omega)).2
   have hIG:=(Ints.ofOwn HGr.out (by omega) (fun x hx=>HGF.out.2.2 x hx)).2
   have K:=Qa (yE aS aT aG cS cT cG wr.heap.size Z G T wr hIS hTab hIG (Nat.le_refl _) HCD.out)
   rw [HZZ.out,HTL2.out,HGL2.out] at K
   rw [HZZ.out] at HCP HCE
   rw [HCP.out] at K
   have HOo:=Qa hown
   have HBL:=Qa hbl
   clear hown hbl hTab hIS hIG
   go_wp2_with fail
   refine K.out.mono ?_
   rintro e w3 ⟨v3,rfl,o3,b3⟩
   have hO:=Qd HOo.out b3
   have hb3:=Qc b3 HBL.out.size HBL.out
   have s3:=b3.size
   clear K b3
   go_wp2_with (at_builtin;refine Qj rfl _ _ 61 rfl (w.heap.size+1) 5 i0 (.int .u8 0) 1 Tryz.underlying61 hi hz0 hz1 hz2 rfl _ _ _ rfl hO v3 _ cp (u8s (cpF Z T G z)) rfl o3 ?cf2 ?cf3 ?cf4 ?cf5 ?_)
   case cf2=>exact QC _
   case cf3=>unfold maxLen;omega
   case cf4=>omega
   case cf5=>omega
   intro v5 w5 hown5 hgrow _
   have hb5:=Qa (hb3.grown hgrow hb3.size (fun g hg=>by have:=(hO.lt g hg).1;omega))
   rw [←Qq] at hown5
   have HY5:Hid (Y++cpF Z T G z=QR s m false++symL Z (n0+2) i):=Qa (by rw [HX.out,HY.out,HZZ.out])
   have HYl5:Hid ((Y++cpF Z T G z).length=q+cp):=Qa (by rw [List.length_append,HYl.out,HCE.out])
   have hO5:=Qa hown5
   clear hO hown5 hgrow o3 hb3
   go_wp2
   go_ret
   exact ⟨_,Y++cpF Z T G z,rfl,HY5.out,by rw [HYl5.out];exact Joins.ownsRow_le hO5.out (by omega),by rw [HYl5.out];omega,hb5.out⟩
theorem yZ (s:ByteArray) (m t:Nat) (w:World) (hs:0<s.size∧s.size≤600) (hm:m=1∨m=2) (ht1:1≤t) (ht4:t≤4) :
 Calls Tryz.prog 33 #[.string s,.agg #[.int .i64 m,.bool true,.int .i64 t]] w fun e w'=>∃ v X,e=.returned v∧X=QR s m true++symL (stgZ s m true t) ((ordB (Qb s) true).length+2) t∧w'.ownsRow w.heap.size 5 1 v X.length (u8s X)∧X.length≤1000000∧Below w.heap.size w w':=by
 obtain ⟨i0,hi,hz0,hz1,hz2⟩:=info_parts Tryz.info5
 have hg40:=Zd hs.1 (by omega:s.size≤1048575)
 obtain ⟨f,hf,hf6⟩:=qj hs
 have hgf40:(gamL (f+1)).length≤40:=Zd (by omega) (by omega)
 have hU:=qF hs.1
 have hUb:=Xm (Qb s)
 have hu272:=ZS (Qm (Qb s))
 have K1:=Qa (fun W=>QY m 2 W (by omega) (by omega))
 have K2:=Qa (fun W=>ZC s.size W hs.1 (by omega))
 have K3:=Qa (fun W=>Jk s W (by unfold maxLen;omega))
 have K4:=Qa (fun W=>QY (crcN s) 32 W (by omega) (by have:=Jy s;omega))
 have K5:=Qa (fun W=>XZ s W (by omega))
 have K6:=Qa (fun W=>XV s m t true W (by omega))
 have K7:=Qa (fun W=>ZC (f+1) W (by omega) (by omega))
 have K8:=Qa (fun W=>Xg s W (by omega))
 have K9:=Qa (fun W=>by
  have h:=VV (Qh (Qm (Qb s))) W (by rw [QI];have:=QO hUb (ZF (Qb s));omega) (by rw [QL hUb];exact hU)
  rw [QL hUb] at h
  exact h)
 have K11:=Qa (fun W=>Jl s m t true W (by omega))
 have HSB:=Qa (Yf s m true t)
 have HTL:Hid (QR s m true=Qe m 2++gamL s.size++Qe (crcN s) 32++gamL (f+1)++Qr (Qm (Qb s))++(if true=true then [1]++putO (Qm (Qb s)) (ordB (Qb s) true) else [0])):=Qa (by unfold QR;rw [hf,Int.toNat_natCast])
 have HROW:Hid (QT (Qb s) (ordB (Qb s) true)∨ordB (Qb s) true=Qm (Qb s)→rowB (stgZ s m true t) (((ordB (Qb s) true).length+2:Nat):Int)=true∧1≤(stgZ s m true t).length):=Qa (fun h=>by
  have hw:QM m true t=true:=by rcases hm with rfl | rfl <;> simp [QM] <;> omega
  have e:stgZ s m true t=stgR (rkS s (ordB (Qb s) true)) m ((ordB (Qb s) true).length:Int):=by unfold stgZ;rw [if_pos ⟨hs.1,hs.2,hw⟩]
  rw [e]
  exact jx (qG hs h).1 m (by omega))
 have HOO:Hid (QT (Qb s) (ordB (Qb s) true)∨ordB (Qb s) true=Qm (Qb s)→ZJ (ordB (Qb s) true)=true∧Qm (ordB (Qb s) true)=Qm (Qb s)):=Qa (fun h=>by
  obtain ⟨h1,_,_,_,_,h6⟩:=qA (Jn hs.1) (QF s) h
  exact ⟨h1,h6⟩)
 have hm0:((m:Int) == 0)=false:=beq_eq_false_iff_ne.2 (by omega)
 have hm3:((m:Int) == 3)=false:=beq_eq_false_iff_ne.2 (by omega)
 have ht1':((t-1:Nat):Int)=(t:Int)-1:=by omega
 have K13:=Qa (fun W=>QY (t-1) 2 W (by omega) (by omega))
 rw [ht1'] at K13
 clear ht1' 
 have K10:=Qa (fun W (h1:Byt (ordB (Qb s) true)) (h2:ZJ (ordB (Qb s) true)=true∧Qm (ordB (Qb s) true)=Qm (Qb s))=>by
  have h:=jj (Qh (ordB (Qb s) true)) W (by rw [QL h1];exact h2.1)
  rw [QL h1,h2.2] at h
  exact h)
 have HPL:=Qa (fun (h:(ordB (Qb s) true).length≤256)=>VB (Qm (Qb s)) (ordB (Qb s) true) (QO hUb (ZF (Qb s))))
 obtain ⟨g,hg⟩:∃ g,(gamL s.size).length=g:=⟨_,rfl⟩
 obtain ⟨gf,hgf⟩:∃ gf,(gamL (f+1)).length=gf:=⟨_,rfl⟩
 obtain ⟨ub,hub⟩:∃ ub,(Qr (Qm (Qb s))).length=ub:=⟨_,rfl⟩
 obtain ⟨cr,hcr⟩:∃ cr,crcN s=cr:=⟨_,rfl⟩
 obtain ⟨Z,hZ⟩:∃ Z,stgZ s m true t=Z:=⟨_,rfl⟩
 obtain ⟨O,hOe⟩:∃ O,ordB (Qb s) true=O:=⟨_,rfl⟩
 obtain ⟨n0,hn0⟩:∃ n0,O.length=n0:=⟨_,rfl⟩
 have hzO:(Qh O).size=n0:=by rw [QI,hn0]
 obtain ⟨z,hz⟩:∃ z,Z.length=z:=⟨_,rfl⟩
 rw [hcr] at K3 K4 HTL
 rw [hg] at K2 hg40
 rw [hgf] at K7 hgf40
 rw [hub] at K9 hu272
 rw [hf] at K5
 rw [hZ,hz] at K11 HSB
 rw [hZ,hOe,hn0] at HROW
 rw [hOe] at K6 HTL HOO K10 HPL
 rw [hn0] at K6 HPL
 rw [hZ,hOe,hn0]
 have HCL:Hid (rowB Z ((n0+2:Nat):Int)=true→cdOk Z (tab2 Z (n0+2) t) (sel2 Z (n0+2) t)=true):=Qa (fun h=>AHg h ht1 ht4)
 have HZZ:=Qa hz
 rw [show ((f+1:Nat):Int)=(f:Int)+1 by omega] at K7
 obtain ⟨wi,hwe⟩:∃ wi,wi=w.alloc (.cells #[.int .i64 m,.bool true,.int .i64 t] 26):=⟨_,rfl⟩
 have hwi:wi.heap.size=w.heap.size+1:=by rw [hwe];simp
 have Bi:Below w.heap.size w wi:=by rw [hwe];exact (Below.refl _ _).alloc (Nat.le_refl _) _
 have HB0:Hid (Has wi w.heap.size 26 #[.int .i64 m,.bool true,.int .i64 t]):=Qa (by rw [hwe];exact Has.fresh _ _ _)
 have c0:=HB0.out.cell 0
 have c1:=HB0.out.cell 1
 have c2:=HB0.out.cell 2
 simp at c0 c1 c2
 clear hg hcr hgf hub hf hU hUb hZ hz hOe hn0
 go_enter Tryz.func33,Tryz.ntmps33
 go_wp2_with fail
 rw [←hwe]
 refine (K1.out wi).mono ?_
 rintro e w1 ⟨rfl,o1,b1⟩
 have B1:=Qc b1 Bi.size Bi
 have s1:=b1.size
 have HB1:=Qa (HB0.out.below b1 HB0.out.lt)
 rw [hwi] at o1
 have HO1:=Qa o1
 have HZ1:Hid (2≤1000000):=Qa (by omega)
 clear b1 c0 c1 c2 HB0 o1 hwe
 have c0:=HB1.out.cell 0
 have c1:=HB1.out.cell 1
 have c2:=HB1.out.cell 2
 simp at c0 c1 c2
 go_wp2_with fail
 refine (K2.out _).mono ?_
 rintro e w2 ⟨v2,rfl,o2,b2⟩
 have B2:=Qc b2 B1.size B1
 have s2:=b2.size
 have HB2:=Qa (HB1.out.below b2 HB1.out.lt)
 have HO2:=Qa (Qd HO1.out b2)
 have HZ2:=HZ1
 clear b2 c0 c1 c2 HB1 HO1 HZ1
 have c0:=HB2.out.cell 0
 have c1:=HB2.out.cell 1
 have c2:=HB2.out.cell 2
 simp at c0 c1 c2
 have hz3:=HZ2.out
 go_wp2_with (at_builtin;refine Qj rfl _ _ 61 rfl (w.heap.size+1) 5 i0 (.int .u8 0) 1 Tryz.underlying61 hi hz0 hz1 hz2 rfl _ _ _ rfl HO2.out v2 _ g (u8s (gamL s.size)) rfl o2 ?ce2 ?ce3 ?ce4 ?ce5 ?_)
 case ce2=>exact QC _
 case ce3=>unfold maxLen;omega
 case ce4=>omega
 case ce5=>have:=B2.size;omega
 intro v3 w3 own3 hgrow _
 rw [←Qq] at own3
 have HO3:=Qa own3
 have s3:=hgrow.size
 have HZ3:Hid (2+g≤1000000):=Qa (by omega)
 have B3:=B2.grown hgrow B2.size (fun g hg=>by have:=(HO2.out.lt g hg).1;omega)
 have HB3:=Qa (HB2.out.grown hgrow (by intro e;have:=(HO2.out.lt _ e.symm).1;omega))
 clear own3 hgrow c0 c1 c2 HB2 HO2 o2 hz3 HZ2
 have c0:=HB3.out.cell 0
 have c1:=HB3.out.cell 1
 have c2:=HB3.out.cell 2
 simp at c0 c1 c2
 go_wp2_with fail
 refine (K3.out _).mono ?_
 rintro e wz ⟨rfl,hwz⟩
 subst hwz
 go_wp2_with fail
 refine (K4.out _).mono ?_
 rintro e w4 ⟨rfl,o4,b4⟩
 have B4:=Qc b4 B3.size B3
 have s4:=b4.size
 have HB4:=Qa (HB3.out.below b4 HB3.out.lt)
 have HO4:=Qa (Qd HO3.out b4)
 have HZ4:=HZ3
 clear b4 c0 c1 c2 HB3 HO3 HZ3
 have c0:=HB4.out.cell 0
 have c1:=HB4.out.cell 1
 have c2:=HB4.out.cell 2
 simp at c0 c1 c2
 have hz5:=HZ4.out
 go_wp2_with (at_builtin;refine Qj rfl _ _ 61 rfl (w.heap.size+1) 5 i0 (.int .u8 0) 1 Tryz.underlying61 hi hz0 hz1 hz2 rfl _ _ _ rfl HO4.out _ _ 32 (u8s (Qe cr 32)) rfl o4 ?ce2 ?ce3 ?ce4 ?ce5 ?_)
 case ce2=>exact QC _
 case ce3=>unfold maxLen;omega
 case ce4=>omega
 case ce5=>have:=B4.size;omega
 intro v5 w5 own5 hgrow _
 rw [←Qq] at own5
 have HO5:=Qa own5
 have s5:=hgrow.size
 have HZ5:Hid (2+g+32≤1000000):=Qa (by omega)
 have B5:=B4.grown hgrow B4.size (fun g hg=>by have:=(HO4.out.lt g hg).1;omega)
 have HB5:=Qa (HB4.out.grown hgrow (by intro e;have:=(HO4.out.lt _ e.symm).1;omega))
 clear own5 hgrow c0 c1 c2 HB4 HO4 o4 hz5 HZ4
 have c0:=HB5.out.cell 0
 have c1:=HB5.out.cell 1
 have c2:=HB5.out.cell 2
 simp at c0 c1 c2
 go_wp2_with fail
 refine (K5.out _).mono ?_
 rintro e w6 ⟨rfl,b6⟩
 have B6:=Qc b6 B5.size B5
 have s6:=b6.size
 have HB6:=Qa (HB5.out.below b6 HB5.out.lt)
 have HO6:=Qa (Qd HO5.out b6)
 have HZ6:=HZ5
 clear b6 c0 c1 c2 HB5 HO5 HZ5
 have c0:=HB6.out.cell 0
 have c1:=HB6.out.cell 1
 have c2:=HB6.out.cell 2
 simp at c0 c1 c2
 go_wp2_with fail
 refine (K6.out _).mono ?_
 rintro e w7 ⟨rfl,hB7,hO7,hR7,b7⟩
 have B7:=Qc b7 B6.size B6
 have s7:=b7.size
 have HB7:=Qa (HB6.out.below b7 HB6.out.lt)
 have HO7:=Qa (Qd HO6.out b7)
 have HZ7:=HZ6
 clear b7 c0 c1 c2 HB6 HO6 HZ6
 have c0:=HB7.out.cell 0
 have c1:=HB7.out.cell 1
 have c2:=HB7.out.cell 2
 simp at c0 c1 c2
 go_wp2_with fail
 refine (K7.out _).mono ?_
 rintro e w8 ⟨v8,rfl,o8,b8⟩
 have B8:=Qc b8 B7.size B7
 have s8:=b8.size
 have HB8:=Qa (HB7.out.below b8 HB7.out.lt)
 have HO8:=Qa (Qd HO7.out b8)
 have HZ8:=HZ7
 clear b8 c0 c1 c2 HB7 HO7 HZ7
 have c0:=HB8.out.cell 0
 have c1:=HB8.out.cell 1
 have c2:=HB8.out.cell 2
 simp at c0 c1 c2
 have hz9:=HZ8.out
 go_wp2_with (at_builtin;refine Qj rfl _ _ 61 rfl (w.heap.size+1) 5 i0 (.int .u8 0) 1 Tryz.underlying61 hi hz0 hz1 hz2 rfl _ _ _ rfl HO8.out v8 _ gf (u8s (gamL (f+1))) rfl o8 ?ce2 ?ce3 ?ce4 ?ce5 ?_)
 case ce2=>exact QC _
 case ce3=>unfold maxLen;omega
 case ce4=>omega
 case ce5=>have:=B8.size;omega
 intro v9 w9 own9 hgrow _
 rw [←Qq] at own9
 have HO9:=Qa own9
 have s9:=hgrow.size
 have HZ9:Hid (2+g+32+gf≤1000000):=Qa (by omega)
 have B9:=B8.grown hgrow B8.size (fun g hg=>by have:=(HO8.out.lt g hg).1;omega)
 have HB9:=Qa (HB8.out.grown hgrow (by intro e;have:=(HO8.out.lt _ e.symm).1;omega))
 clear own9 hgrow c0 c1 c2 HB8 HO8 o8 hz9 HZ8
 have c0:=HB9.out.cell 0
 have c1:=HB9.out.cell 1
 have c2:=HB9.out.cell 2
 simp at c0 c1 c2
 go_wp2_with fail
 refine (K8.out _).mono ?_
 rintro e w10 ⟨rfl,b10⟩
 have B10:=Qc b10 B9.size B9
 have s10:=b10.size
 have HB10:=Qa (HB9.out.below b10 HB9.out.lt)
 have HO10:=Qa (Qd HO9.out b10)
 have HZ10:=HZ9
 clear b10 c0 c1 c2 HB9 HO9 HZ9
 have c0:=HB10.out.cell 0
 have c1:=HB10.out.cell 1
 have c2:=HB10.out.cell 2
 simp at c0 c1 c2
 go_wp2_with fail
 refine (K9.out _).mono ?_
 rintro e w11 ⟨v11,rfl,o11,b11⟩
 have B11:=Qc b11 B10.size B10
 have s11:=b11.size
 have HB11:=Qa (HB10.out.below b11 HB10.out.lt)
 have HO11:=Qa (Qd HO10.out b11)
 have HZ11:=HZ10
 clear b11 c0 c1 c2 HB10 HO10 HZ10
 have c0:=HB11.out.cell 0
 have c1:=HB11.out.cell 1
 have c2:=HB11.out.cell 2
 simp at c0 c1 c2
 have hz12:=HZ11.out
 go_wp2_with (at_builtin;refine Qj rfl _ _ 61 rfl (w.heap.size+1) 5 i0 (.int .u8 0) 1 Tryz.underlying61 hi hz0 hz1 hz2 rfl _ _ _ rfl HO11.out v11 _ ub (u8s (Qr (Qm (Qb s)))) rfl o11 ?ce2 ?ce3 ?ce4 ?ce5 ?_)
 case ce2=>exact QC _
 case ce3=>unfold maxLen;omega
 case ce4=>omega
 case ce5=>have:=B11.size;omega
 intro v12 w12 own12 hgrow _
 rw [←Qq] at own12
 have HO12:=Qa own12
 have s12:=hgrow.size
 have HZ12:Hid (2+g+32+gf+ub≤1000000):=Qa (by omega)
 have B12:=B11.grown hgrow B11.size (fun g hg=>by have:=(HO11.out.lt g hg).1;omega)
 have HB12:=Qa (HB11.out.grown hgrow (by intro e;have:=(HO11.out.lt _ e.symm).1;omega))
 clear own12 hgrow c0 c1 c2 HB11 HO11 o11 hz12 HZ11
 have c0:=HB12.out.cell 0
 have c1:=HB12.out.cell 1
 have c2:=HB12.out.cell 2
 simp at c0 c1 c2
 have hz13:=HZ12.out
 go_wp2_with (at_builtin;refine wpList_append_own _ rfl _ _ 61 rfl (w.heap.size+1) 5 i0 (.int .u8 0) 1 1 Tryz.underlying61 hi hz0 hz1 hz2 rfl (by decide) _ _ _ rfl (HO12.out.alloc _) ⟨w12.heap.size,0,none⟩ 1 1 [.int .u8 1] rfl rfl ?ce1 ?ce2 ?ce3 ?ce4 ?ce5 ?_)
 case ce1=>exact cell_one_new _ _ _
 case ce2=>exact fun u hu=>by simp at hu;subst hu;rfl
 case ce3=>unfold maxLen;omega
 case ce4=>omega
 case ce5=>have:=B12.size;simp;omega
 intro v13 w13 own13 hgrow _
 rw [show ([.int .u8 1]:List Value)=u8s [1] from rfl,←Qq] at own13
 have HO13:=Qa own13
 have s13:=hgrow.size
 have HZ13:Hid (2+g+32+gf+ub+1≤1000000):=Qa (by omega)
 have B13:=(B12.alloc B12.size (.cells #[.int .u8 1] 5)).grown hgrow (by have:=B12.size;simp;omega) (fun g hg=>by have:=(HO12.out.lt g hg).1;omega)
 have HB13:=Qa ((HB12.out.alloc (.cells #[.int .u8 1] 5)).grown hgrow (by intro e;have:=(HO12.out.lt _ e.symm).1;omega))
 simp at s13
 clear own13 hgrow c0 c1 c2 HB12 HO12 hz13 HZ12
 have c0:=HB13.out.cell 0
 have c1:=HB13.out.cell 1
 have c2:=HB13.out.cell 2
 simp at c0 c1 c2
 have hpl:=HPL.out hO7
 obtain ⟨pl,hpe⟩:∃ pl,(putO (Qm (Qb s)) O).length=pl:=⟨_,rfl⟩
 have K10b:=Qa (fun W=>K10.out W hB7 (HOO.out hR7.out))
 rw [hpe] at K10b hpl
 clear hpe K10 HPL
 go_wp2_with fail
 refine (K10b.out _).mono ?_
 rintro e w14 ⟨v14,rfl,o14,b14⟩
 have B14:=Qc b14 B13.size B13
 have s14:=b14.size
 have HB14:=Qa (HB13.out.below b14 HB13.out.lt)
 have HO14:=Qa (Qd HO13.out b14)
 have HZ14:=HZ13
 clear b14 c0 c1 c2 HB13 HO13 HZ13
 have c0:=HB14.out.cell 0
 have c1:=HB14.out.cell 1
 have c2:=HB14.out.cell 2
 simp at c0 c1 c2
 have hz15:=HZ14.out
 go_wp2_with (at_builtin;refine Qj rfl _ _ 61 rfl (w.heap.size+1) 5 i0 (.int .u8 0) 1 Tryz.underlying61 hi hz0 hz1 hz2 rfl _ _ _ rfl HO14.out v14 _ pl (u8s (putO (Qm (Qb s)) O)) rfl o14 ?ce2 ?ce3 ?ce4 ?ce5 ?_)
 case ce2=>exact QC _
 case ce3=>unfold maxLen;omega
 case ce4=>omega
 case ce5=>have:=B14.size;omega
 intro v15 w15 own15 hgrow _
 rw [←Qq] at own15
 have HO15:=Qa own15
 have s15:=hgrow.size
 have HZ15:Hid (2+g+32+gf+ub+1+pl≤1000000):=Qa (by omega)
 have B15:=B14.grown hgrow B14.size (fun g hg=>by have:=(HO14.out.lt g hg).1;omega)
 have HB15:=Qa (HB14.out.grown hgrow (by intro e;have:=(HO14.out.lt _ e.symm).1;omega))
 clear own15 hgrow c0 c1 c2 HB14 HO14 o14 hz15 HZ14
 have c0:=HB15.out.cell 0
 have c1:=HB15.out.cell 1
 have c2:=HB15.out.cell 2
 simp at c0 c1 c2
 go_wp2_with fail
 refine (K11.out _).mono ?_
 rintro e w16 ⟨v16,rfl,oS,b16⟩
 have B16:=Qc b16 B15.size B15
 have s16:=b16.size
 have HB16:=Qa (HB15.out.below b16 HB15.out.lt)
 have HO16:=Qa (Qd HO15.out b16)
 have HZ16:=HZ15
 clear b16 c0 c1 c2 HB15 HO15 HZ15
 have c0:=HB16.out.cell 0
 have c1:=HB16.out.cell 1
 have c2:=HB16.out.cell 2
 simp at c0 c1 c2
 have HS16:=Qa oS
 clear oS
 clear K1 K2 K3 K4 K5 K6 K7 K8 K9 K11
 obtain ⟨hrow,hz1'⟩:=HROW.out hR7.out
 have hcd:=HCL.out hrow
 have hsb:=HSB.out
 have HSR:=Qa hsb.2
 have hSl2:Z.length≤2000:=by rw [HZZ.out];omega
 have hnn:1≤n0+2∧n0+2≤260:=by omega
 obtain ⟨aS,cS,rfl⟩:=Qv HS16.out
 have hIS:=(Ints.ofOwn (by have h:=HS16.out;exact h) (by omega) (fun x hx=>by have:=hsb.2 x hx;omega)).2
 have K12:=Qa (qu aS cS w16.heap.size (n0+2) t Z w16 hIS (Nat.le_refl _) hrow ht1 ht4)
 have hTl:(tab2 Z (n0+2) t).length=t:=Zo _ _ _ _
 have hGl:(sel2 Z (n0+2) t).length=grp Z.length:=by have:=XJ Z (n0+2) t 2;rw [Xe] at this;exact this
 have HSY:Hid (symL Z (n0+2) t=Qe (t-1) 2++gamL (sel2 Z (n0+2) t).length++unaL (mtfD (sel2 Z (n0+2) t) t)++ZE (tab2 Z (n0+2) t) t++cpF Z (tab2 Z (n0+2) t) (sel2 Z (n0+2) t) Z.length):=Qa rfl
 have HLO:Hid (∀ i,i<t→lOk ((tab2 Z (n0+2) t).getD i [])=true):=Qa (fun i hi=>xB hnn.1 hnn.2 hSl2 i hi)
 have HTF:Hid (∀ i,i<(tab2 Z (n0+2) t).length→((tab2 Z (n0+2) t).getD i []).length≤140737488355328∧∀ x∈(tab2 Z (n0+2) t).getD i [],-9223372036854775808≤x∧x≤9223372036854775807):=Qa (fun i hi=>Vl hnn.1 hnn.2 hSl2 i hi)
 have HGR:=Qa (jz (S:=Z) (n:=n0+2) ht1 ht4 hSl2)
 have HGF:=Qa (yr (S:=Z) (n:=n0+2) ht1 ht4 hSl2)
 have hcpl:=qC (Vx hcd) Z.length (Nat.le_refl _)
 have hcpe:=qg Z (tab2 Z (n0+2) t) (sel2 Z (n0+2) t) Z.length
 obtain ⟨T,hT⟩:∃ T,tab2 Z (n0+2) t=T:=⟨_,rfl⟩
 obtain ⟨G,hG⟩:∃ G,sel2 Z (n0+2) t=G:=⟨_,rfl⟩
 obtain ⟨gz,hgz⟩:∃ gz,grp Z.length=gz:=⟨_,rfl⟩
 have hgz1:1≤gz∧gz≤600:=by rw [←hgz];unfold grp;omega
 rw [hT] at K12 hTl hcd HSY HLO HTF hcpl hcpe
 rw [hG] at K12 hGl hcd HSY HGR HGF hcpl hcpe
 rw [hgz] at K12 hGl
 have HTL2:=Qa hTl
 have HGL2:=Qa hGl
 have HCD:=Qa hcd
 obtain ⟨cp,hcp⟩:∃ cp,cpN Z T G Z.length=cp:=⟨_,rfl⟩
 rw [hcp] at hcpl hcpe
 have HCP:=Qa hcp
 have HCE:=Qa hcpe
 have hcp2:cp≤20000:=by have:=HZZ.out;omega
 have hul:=zf (qq HGR.out)
 rw [Jt,hGl] at hul
 have hul2:(unaL (mtfD G t)).length≤2400:=by have:gz*t≤600*4:=Nat.mul_le_mul hgz1.2 ht4;omega
 obtain ⟨ul,hule⟩:∃ ul,(unaL (mtfD G t)).length=ul:=⟨_,rfl⟩
 rw [hule] at hul2
 have HUL:=Qa hule
 have hgl40:=Zd (n:=gz) hgz1.1 (by omega)
 have K14:=Qa (fun W=>ZC gz W hgz1.1 (by omega))
 obtain ⟨gl,hgle⟩:∃ gl,(gamL gz).length=gl:=⟨_,rfl⟩
 rw [hgle] at K14 hgl40
 rw [show ((n0+2:Nat):Int)=(n0:Int)+2 by omega,HZZ.out] at K12
 clear hrow hcd hsb hIS hTl hGl hT hG hgz hcp hcpl hcpe hul hule hgle HROW HCL HSB
 go_wp2_with fail
 refine K12.out.mono ?_
 rintro e w17 ⟨vT,V,vG,rfl,oT,hRA,_,_,oG,b17⟩
 have B17:=Qc b17 B16.size B16
 have s17:=b17.size
 have HB17:=Qa (HB16.out.below b17 HB16.out.lt)
 have HO17:=Qa (Qd HO16.out b17)
 have HZ17:=HZ16
 have HS17:=Qa (Qd HS16.out b17)
 have HT17:=Qa oT
 have HR17:=Qa hRA
 have HG17:=Qa oG
 obtain ⟨aT,cT,rfl⟩:=Qv HT17.out
 obtain ⟨aG,cG,rfl⟩:=Qv HG17.out
 clear b17 c0 c1 c2 HB16 HO16 HZ16 HS16 oT hRA oG K12
 have c0:=HB17.out.cell 0
 have c1:=HB17.out.cell 1
 have c2:=HB17.out.cell 2
 simp at c0 c1 c2
 go_wp2_with fail
 refine (K13.out _).mono ?_
 rintro e w18 ⟨rfl,o18,b18⟩
 have B18:=Qc b18 B17.size B17
 have s18:=b18.size
 have HB18:=Qa (HB17.out.below b18 HB17.out.lt)
 have HO18:=Qa (Qd HO17.out b18)
 have HZ18:=HZ17
 have HS18:=Qa (Qd HS17.out b18)
 have HT18:=Qa (Qd HT17.out b18)
 have HR18:=Qa (HR17.out.below b18)
 have HG18:=Qa (Qd HG17.out b18)
 clear b18 c0 c1 c2 HB17 HO17 HZ17 HS17 HT17 HR17 HG17
 have c0:=HB18.out.cell 0
 have c1:=HB18.out.cell 1
 have c2:=HB18.out.cell 2
 simp at c0 c1 c2
 have hz19:=HZ18.out
 go_wp2_with (at_builtin;refine Qj rfl _ _ 61 rfl (w.heap.size+1) 5 i0 (.int .u8 0) 1 Tryz.underlying61 hi hz0 hz1 hz2 rfl _ _ _ rfl HO18.out _ _ 2 (u8s (Qe (t-1) 2)) rfl o18 ?ce2 ?ce3 ?ce4 ?ce5 ?_)
 case ce2=>exact QC _
 case ce3=>unfold maxLen;omega
 case ce4=>omega
 case ce5=>have:=B18.size;omega
 intro v19 w19 own19 hgrow _
 rw [←Qq] at own19
 have HO19:=Qa own19
 have s19:=hgrow.size
 have HZ19:Hid (2+g+32+gf+ub+1+pl+2≤1000000):=Qa (by omega)
 have B19:=B18.grown hgrow B18.size (fun g hg=>by have:=(HO18.out.lt g hg).1;omega)
 have HB19:=Qa (HB18.out.grown hgrow (by intro e;have:=(HO18.out.lt _ e.symm).1;omega))
 have HS19:=Qa (Qt HS18.out hgrow (fun g hg=>Qy HS18.out HO18.out (by decide) hg))
 have HT19:=Qa (Qt HT18.out hgrow (fun g hg=>Qy HT18.out HO18.out (by decide) hg))
 have HR19:=Qa (HR18.out.grown8 HO18.out hgrow)
 have HG19:=Qa (Qt HG18.out hgrow (fun g hg=>Qy HG18.out HO18.out (by decide) hg))
 clear own19 hgrow c0 c1 c2 HB18 HO18 o18 hz19 HZ18 HS18 HT18 HR18 HG18
 have c0:=HB19.out.cell 0
 have c1:=HB19.out.cell 1
 have c2:=HB19.out.cell 2
 simp at c0 c1 c2
 go_wp2_with fail
 refine (K14.out _).mono ?_
 rintro e w20 ⟨v20,rfl,o20,b20⟩
 have B20:=Qc b20 B19.size B19
 have s20:=b20.size
 have HB20:=Qa (HB19.out.below b20 HB19.out.lt)
 have HO20:=Qa (Qd HO19.out b20)
 have HZ20:=HZ19
 have HS20:=Qa (Qd HS19.out b20)
 have HT20:=Qa (Qd HT19.out b20)
 have HR20:=Qa (HR19.out.below b20)
 have HG20:=Qa (Qd HG19.out b20)
 clear b20 c0 c1 c2 HB19 HO19 HZ19 HS19 HT19 HR19 HG19
 have c0:=HB20.out.cell 0
 have c1:=HB20.out.cell 1
 have c2:=HB20.out.cell 2
 simp at c0 c1 c2
 have hz21:=HZ20.out
 go_wp2_with (at_builtin;refine Qj rfl _ _ 61 rfl (w.heap.size+1) 5 i0 (.int .u8 0) 1 Tryz.underlying61 hi hz0 hz1 hz2 rfl _ _ _ rfl HO20.out v20 _ gl (u8s (gamL gz)) rfl o20 ?ce2 ?ce3 ?ce4 ?ce5 ?_)
 case ce2=>exact QC _
 case ce3=>unfold maxLen;omega
 case ce4=>omega
 case ce5=>have:=B20.size;omega
 intro v21 w21 own21 hgrow _
 rw [←Qq] at own21
 have HO21:=Qa own21
 have s21:=hgrow.size
 have HZ21:Hid (2+g+32+gf+ub+1+pl+2+gl≤1000000):=Qa (by omega)
 have B21:=B20.grown hgrow B20.size (fun g hg=>by have:=(HO20.out.lt g hg).1;omega)
 have HB21:=Qa (HB20.out.grown hgrow (by intro e;have:=(HO20.out.lt _ e.symm).1;omega))
 have HS21:=Qa (Qt HS20.out hgrow (fun g hg=>Qy HS20.out HO20.out (by decide) hg))
 have HT21:=Qa (Qt HT20.out hgrow (fun g hg=>Qy HT20.out HO20.out (by decide) hg))
 have HR21:=Qa (HR20.out.grown8 HO20.out hgrow)
 have HG21:=Qa (Qt HG20.out hgrow (fun g hg=>Qy HG20.out HO20.out (by decide) hg))
 clear own21 hgrow c0 c1 c2 HB20 HO20 o20 hz21 HZ20 HS20 HT20 HR20 HG20
 have c0:=HB21.out.cell 0
 have c1:=HB21.out.cell 1
 have c2:=HB21.out.cell 2
 simp at c0 c1 c2
 have hIG:=(Ints.ofOwn HG21.out (by omega) (fun x hx=>HGF.out.2.2 x hx)).2
 have K15:=Qa (qB aG cG w21.heap.size t G w21 hIG (Nat.le_refl _) ht4 HGR.out)
 rw [HGL2.out,HUL.out] at K15
 clear hIG
 go_wp2_with fail
 refine (K15.out).mono ?_
 rintro e w22 ⟨v22,rfl,o22,b22⟩
 have B22:=Qc b22 B21.size B21
 have s22:=b22.size
 have HB22:=Qa (HB21.out.below b22 HB21.out.lt)
 have HO22:=Qa (Qd HO21.out b22)
 have HZ22:=HZ21
 have HS22:=Qa (Qd HS21.out b22)
 have HT22:=Qa (Qd HT21.out b22)
 have HR22:=Qa (HR21.out.below b22)
 have HG22:=Qa (Qd HG21.out b22)
 clear b22 c0 c1 c2 HB21 HO21 HZ21 HS21 HT21 HR21 HG21 K15
 have c0:=HB22.out.cell 0
 have c1:=HB22.out.cell 1
 have c2:=HB22.out.cell 2
 simp at c0 c1 c2
 have hz23:=HZ22.out
 go_wp2_with (at_builtin;refine Qj rfl _ _ 61 rfl (w.heap.size+1) 5 i0 (.int .u8 0) 1 Tryz.underlying61 hi hz0 hz1 hz2 rfl _ _ _ rfl HO22.out v22 _ ul (u8s (unaL (mtfD G t))) rfl o22 ?ce2 ?ce3 ?ce4 ?ce5 ?_)
 case ce2=>exact QC _
 case ce3=>unfold maxLen;omega
 case ce4=>omega
 case ce5=>have:=B22.size;omega
 intro v23 w23 own23 hgrow _
 rw [←Qq] at own23
 have HO23:=Qa own23
 have s23:=hgrow.size
 have HZ23:Hid (2+g+32+gf+ub+1+pl+2+gl+ul≤1000000):=Qa (by omega)
 have B23:=B22.grown hgrow B22.size (fun g hg=>by have:=(HO22.out.lt g hg).1;omega)
 have HB23:=Qa (HB22.out.grown hgrow (by intro e;have:=(HO22.out.lt _ e.symm).1;omega))
 have HS23:=Qa (Qt HS22.out hgrow (fun g hg=>Qy HS22.out HO22.out (by decide) hg))
 have HT23:=Qa (Qt HT22.out hgrow (fun g hg=>Qy HT22.out HO22.out (by decide) hg))
 have HR23:=Qa (HR22.out.grown8 HO22.out hgrow)
 have HG23:=Qa (Qt HG22.out hgrow (fun g hg=>Qy HG22.out HO22.out (by decide) hg))
 clear own23 hgrow c0 c1 c2 HB22 HO22 o22 hz23 HZ22 HS22 HT22 HR22 HG22
 have c0:=HB23.out.cell 0
 have c1:=HB23.out.cell 1
 have c2:=HB23.out.cell 2
 simp at c0 c1 c2
 have hzz:=HZ23.out
 obtain ⟨p,hp⟩:∃ p,2+g+32+gf+ub+1+pl+2+gl+ul=p:=⟨_,rfl⟩
 obtain ⟨X,hX⟩:∃ X,Qe m 2++gamL s.size++Qe cr 32++gamL (f+1)++Qr (Qm (Qb s))++[1]++putO (Qm (Qb s)) O++Qe (t-1) 2++gamL gz++unaL (mtfD G t)=X:=⟨_,rfl⟩
 have HX:Hid (QR s m true++symL Z (n0+2) t=X++ZE T t++cpF Z T G Z.length):=Qa (by rw [HTL.out,HSY.out,HGL2.out,←hX];simp [List.append_assoc])
 rw [hp] at hzz
 have hpX:p≤100000:=by omega
 have HOx:Hid (w23.ownsRow (w.heap.size+1) 5 1 v23 p (u8s X)):=Qa (by rw [←hp,←hX];have h:=HO23.out;simp only [List.append_assoc,List.cons_append,List.nil_append] at h ⊢;exact h)
 have HSx:=HS23
 have HTx:=HT23
 have HRx:=HR23
 have HGx:=HG23
 have HLX:Hid (X.length=p):=Qa (by have h:=HOx.out.1;rw [QS] at h;omega)
 have HPS:Hid (∀ i,ZE T (i+1)=ZE T i++put5 (T.getD i [])):=Qa (fun i=>rfl)
 clear hp hX HO23 HZ23 HTL HSY HB23 HS23 HT23 HR23 HG23 c0 c1 c2
 go_wp2
 go_loopw [5,13] (fun vo si wr=>∃ (i q:Nat) (Y:List Nat),i≤t∧si=.int .i64 i∧Hid (Y=X++ZE T i)∧Hid (Y.length=q)∧q≤p+20000*i∧wr.ownsRow (w.heap.size+1) 5 1 vo q (u8s Y)∧Hid (wr.ownsRow w15.heap.size 3 1 (.slice aS z cS) z (Qn Z))∧Hid (wr.ownsRow w16.heap.size 99 1 (.slice aT t cT) t V)∧Hid (QU wr w16.heap.size V T)∧Hid (wr.ownsRow w16.heap.size 3 1 (.slice aG gz cG) gz (Qn G))∧Below w.heap.size w wr∧w.heap.size+1≤wr.heap.size) (fun _ si _=>t-(intOf si).toNat)
 case atStart=>exact ⟨0,p,X,Nat.zero_le _,rfl,Qa (by simp [ZE]),HLX,by omega,HOx.out,HSx,HTx,HRx,HGx,B23,by have:=B23.size;omega⟩
 case round =>
  obtain ⟨i,q,Y,hi2,rfl,HY,HYl,hq,hown,HSr,HTr,HRr,HGr,hbl,hsr⟩:=hrel
  by_cases hlt:i<t
  ·have hTab:=XR (T:=T) (by have h:=HTr.out;rw [←HTL2.out] at h;exact h) HRr.out (by rw [HTL2.out];omega) HTF.out
   obtain ⟨bT,oT,a2,c2,rfl,hbT,d0,hlc2,hI2⟩:=hTab.at (i:=i) (by rw [HTL2.out];exact hlt)
   have hok:=HLO.out i hlt
   have h5:=AAn hok
   have hps:=HPS.out i
   have K:=Qa (AAx a2 c2 wr.heap.size (T.getD i []) wr hI2 (Nat.le_refl _) hok)
   obtain ⟨Ti,hTi⟩:∃ Ti,T.getD i []=Ti:=⟨_,rfl⟩
   rw [hTi] at K h5 hps d0
   obtain ⟨gl2,hgl⟩:∃ gl2,(put5 Ti).length=gl2:=⟨_,rfl⟩
   rw [hgl] at K h5
   obtain ⟨tl,htl⟩:∃ tl,Ti.length=tl:=⟨_,rfl⟩
   rw [htl] at K d0
   have HGX:=Qa hps
   have HGL:=Qa hgl
   have HOo:=Qa hown
   have HBL:=Qa hbl
   clear hps hgl hown hbl hTab hI2 hok hTi htl hlc2
   go_wp2_with fail
   refine K.out.mono ?_
   rintro e w3 ⟨v3,rfl,o3,b3⟩
   have hO:=Qd HOo.out b3
   have hS3:=Qa (Qd HSr.out b3)
   have hT3:=Qa (Qd HTr.out b3)
   have hR3:=Qa (HRr.out.below b3)
   have hG3:=Qa (Qd HGr.out b3)
   have hb3:=Qc b3 HBL.out.size HBL.out
   have s3:=b3.size
   clear K b3 d0
   go_wp2_with (at_builtin;refine Qj rfl _ _ 61 rfl (w.heap.size+1) 5 i0 (.int .u8 0) 1 Tryz.underlying61 hi hz0 hz1 hz2 rfl _ _ _ rfl hO v3 _ gl2 (u8s (put5 Ti)) rfl o3 ?ce2 ?ce3 ?ce4 ?ce5 ?_)
   case ce2=>exact QC _
   case ce3=>unfold maxLen;omega
   case ce4=>omega
   case ce5=>omega
   intro v5 w5 hown5 hgrow _
   have hb5:=Qa (hb3.grown hgrow hb3.size (fun g hg=>by have:=(hO.lt g hg).1;omega))
   have hS5:=Qa (Qt hS3.out hgrow (fun g hg=>Qy hS3.out hO (by decide) hg))
   have hT5:=Qa (Qt hT3.out hgrow (fun g hg=>Qy hT3.out hO (by decide) hg))
   have hR5:=Qa (hR3.out.grown8 hO hgrow)
   have hG5:=Qa (Qt hG3.out hgrow (fun g hg=>Qy hG3.out hO (by decide) hg))
   have s5:=hgrow.size
   rw [←Qq] at hown5
   have HY5:Hid (Y++put5 Ti=X++ZE T (i+1)):=Qa (by rw [HY.out,HGX.out,List.append_assoc])
   have HYl5:Hid ((Y++put5 Ti).length=q+gl2):=Qa (by rw [List.length_append,HYl.out,HGL.out])
   have hO5:=Qa hown5
   clear hO hown5 hgrow o3 hb3
   go_wp2
   go_roundw
   case rel=>exact ⟨i+1,q+gl2,_,by omega,by go_num,HY5,HYl5,by omega,hO5.out,hS5,hT5,hR5,hG5,hb5.out,by omega⟩
   case measure=>simp [intOf];omega
  ·obtain rfl:i=t:=by omega
   have hTab:=XR (T:=T) (by have h:=HTr.out;rw [←HTL2.out] at h;exact h) HRr.out (by rw [HTL2.out];omega) HTF.out
   have hIS:=(Ints.ofOwn HSr.out (by have:=HZZ.out;omega) (fun x hx=>by have:=HSR.out x hx;omega)).2
   have hIG:=(Ints.ofOwn HGr.out (by omega) (fun x hx=>HGF.out.2.2 x hx)).2
   have K:=Qa (yE aS aT aG cS cT cG wr.heap.size Z G T wr hIS hTab hIG (Nat.le_refl _) HCD.out)
   rw [HZZ.out,HTL2.out,HGL2.out] at K
   rw [HZZ.out] at HCP HCE
   rw [HCP.out] at K
   have HOo:=Qa hown
   have HBL:=Qa hbl
   clear hown hbl hTab hIS hIG
   go_wp2_with fail
   refine K.out.mono ?_
   rintro e w3 ⟨v3,rfl,o3,b3⟩
   have hO:=Qd HOo.out b3
   have hb3:=Qc b3 HBL.out.size HBL.out
   have s3:=b3.size
   clear K b3
   go_wp2_with (at_builtin;refine Qj rfl _ _ 61 rfl (w.heap.size+1) 5 i0 (.int .u8 0) 1 Tryz.underlying61 hi hz0 hz1 hz2 rfl _ _ _ rfl hO v3 _ cp (u8s (cpF Z T G z)) rfl o3 ?cf2 ?cf3 ?cf4 ?cf5 ?_)
   case cf2=>exact QC _
   case cf3=>unfold maxLen;omega
   case cf4=>omega
   case cf5=>omega
   intro v5 w5 hown5 hgrow _
   have hb5:=Qa (hb3.grown hgrow hb3.size (fun g hg=>by have:=(hO.lt g hg).1;omega))
   rw [←Qq] at hown5
   have HY5:Hid (Y++cpF Z T G z=QR s m true++symL Z (n0+2) i):=Qa (by rw [HX.out,HY.out,HZZ.out])
   have HYl5:Hid ((Y++cpF Z T G z).length=q+cp):=Qa (by rw [List.length_append,HYl.out,HCE.out])
   have hO5:=Qa hown5
   clear hO hown5 hgrow o3 hb3
   go_wp2
   go_ret
   exact ⟨_,Y++cpF Z T G z,rfl,HY5.out,by rw [HYl5.out];exact Joins.ownsRow_le hO5.out (by omega),by rw [HYl5.out];omega,hb5.out⟩
def va (s:ByteArray) (m:Int) (b:Bool) (t:Int) (Q:List Nat→Prop):Prop:=∀ W:World,
 Calls Tryz.prog 33 #[.string s,.agg #[.int .i64 m,.bool b,.int .i64 t]] W fun e w'=>∃ v X,e=.returned v∧Q X∧w'.ownsRow W.heap.size 5 1 v X.length (u8s X)∧X.length≤1000000∧(∀ b∈X,b<2)∧Below W.heap.size W w'
theorem zz (s:ByteArray) (m t:Int) (b:Bool) (Q:List Nat→Prop) (w:World) (hs:s.size≤1048576) (h:bkOk s m b t=true) (KP:va s m b t Q) :
 Calls Tryz.prog 12 #[.string s,.agg #[.int .i64 m,.bool b,.int .i64 t]] w fun e w'=>∃ X D,Q X∧Packs D X∧e=.returned (.tuple #[.agg #[.string (Qh D),.int .i64 (X.length:Int)],.bool true])∧Below w.heap.size w w':=by
 have KO:=Qa (fun W=>XM s W hs)
 have KW:=Qa (fun W=>YH m t b W)
 have HP:=Qa KP
 obtain ⟨h6,hw⟩:=(yo _ _ _ _).1 h
 rw [hw] at KW
 rw [decide_eq_true h6] at KO
 have bb:Below w.heap.size w ((w.alloc (.cells #[.int .i64 m,.bool b,.int .i64 t] 26)).alloc (.cells #[.string ⟨#[]⟩,.int .i64 0] 32)):=((Below.refl _ _).alloc (Nat.le_refl _) _).alloc (by simp) _
 have hWb:Has ((w.alloc (.cells #[.int .i64 m,.bool b,.int .i64 t] 26)).alloc (.cells #[.string ⟨#[]⟩,.int .i64 0] 32)) w.heap.size 26 #[.int .i64 m,.bool b,.int .i64 t]:=(Has.fresh _ _ _).alloc _
 have hR:Has ((w.alloc (.cells #[.int .i64 m,.bool b,.int .i64 t] 26)).alloc (.cells #[.string ⟨#[]⟩,.int .i64 0] 32)) (w.heap.size+1) 32 #[.string ⟨#[]⟩,.int .i64 0]:=by
  have:=Has.fresh (w.alloc (.cells #[.int .i64 m,.bool b,.int .i64 t] 26)) 32 #[.string ⟨#[]⟩,.int .i64 0]
  simpa using this
 have c0:=hWb.cell 0
 have c1:=hWb.cell 1
 have c2:=hWb.cell 2
 simp at c0 c1 c2
 clear h6 hw h KP
 go_enter Tryz.func12,Tryz.ntmps12
 go_wp2_with fail
 refine (KO.out _).mono ?_
 rintro e w0 ⟨rfl,rfl⟩
 go_wp2_with fail
 refine (KW.out _).mono ?_
 rintro e w1 ⟨rfl,b1⟩
 have B1:=Qc b1 bb.size bb
 have H1:=hWb.below b1 hWb.lt
 have R1:=hR.below b1 hR.lt
 have s1:=B1.size
 clear c0 c1 c2 b1 hWb hR bb KO KW
 have c0:=H1.cell 0
 have c1:=H1.cell 1
 have c2:=H1.cell 2
 simp at c0 c1 c2
 clear H1
 go_wp2_with fail
 refine (HP.out _).mono ?_
 rintro e w2 ⟨v,X,rfl,hQ,hown,hX,hX2,b2⟩
 have B2:=Qc b2 s1 B1
 have R2:=R1.below b2 R1.lt
 have s2:=B2.size
 have K4:=Qa (fun (W:World) v base h=>AKd X hX2 v base W hX h)
 have HQ:=Qa hQ
 obtain ⟨p,hp⟩:∃ p,X.length=p:=⟨_,rfl⟩
 have HPL:=Qa hp
 rw [hp] at K4 hown
 clear c0 c1 c2 b2 R1 hX2 hX hQ hp
 go_wp2_with fail
 refine (K4.out _ _ _ hown).mono ?_
 rintro e w4 ⟨D,hD,rfl,b4⟩
 have B4:=Qc b4 s2 B2
 have R4:=R2.below b4 R2.lt
 have HD:=Qa hD
 have s4:=b4.size
 have e0:=R4.cell 0
 have e1:=R4.cell 1
 have g0:=R4.free 0
 have g1:=R4.free 1
 simp at e0 e1 g0 g1
 clear b4 hown R4 R2 K4 hD
 go_wp2
 refine bodyPost_ret (v:=.tuple #[.agg #[.string (Qh D),.int .i64 (p:Int)],.bool true]) (by simp [results,Tryz.results12,go_sem,e0,e1,g0,g1]) rfl ⟨X,D,HQ.out,HD.out,by rw [HPL.out],?_⟩
 repeat (first | exact Below.refl _ _ | assumption | refine Below.alloc ?_ (by (try simp);(try omega)) _ | refine Below.setCell ?_ (by (try simp);(try omega)) _)
theorem AWo (s:ByteArray):∀ b∈stoL s,b<2:=fun b hb=>by
 have h8:∀ l i,∀ b∈b8F l i,b<2:=by
  intro l i
  induction i with
  | zero=>intro b hb;cases hb
  | succ i ih =>
    intro b hb
    rcases List.mem_append.1 hb with h | h
    ·exact ih b h
    ·exact Xp _ _ b h
 unfold stoL at hb
 rcases List.mem_append.1 hb with h | h
 ·rcases List.mem_append.1 h with h | h
  ·rcases List.mem_append.1 h with h | h
   ·exact Xp _ _ b h
   ·exact ql _ b h
  ·exact Xp _ _ b h
 ·exact h8 _ _ b h
theorem AIu (s:ByteArray) (hs:0<s.size∧s.size≤600):va s 0 false 0 (fun X=>X=stoL s):=fun W=>by
 refine (ADn s W hs).mono ?_
 rintro e w' ⟨v,rfl,hown,hb⟩
 have h1:=AGj s
 have h2:=Zd hs.1 (by omega:s.size≤1048575)
 exact ⟨v,stoL s,rfl,rfl,hown,by omega,AWo s,hb⟩
theorem ABi (s:ByteArray) (m:Nat) (b:Bool):∀ x∈QR s m b,x<2:=fun x hx=>by
 unfold QR at hx
 rcases List.mem_append.1 hx with h | h
 ·rcases List.mem_append.1 h with h | h
  ·rcases List.mem_append.1 h with h | h
   ·rcases List.mem_append.1 h with h | h
    ·rcases List.mem_append.1 h with h | h
     ·exact Xp _ _ x h
     ·exact ql _ x h
    ·exact Xp _ _ x h
   ·exact ql _ x h
  ·exact AJu _ x h
 ·cases b
  ·simp at h;omega
  ·rw [if_pos rfl] at h
   rcases List.mem_append.1 h with h | h
   ·simp at h;omega
   ·exact AZz _ _ x h
theorem ACm (S:List Int):∀ i,∀ x∈Zr S i,x<2
 | 0,x,hx=>by cases hx
 | i+1,x,hx=>by
   rcases List.mem_append.1 hx with h | h
   ·exact ACm S i x h
   ·exact ql _ x h
noncomputable def invL (s:ByteArray) (b:Bool):List Nat:=QR s 3 b++Zr (stgZ s 3 b 0) (stgZ s 3 b 0).length
theorem AEd (s:ByteArray) (b:Bool):∀ x∈invL s b,x<2:=fun x hx=>by
 rcases List.mem_append.1 hx with h | h
 ·exact ABi s 3 b x h
 ·exact ACm _ _ x h
theorem ATx (s:ByteArray) (b:Bool) (hs:0<s.size∧s.size≤600):va s 3 b 0 (fun X=>X=invL s b):=fun W=>by
 cases b
 ·refine (jX s W hs).mono ?_
  rintro e w' ⟨v,X,rfl,hX,hown,hl,hb⟩
  exact ⟨v,X,rfl,hX,hown,hl,by rw [hX];exact AEd s false,hb⟩
 ·refine (vy s W hs).mono ?_
  rintro e w' ⟨v,X,rfl,hX,hown,hl,hb⟩
  exact ⟨v,X,rfl,hX,hown,hl,by rw [hX];exact AEd s true,hb⟩
theorem AXd {m t:Int} {b:Bool} (h:QM m b t=true):(m=0∧b=false∧t=0)∨(m=1∧1≤t∧t≤4)∨(m=2∧1≤t∧t≤4)∨(m=3∧t=0):=by
 simp only [QM,Bool.or_eq_true,Bool.and_eq_true,decide_eq_true_eq,Bool.not_eq_true'] at h
 rcases h with (⟨h1,h2,h3⟩ | ⟨h1 | h1,h2,h3⟩) | ⟨h1,h2⟩
 ·exact .inl ⟨h1,h2,h3⟩
 ·exact .inr (.inl ⟨h1,h2,h3⟩)
 ·exact .inr (.inr (.inl ⟨h1,h2,h3⟩))
 ·exact .inr (.inr (.inr ⟨h1,h2⟩))
noncomputable def tblL (s:ByteArray) (m:Nat) (b:Bool) (t:Nat):List Nat:=QR s m b++symL (stgZ s m b t) ((ordB (Qb s) b).length+2) t
noncomputable def XO (s:ByteArray) (m:Int) (b:Bool) (t:Int):List Nat :=
 if m=0 then stoL s else if m=3 then invL s b else tblL s m.toNat b t.toNat
theorem ALw (s:ByteArray) (b:Bool) (t:Int):XO s 0 b t=stoL s:=by simp [XO]
theorem ALy (s:ByteArray) (b:Bool) (t:Int):XO s 3 b t=invL s b:=by simp [XO]
theorem AKz (s:ByteArray) (b:Bool) (t:Nat):XO s 1 b t=QR s 1 b++symL (stgZ s 1 b t) ((ordB (Qb s) b).length+2) t:=by simp [XO,tblL]
theorem ALl (s:ByteArray) (b:Bool) (t:Nat):XO s 2 b t=QR s 2 b++symL (stgZ s 2 b t) ((ordB (Qb s) b).length+2) t:=by simp [XO,tblL]
theorem AAu (T:List (List Int)):∀ i,∀ x∈ZE T i,x<2
 | 0,x,hx=>by cases hx
 | i+1,x,hx=>by
   rcases List.mem_append.1 hx with h | h
   ·exact AAu T i x h
   ·exact AYw _ _ x h
theorem AUy (Z:List Int) (n t:Nat):∀ x∈symL Z n t,x<2:=fun x hx=>by
 unfold symL at hx
 rcases List.mem_append.1 hx with h | h
 ·rcases List.mem_append.1 h with h | h
  ·rcases List.mem_append.1 h with h | h
   ·rcases List.mem_append.1 h with h | h
    ·exact Xp _ _ x h
    ·exact ql _ x h
   ·exact AUh _ x h
  ·exact AAu _ _ x h
 ·exact APk _ _ _ _ x h
theorem AGr (s:ByteArray) (m:Nat) (b:Bool) (t:Nat):∀ x∈tblL s m b t,x<2:=fun x hx=>by
 rcases List.mem_append.1 hx with h | h
 ·exact ABi s m b x h
 ·exact AUy _ _ _ x h
theorem AFt (s:ByteArray) (m t:Nat) (b:Bool) (hs:0<s.size∧s.size≤600) (hm:m=1∨m=2) (ht1:1≤t) (ht4:t≤4):va s m b t (fun X=>X=tblL s m b t):=fun W=>by
 cases b
 ·refine (jJ s m t W hs hm ht1 ht4).mono ?_
  rintro e w' ⟨v,X,rfl,hX,hown,hl,hb⟩
  exact ⟨v,X,rfl,hX,hown,hl,by rw [hX];exact AGr s m false t,hb⟩
 ·refine (yZ s m t W hs hm ht1 ht4).mono ?_
  rintro e w' ⟨v,X,rfl,hX,hown,hl,hb⟩
  exact ⟨v,X,rfl,hX,hown,hl,by rw [hX];exact AGr s m true t,hb⟩
theorem YE (s:ByteArray) (m t:Int) (b:Bool) (w:World) (h:bkOk s m b t=true) :
 Calls Tryz.prog 12 #[.string s,.agg #[.int .i64 m,.bool b,.int .i64 t]] w fun e w'=>∃ D,Packs D (XO s m b t)∧e=.returned (.tuple #[.agg #[.string (Qh D),.int .i64 ((XO s m b t).length:Int)],.bool true])∧Below w.heap.size w w':=by
 obtain ⟨hs,hw⟩:=(yo _ _ _ _).1 h
 have key:∀ Y,va s m b t (fun X=>X=Y)→Calls Tryz.prog 12 #[.string s,.agg #[.int .i64 m,.bool b,.int .i64 t]] w fun e w'=>∃ D,Packs D Y∧e=.returned (.tuple #[.agg #[.string (Qh D),.int .i64 (Y.length:Int)],.bool true])∧Below w.heap.size w w':=fun Y hP =>
  (zz s m t b _ w (by omega) h hP).mono (by rintro e w' ⟨X,D,rfl,hD,rfl,hb⟩;exact ⟨D,hD,rfl,hb⟩)
 rcases AXd hw with ⟨rfl,rfl,rfl⟩ | ⟨rfl,h1,h4⟩ | ⟨rfl,h1,h4⟩ | ⟨rfl,rfl⟩
 ·rw [ALw];exact key _ (AIu s hs)
 ·obtain ⟨k,rfl⟩:∃ k:Nat,t=k:=⟨t.toNat,by omega⟩
  rw [AKz];exact key _ (AFt s 1 k b hs (.inl rfl) (by omega) (by omega))
 ·obtain ⟨k,rfl⟩:∃ k:Nat,t=k:=⟨t.toNat,by omega⟩
  rw [ALl];exact key _ (AFt s 2 k b hs (.inr rfl) (by omega) (by omega))
 ·rw [ALy];exact key _ (ATx s b hs)
end Go.Proofs.YtembljihmnmmfaaGreat
