/- Texts of the proof, merged. -/
import Derived.Test.YtembljihmnmmfaaGreatKB41
import Derived.Test.YtembljihmnmmfaaGreatKB42
import Derived.Test.YtembljihmnmmfaaGreatKB6
import Derived.Test.YtembljihmnmmfaaGreatKB8
import Derived.Test.YtembljihmnmmfaaGreatKB24
import Derived.Test.YtembljihmnmmfaaGreatKB36
import Derived.Test.YtembljihmnmmfaaGreatKB14
import Derived.Test.YtembljihmnmmfaaGreatKB3
namespace Go.Proofs.YtembljihmnmmfaaGreat
set_option maxHeartbeats 8000000
set_option maxRecDepth 100000
set_option linter.unusedVariables false
set_option linter.unusedSimpArgs false
open Go.RowKit
def stoL (s:ByteArray):List Nat:=Qh 0 2++gamL s.size++Qh (crcN s) 32++b8F (Qb s) s.size
theorem AVd (s:ByteArray):(stoL s).length=2+(gamL s.size).length+32+8*s.size:=by
 unfold stoL
 rw [List.length_append,List.length_append,List.length_append,Qt,Qt,AAd]
theorem QY {n:Nat} (h1:1≤n) (h2:n≤1048575):(gamL n).length≤40:=by rw [jQ];have:=Yp h1 h2;omega
def Zd (S:List Int):Nat→List Nat
 | 0=>[]
 | i+1=>Zd S i++gamL ((S.getD i 0).toNat+1)
noncomputable def QP (s:ByteArray) (m:Nat) (b:Bool):List Nat :=
 Qh m 2++gamL s.size++Qh (crcN s) 32++gamL ((fstZ s).toNat+1)++Qr (Qm (Qb s))++(if b=true then [1]++putO (Qm (Qb s)) (ordB (Qb s) b) else [0])
def ZS (T:List (List Int)):Nat→List Nat
 | 0=>[]
 | i+1=>ZS T i++put5 (T.getD i [])
noncomputable def symL (Z:List Int) (n t:Nat):List Nat :=
 Qh (t-1) 2++gamL (sel2 Z n t).length++unaL (mtfD (sel2 Z n t) t)++ZS (tab2 Z n t) t++cpF Z (tab2 Z n t) (sel2 Z n t) Z.length
theorem jH {S:List Int} {n k:Nat} (hk1:1≤k) (hk:k≤4) (hS:S.length≤2000):rOk (sel2 S n k) k=true:=by
 have hl:=XC S n k 2
 rw [Xd] at hl
 rw [Jc,hl]
 refine ⟨by omega,by omega,by unfold grp;omega,fun x hx=>?_⟩
 exact YB (S:=S) (n:=n) hk1 2 x (by rw [Xd];exact hx)
noncomputable def invL (s:ByteArray) (b:Bool):List Nat:=QP s 3 b++Zd (stgZ s 3 b 0) (stgZ s 3 b 0).length
theorem JB {x:Int} (h1:0≤x) (h2:x≤1000000):IntKind.i64.wrap x=x:=by rw [IntKind.wrap_i64];omega
theorem AAi (s:ByteArray) (w:World) (hs:0<s.size∧s.size≤600) :
 Calls Tryz.prog 45 #[.string s,.agg #[.int .i64 0,.bool false,.int .i64 0]] w fun e w'=>e=.returned (.int .i64 ((stoL s).length:Int))∧Below w.heap.size w w':=by
 have hg40:=QY hs.1 (by omega:s.size≤1048575)
 have K2:=Qa (fun W=>QE (s.size:Int) W)
 rw [ZG hs.1 (by omega)] at K2
 have hll:=AVd s
 obtain ⟨g,hg⟩:∃ g,(gamL s.size).length=g:=⟨_,rfl⟩
 obtain ⟨p,hp⟩:∃ p,(stoL s).length=p:=⟨_,rfl⟩
 rw [hg] at K2 hg40 hll
 rw [hp] at hll ⊢
 obtain ⟨wi,hwe⟩:∃ wi,wi=w.alloc (.cells #[.int .i64 0,.bool false,.int .i64 0] 26):=⟨_,rfl⟩
 have hwi:wi.heap.size=w.heap.size+1:=by rw [hwe];simp
 have Bi:Below w.heap.size w wi:=by rw [hwe];exact (Below.refl _ _).alloc (Nat.le_refl _) _
 have HB0:Has wi w.heap.size 26 #[.int .i64 0,.bool false,.int .i64 0]:=by rw [hwe];exact Has.fresh _ _ _
 clear hg hp
 go_enter Tryz.func45,Tryz.ntmps45
 go_wp2_with fail
 rw [←hwe]
 refine (K2.out wi).mono ?_
 rintro e w1 ⟨rfl,b1⟩
 have B1:=Qc b1 Bi.size Bi
 have HB1:=HB0.below b1 HB0.lt
 have c0:=HB1.cell 0
 simp at c0
 clear b1 HB0 HB1 hwe K2
 go_wp2
 go_ret
 refine ⟨?_,B1⟩
 congr 2
 go_num
theorem xT (s:ByteArray) (w:World) (hs:0<s.size∧s.size≤600) :
 Calls Tryz.prog 45 #[.string s,.agg #[.int .i64 3,.bool false,.int .i64 0]] w fun e w'=>e=.returned (.int .i64 ((QP s 3 false++Zd (stgZ s 3 false 0) (stgZ s 3 false 0).length).length:Int))∧Below w.heap.size w w':=by
 have hg40:=QY hs.1 (by omega:s.size≤1048575)
 obtain ⟨f,hf,hf6⟩:=qp hs
 have hgf40:(gamL (f+1)).length≤40:=QY (by omega) (by omega)
 have hU:=qa hs.1
 have hUb:=Xk (Qb s)
 have hu272:=ZK (Qm (Qb s))
 have K2:=Qa (fun W=>QE (s.size:Int) W)
 rw [ZG hs.1 (by omega)] at K2
 have K5:=Qa (fun W=>XP s W (by omega))
 have K6:=Qa (fun W=>XV s 3 0 false W (by omega))
 have K7:=Qa (fun W=>QE ((f+1:Nat):Int) W)
 rw [ZG (by omega) (by omega)] at K7
 have K8:=Qa (fun W=>Xb s W (by omega))
 have K9:=Qa (fun W=>by
  have h:=VB (Qg (Qm (Qb s))) W (by rw [QB];have:=QK hUb (ZB (Qb s));omega) (by rw [QI hUb];exact hU)
  rw [QI hUb] at h
  exact h)
 have K11:=Qa (fun W=>Jl s 3 0 false W (by omega))
 have HSB:=Qa (JZ s 3 false 0)
 have HTL:Hid ((QP s 3 false).length=2+(gamL s.size).length+32+(gamL (f+1)).length+(Qr (Qm (Qb s))).length+1):=Qa (by unfold QP;rw [hf,Int.toNat_natCast];simp only [List.length_append,Qt];simp)
 have HOO:Hid (QO (Qb s) (ordB (Qb s) false)∨ordB (Qb s) false=Qm (Qb s)→ZA (ordB (Qb s) false)=true∧Qm (ordB (Qb s) false)=Qm (Qb s)):=Qa (fun h=>by
  obtain ⟨h1,_,_,_,_,h6⟩:=Vl (Ja hs.1) (QA s) h
  exact ⟨h1,h6⟩)
 have HGS:Hid (∀ i,Zd (stgZ s 3 false 0) (i+1)=Zd (stgZ s 3 false 0) i++gamL (((stgZ s 3 false 0).getD i 0).toNat+1)):=Qa (fun i=>rfl)
 have HXL:Hid ((QP s 3 false++Zd (stgZ s 3 false 0) (stgZ s 3 false 0).length).length=(QP s 3 false).length+(Zd (stgZ s 3 false 0) (stgZ s 3 false 0).length).length):=Qa (List.length_append ..)
 obtain ⟨g,hg⟩:∃ g,(gamL s.size).length=g:=⟨_,rfl⟩
 obtain ⟨gf,hgf⟩:∃ gf,(gamL (f+1)).length=gf:=⟨_,rfl⟩
 obtain ⟨ub,hub⟩:∃ ub,(Qr (Qm (Qb s))).length=ub:=⟨_,rfl⟩
 obtain ⟨tl,htl⟩:∃ tl,(QP s 3 false).length=tl:=⟨_,rfl⟩
 obtain ⟨Z,hZ⟩:∃ Z,stgZ s 3 false 0=Z:=⟨_,rfl⟩
 obtain ⟨O,hOe⟩:∃ O,ordB (Qb s) false=O:=⟨_,rfl⟩
 obtain ⟨n0,hn0⟩:∃ n0,O.length=n0:=⟨_,rfl⟩
 have hzO:(Qg O).size=n0:=by rw [QB,hn0]
 obtain ⟨z,hz⟩:∃ z,Z.length=z:=⟨_,rfl⟩
 rw [hg] at K2 hg40 HTL
 rw [hgf] at K7 hgf40 HTL
 rw [hub] at K9 hu272 HTL
 rw [hf] at K5
 rw [hZ,hz] at K11 HSB
 rw [hOe] at K6 HOO
 rw [hn0] at K6
 have HZZ:=Qa hz
 rw [show ((f+1:Nat):Int)=(f:Int)+1 by omega] at K7
 rw [htl] at HTL
 rw [hZ,hz] at HXL ⊢
 rw [hZ] at HGS
 rw [htl] at HXL
 rw [HXL.out]
 obtain ⟨wi,hwe⟩:∃ wi,wi=w.alloc (.cells #[.int .i64 3,.bool false,.int .i64 0] 26):=⟨_,rfl⟩
 have hwi:wi.heap.size=w.heap.size+1:=by rw [hwe];simp
 have Bi:Below w.heap.size w wi:=by rw [hwe];exact (Below.refl _ _).alloc (Nat.le_refl _) _
 have HB0:Hid (Has wi w.heap.size 26 #[.int .i64 3,.bool false,.int .i64 0]):=Qa (by rw [hwe];exact Has.fresh _ _ _)
 clear hg hgf hub hf hU hUb hZ hz hOe hn0 htl
 go_enter Tryz.func45,Tryz.ntmps45
 go_wp2_with fail
 rw [←hwe]
 refine (K2.out wi).mono ?_
 rintro e w1 ⟨rfl,b1⟩
 have B1:=Qc b1 Bi.size Bi
 have s1:=b1.size
 have HB1:=Qa (HB0.out.below b1 HB0.out.lt)
 clear b1 HB0 hwe
 have c0:=HB1.out.cell 0
 have c1:=HB1.out.cell 1
 have c2:=HB1.out.cell 2
 simp at c0 c1 c2
 go_wp2_with fail
 refine (K5.out _).mono ?_
 rintro e w2 ⟨rfl,b2⟩
 have B2:=Qc b2 B1.size B1
 have s2:=b2.size
 have HB2:=Qa (HB1.out.below b2 HB1.out.lt)
 clear b2 c0 c1 c2 HB1
 have c0:=HB2.out.cell 0
 have c1:=HB2.out.cell 1
 have c2:=HB2.out.cell 2
 simp at c0 c1 c2
 go_wp2_with fail
 refine (K6.out _).mono ?_
 rintro e w3 ⟨rfl,hB3,hO3,hR3,b3⟩
 have B3:=Qc b3 B2.size B2
 have s3:=b3.size
 have HB3:=Qa (HB2.out.below b3 HB2.out.lt)
 clear b3 c0 c1 c2 HB2
 have c0:=HB3.out.cell 0
 have c1:=HB3.out.cell 1
 have c2:=HB3.out.cell 2
 simp at c0 c1 c2
 go_wp2_with fail
 refine (K7.out _).mono ?_
 rintro e w4 ⟨rfl,b4⟩
 have B4:=Qc b4 B3.size B3
 have s4:=b4.size
 have HB4:=Qa (HB3.out.below b4 HB3.out.lt)
 clear b4 c0 c1 c2 HB3
 have c0:=HB4.out.cell 0
 have c1:=HB4.out.cell 1
 have c2:=HB4.out.cell 2
 simp at c0 c1 c2
 go_wp2_with fail
 refine (K8.out _).mono ?_
 rintro e w5 ⟨rfl,b5⟩
 have B5:=Qc b5 B4.size B4
 have s5:=b5.size
 have HB5:=Qa (HB4.out.below b5 HB4.out.lt)
 clear b5 c0 c1 c2 HB4
 have c0:=HB5.out.cell 0
 have c1:=HB5.out.cell 1
 have c2:=HB5.out.cell 2
 simp at c0 c1 c2
 go_wp2_with fail
 refine (K9.out _).mono ?_
 rintro e w6 ⟨v6,rfl,o6,b6⟩
 have B6:=Qc b6 B5.size B5
 have s6:=b6.size
 have HB6:=Qa (HB5.out.below b6 HB5.out.lt)
 clear b6 c0 c1 c2 HB5
 have c0:=HB6.out.cell 0
 have c1:=HB6.out.cell 1
 have c2:=HB6.out.cell 2
 simp at c0 c1 c2
 obtain ⟨aU,cU,rfl⟩:=Qq o6
 clear o6
 have htl:=HTL.out
 go_wp2_with fail
 refine (K11.out _).mono ?_
 rintro e w7 ⟨v7,rfl,oS,b7⟩
 have B7:=Qc b7 B6.size B6
 have s7:=b7.size
 have HB7:=Qa (HB6.out.below b7 HB6.out.lt)
 clear b7 c0 c1 c2 HB6
 have c0:=HB7.out.cell 0
 have c1:=HB7.out.cell 1
 have c2:=HB7.out.cell 2
 simp at c0 c1 c2
 have HS7:=Qa oS
 obtain ⟨aS,cS,rfl⟩:=Qq HS7.out
 clear oS K2 K5 K6 K7 K8 K9 K11
 have hsx:=HSB.out
 go_wp2
 go_loopw [5,10] (fun vn si wr=>∃ (i q:Nat),i≤z∧si=.int .i64 i∧Hid ((Zd Z i).length=q)∧q≤40*i∧vn=.int .i64 ((tl+q:Nat):Int)∧Hid (wr.ownsRow w6.heap.size 3 1 (.slice aS z cS) z (Qo Z))∧Below w.heap.size w wr) (fun _ si _=>z-(intOf si).toNat)
 case atStart=>exact ⟨0,0,Nat.zero_le _,rfl,Qa rfl,by omega,by go_num,HS7,B7⟩
 case round =>
  obtain ⟨i,q,hi2,rfl,HQ,hq,rfl,HSr,hbl⟩:=hrel
  by_cases hlt:i<z
  ·obtain ⟨gS,cS2,hgS⟩:=Joins.ownsRow_form HSr.out (by omega)
   simp only [Value.slice.injEq] at hgS
   obtain ⟨rfl,_,rfl⟩:=hgS
   have d0:=HSr.out.cellAt i (by omega)
   rw [Xv Z i (by rw [HZZ.out];exact hlt)] at d0
   have hy:=hsx.2 _ (XA (by rw [HZZ.out];exact hlt:i<Z.length))
   obtain ⟨y,hye⟩:∃ y:Nat,Z.getD i 0=(y:Int):=⟨(Z.getD i 0).toNat,by omega⟩
   have hgs:=HGS.out i
   rw [hye] at d0 hy hgs
   rw [Int.toNat_natCast] at hgs
   have K:=Qa (fun W=>QE ((y+1:Nat):Int) W)
   rw [ZG (by omega) (by omega)] at K
   rw [show ((y+1:Nat):Int)=(y:Int)+1 by omega] at K
   have hl40:=QY (n:=y+1) (by omega) (by omega)
   obtain ⟨gl,hgl⟩:∃ gl,(gamL (y+1)).length=gl:=⟨_,rfl⟩
   rw [hgl] at K hl40
   have HQ2:Hid ((Zd Z (i+1)).length=q+gl):=Qa (by rw [hgs,List.length_append,HQ.out,hgl])
   have HBL:=Qa hbl
   clear hgs hye hgl hbl
   go_wp2_with fail
   refine (K.out _).mono ?_
   rintro e w3 ⟨rfl,b3⟩
   have hS3:=Qa (Ql HSr.out b3)
   have hb3:=Qa (Qc b3 HBL.out.size HBL.out)
   clear K b3 d0
   go_wp2
   go_roundw
   case rel=>exact ⟨i+1,q+gl,by omega,by go_num,HQ2,by omega,by go_num,hS3,hb3.out⟩
   case measure=>simp [intOf];omega
  ·obtain rfl:i=z:=by omega
   have HBL:=Qa hbl
   clear hbl
   go_wp2
   go_ret
   exact ⟨by rw [HQ.out];rfl,HBL.out⟩
theorem jC (s:ByteArray) (w:World) (hs:0<s.size∧s.size≤600) :
 Calls Tryz.prog 45 #[.string s,.agg #[.int .i64 3,.bool true,.int .i64 0]] w fun e w'=>e=.returned (.int .i64 ((QP s 3 true++Zd (stgZ s 3 true 0) (stgZ s 3 true 0).length).length:Int))∧Below w.heap.size w w':=by
 have hg40:=QY hs.1 (by omega:s.size≤1048575)
 obtain ⟨f,hf,hf6⟩:=qp hs
 have hgf40:(gamL (f+1)).length≤40:=QY (by omega) (by omega)
 have hU:=qa hs.1
 have hUb:=Xk (Qb s)
 have hu272:=ZK (Qm (Qb s))
 have K2:=Qa (fun W=>QE (s.size:Int) W)
 rw [ZG hs.1 (by omega)] at K2
 have K5:=Qa (fun W=>XP s W (by omega))
 have K6:=Qa (fun W=>XV s 3 0 true W (by omega))
 have K7:=Qa (fun W=>QE ((f+1:Nat):Int) W)
 rw [ZG (by omega) (by omega)] at K7
 have K8:=Qa (fun W=>Xb s W (by omega))
 have K9:=Qa (fun W=>by
  have h:=VB (Qg (Qm (Qb s))) W (by rw [QB];have:=QK hUb (ZB (Qb s));omega) (by rw [QI hUb];exact hU)
  rw [QI hUb] at h
  exact h)
 have K11:=Qa (fun W=>Jl s 3 0 true W (by omega))
 have HSB:=Qa (JZ s 3 true 0)
 have HTL:Hid ((QP s 3 true).length=2+(gamL s.size).length+32+(gamL (f+1)).length+(Qr (Qm (Qb s))).length+1+(putO (Qm (Qb s)) (ordB (Qb s) true)).length):=Qa (by unfold QP;rw [hf,Int.toNat_natCast];simp only [List.length_append,Qt];simp;omega)
 have HOO:Hid (QO (Qb s) (ordB (Qb s) true)∨ordB (Qb s) true=Qm (Qb s)→ZA (ordB (Qb s) true)=true∧Qm (ordB (Qb s) true)=Qm (Qb s)):=Qa (fun h=>by
  obtain ⟨h1,_,_,_,_,h6⟩:=Vl (Ja hs.1) (QA s) h
  exact ⟨h1,h6⟩)
 have HGS:Hid (∀ i,Zd (stgZ s 3 true 0) (i+1)=Zd (stgZ s 3 true 0) i++gamL (((stgZ s 3 true 0).getD i 0).toNat+1)):=Qa (fun i=>rfl)
 have HXL:Hid ((QP s 3 true++Zd (stgZ s 3 true 0) (stgZ s 3 true 0).length).length=(QP s 3 true).length+(Zd (stgZ s 3 true 0) (stgZ s 3 true 0).length).length):=Qa (List.length_append ..)
 have K10:=Qa (fun W (h1:Byt (ordB (Qb s) true)) (h2:ZA (ordB (Qb s) true)=true∧Qm (ordB (Qb s) true)=Qm (Qb s))=>by
  have h:=jv (Qg (ordB (Qb s) true)) W (by rw [QI h1];exact h2.1)
  rw [QI h1,h2.2] at h
  exact h)
 have HPL:=Qa (fun (h:(ordB (Qb s) true).length≤256)=>Vh (Qm (Qb s)) (ordB (Qb s) true) (QK hUb (ZB (Qb s))))
 obtain ⟨g,hg⟩:∃ g,(gamL s.size).length=g:=⟨_,rfl⟩
 obtain ⟨gf,hgf⟩:∃ gf,(gamL (f+1)).length=gf:=⟨_,rfl⟩
 obtain ⟨ub,hub⟩:∃ ub,(Qr (Qm (Qb s))).length=ub:=⟨_,rfl⟩
 obtain ⟨tl,htl⟩:∃ tl,(QP s 3 true).length=tl:=⟨_,rfl⟩
 obtain ⟨Z,hZ⟩:∃ Z,stgZ s 3 true 0=Z:=⟨_,rfl⟩
 obtain ⟨O,hOe⟩:∃ O,ordB (Qb s) true=O:=⟨_,rfl⟩
 obtain ⟨n0,hn0⟩:∃ n0,O.length=n0:=⟨_,rfl⟩
 have hzO:(Qg O).size=n0:=by rw [QB,hn0]
 obtain ⟨z,hz⟩:∃ z,Z.length=z:=⟨_,rfl⟩
 rw [hg] at K2 hg40 HTL
 rw [hgf] at K7 hgf40 HTL
 rw [hub] at K9 hu272 HTL
 rw [hf] at K5
 rw [hZ,hz] at K11 HSB
 rw [hOe] at K6 HOO K10 HPL
 rw [hn0] at K6 HPL
 have HZZ:=Qa hz
 rw [show ((f+1:Nat):Int)=(f:Int)+1 by omega] at K7
 rw [hOe] at HTL
 rw [htl] at HTL
 rw [hZ,hz] at HXL ⊢
 rw [hZ] at HGS
 rw [htl] at HXL
 rw [HXL.out]
 obtain ⟨wi,hwe⟩:∃ wi,wi=w.alloc (.cells #[.int .i64 3,.bool true,.int .i64 0] 26):=⟨_,rfl⟩
 have hwi:wi.heap.size=w.heap.size+1:=by rw [hwe];simp
 have Bi:Below w.heap.size w wi:=by rw [hwe];exact (Below.refl _ _).alloc (Nat.le_refl _) _
 have HB0:Hid (Has wi w.heap.size 26 #[.int .i64 3,.bool true,.int .i64 0]):=Qa (by rw [hwe];exact Has.fresh _ _ _)
 clear hg hgf hub hf hU hUb hZ hz hOe hn0 htl
 go_enter Tryz.func45,Tryz.ntmps45
 go_wp2_with fail
 rw [←hwe]
 refine (K2.out wi).mono ?_
 rintro e w1 ⟨rfl,b1⟩
 have B1:=Qc b1 Bi.size Bi
 have s1:=b1.size
 have HB1:=Qa (HB0.out.below b1 HB0.out.lt)
 clear b1 HB0 hwe
 have c0:=HB1.out.cell 0
 have c1:=HB1.out.cell 1
 have c2:=HB1.out.cell 2
 simp at c0 c1 c2
 go_wp2_with fail
 refine (K5.out _).mono ?_
 rintro e w2 ⟨rfl,b2⟩
 have B2:=Qc b2 B1.size B1
 have s2:=b2.size
 have HB2:=Qa (HB1.out.below b2 HB1.out.lt)
 clear b2 c0 c1 c2 HB1
 have c0:=HB2.out.cell 0
 have c1:=HB2.out.cell 1
 have c2:=HB2.out.cell 2
 simp at c0 c1 c2
 go_wp2_with fail
 refine (K6.out _).mono ?_
 rintro e w3 ⟨rfl,hB3,hO3,hR3,b3⟩
 have B3:=Qc b3 B2.size B2
 have s3:=b3.size
 have HB3:=Qa (HB2.out.below b3 HB2.out.lt)
 clear b3 c0 c1 c2 HB2
 have c0:=HB3.out.cell 0
 have c1:=HB3.out.cell 1
 have c2:=HB3.out.cell 2
 simp at c0 c1 c2
 go_wp2_with fail
 refine (K7.out _).mono ?_
 rintro e w4 ⟨rfl,b4⟩
 have B4:=Qc b4 B3.size B3
 have s4:=b4.size
 have HB4:=Qa (HB3.out.below b4 HB3.out.lt)
 clear b4 c0 c1 c2 HB3
 have c0:=HB4.out.cell 0
 have c1:=HB4.out.cell 1
 have c2:=HB4.out.cell 2
 simp at c0 c1 c2
 go_wp2_with fail
 refine (K8.out _).mono ?_
 rintro e w5 ⟨rfl,b5⟩
 have B5:=Qc b5 B4.size B4
 have s5:=b5.size
 have HB5:=Qa (HB4.out.below b5 HB4.out.lt)
 clear b5 c0 c1 c2 HB4
 have c0:=HB5.out.cell 0
 have c1:=HB5.out.cell 1
 have c2:=HB5.out.cell 2
 simp at c0 c1 c2
 go_wp2_with fail
 refine (K9.out _).mono ?_
 rintro e w6 ⟨v6,rfl,o6,b6⟩
 have B6:=Qc b6 B5.size B5
 have s6:=b6.size
 have HB6:=Qa (HB5.out.below b6 HB5.out.lt)
 clear b6 c0 c1 c2 HB5
 have c0:=HB6.out.cell 0
 have c1:=HB6.out.cell 1
 have c2:=HB6.out.cell 2
 simp at c0 c1 c2
 obtain ⟨aU,cU,rfl⟩:=Qq o6
 clear o6
 have hpl:=HPL.out hO3
 obtain ⟨pl,hpe⟩:∃ pl,(putO (Qm (Qb s)) O).length=pl:=⟨_,rfl⟩
 have K10b:=Qa (fun W=>K10.out W hB3 (HOO.out hR3.out))
 rw [hpe] at K10b hpl HTL
 clear hpe K10 HPL
 go_wp2_with fail
 refine (K10b.out _).mono ?_
 rintro e w7 ⟨v7,rfl,o7,b7⟩
 have B7:=Qc b7 B6.size B6
 have s7:=b7.size
 have HB7:=Qa (HB6.out.below b7 HB6.out.lt)
 clear b7 c0 c1 c2 HB6
 have c0:=HB7.out.cell 0
 have c1:=HB7.out.cell 1
 have c2:=HB7.out.cell 2
 simp at c0 c1 c2
 obtain ⟨aP,cP,rfl⟩:=Qq o7
 clear o7
 have htl:=HTL.out
 go_wp2_with fail
 refine (K11.out _).mono ?_
 rintro e w8 ⟨v8,rfl,oS,b8⟩
 have B8:=Qc b8 B7.size B7
 have s8:=b8.size
 have HB8:=Qa (HB7.out.below b8 HB7.out.lt)
 clear b8 c0 c1 c2 HB7
 have c0:=HB8.out.cell 0
 have c1:=HB8.out.cell 1
 have c2:=HB8.out.cell 2
 simp at c0 c1 c2
 have HS8:=Qa oS
 obtain ⟨aS,cS,rfl⟩:=Qq HS8.out
 clear oS K2 K5 K6 K7 K8 K9 K11
 have hsx:=HSB.out
 go_wp2
 go_loopw [5,10] (fun vn si wr=>∃ (i q:Nat),i≤z∧si=.int .i64 i∧Hid ((Zd Z i).length=q)∧q≤40*i∧vn=.int .i64 ((tl+q:Nat):Int)∧Hid (wr.ownsRow w7.heap.size 3 1 (.slice aS z cS) z (Qo Z))∧Below w.heap.size w wr) (fun _ si _=>z-(intOf si).toNat)
 case atStart=>exact ⟨0,0,Nat.zero_le _,rfl,Qa rfl,by omega,by go_num,HS8,B8⟩
 case round =>
  obtain ⟨i,q,hi2,rfl,HQ,hq,rfl,HSr,hbl⟩:=hrel
  by_cases hlt:i<z
  ·obtain ⟨gS,cS2,hgS⟩:=Joins.ownsRow_form HSr.out (by omega)
   simp only [Value.slice.injEq] at hgS
   obtain ⟨rfl,_,rfl⟩:=hgS
   have d0:=HSr.out.cellAt i (by omega)
   rw [Xv Z i (by rw [HZZ.out];exact hlt)] at d0
   have hy:=hsx.2 _ (XA (by rw [HZZ.out];exact hlt:i<Z.length))
   obtain ⟨y,hye⟩:∃ y:Nat,Z.getD i 0=(y:Int):=⟨(Z.getD i 0).toNat,by omega⟩
   have hgs:=HGS.out i
   rw [hye] at d0 hy hgs
   rw [Int.toNat_natCast] at hgs
   have K:=Qa (fun W=>QE ((y+1:Nat):Int) W)
   rw [ZG (by omega) (by omega)] at K
   rw [show ((y+1:Nat):Int)=(y:Int)+1 by omega] at K
   have hl40:=QY (n:=y+1) (by omega) (by omega)
   obtain ⟨gl,hgl⟩:∃ gl,(gamL (y+1)).length=gl:=⟨_,rfl⟩
   rw [hgl] at K hl40
   have HQ2:Hid ((Zd Z (i+1)).length=q+gl):=Qa (by rw [hgs,List.length_append,HQ.out,hgl])
   have HBL:=Qa hbl
   clear hgs hye hgl hbl
   go_wp2_with fail
   refine (K.out _).mono ?_
   rintro e w3 ⟨rfl,b3⟩
   have hS3:=Qa (Ql HSr.out b3)
   have hb3:=Qa (Qc b3 HBL.out.size HBL.out)
   clear K b3 d0
   go_wp2
   go_roundw
   case rel=>exact ⟨i+1,q+gl,by omega,by go_num,HQ2,by omega,by go_num,hS3,hb3.out⟩
   case measure=>simp [intOf];omega
  ·obtain rfl:i=z:=by omega
   have HBL:=Qa hbl
   clear hbl
   go_wp2
   go_ret
   exact ⟨by rw [HQ.out];rfl,HBL.out⟩
theorem Yx (s:ByteArray) (m t:Nat) (w:World) (hs:0<s.size∧s.size≤600) (hm:m=1∨m=2) (ht1:1≤t) (ht4:t≤4) :
 Calls Tryz.prog 45 #[.string s,.agg #[.int .i64 m,.bool false,.int .i64 t]] w fun e w'=>e=.returned (.int .i64 ((QP s m false++symL (stgZ s m false t) ((ordB (Qb s) false).length+2) t).length:Int))∧Below w.heap.size w w':=by
 have hg40:=QY hs.1 (by omega:s.size≤1048575)
 obtain ⟨f,hf,hf6⟩:=qp hs
 have hgf40:(gamL (f+1)).length≤40:=QY (by omega) (by omega)
 have hU:=qa hs.1
 have hUb:=Xk (Qb s)
 have hu272:=ZK (Qm (Qb s))
 have K2:=Qa (fun W=>QE (s.size:Int) W)
 rw [ZG hs.1 (by omega)] at K2
 have K5:=Qa (fun W=>XP s W (by omega))
 have K6:=Qa (fun W=>XV s m t false W (by omega))
 have K7:=Qa (fun W=>QE ((f+1:Nat):Int) W)
 rw [ZG (by omega) (by omega)] at K7
 have K8:=Qa (fun W=>Xb s W (by omega))
 have K9:=Qa (fun W=>by
  have h:=VB (Qg (Qm (Qb s))) W (by rw [QB];have:=QK hUb (ZB (Qb s));omega) (by rw [QI hUb];exact hU)
  rw [QI hUb] at h
  exact h)
 have K11:=Qa (fun W=>Jl s m t false W (by omega))
 have HSB:=Qa (JZ s m false t)
 have HTL:Hid ((QP s m false).length=2+(gamL s.size).length+32+(gamL (f+1)).length+(Qr (Qm (Qb s))).length+1):=Qa (by unfold QP;rw [hf,Int.toNat_natCast];simp only [List.length_append,Qt];simp)
 have HOO:Hid (QO (Qb s) (ordB (Qb s) false)∨ordB (Qb s) false=Qm (Qb s)→ZA (ordB (Qb s) false)=true∧Qm (ordB (Qb s) false)=Qm (Qb s)):=Qa (fun h=>by
  obtain ⟨h1,_,_,_,_,h6⟩:=Vl (Ja hs.1) (QA s) h
  exact ⟨h1,h6⟩)
 have HROW:Hid (QO (Qb s) (ordB (Qb s) false)∨ordB (Qb s) false=Qm (Qb s)→rowB (stgZ s m false t) (((ordB (Qb s) false).length+2:Nat):Int)=true∧1≤(stgZ s m false t).length):=Qa (fun h=>by
  have hw:QH m false t=true:=by rcases hm with rfl | rfl <;> simp [QH] <;> omega
  have e:stgZ s m false t=stgR (rkS s (ordB (Qb s) false)) m ((ordB (Qb s) false).length:Int):=by unfold stgZ;rw [if_pos ⟨hs.1,hs.2,hw⟩]
  rw [e]
  exact jA (qF hs h).1 m (by omega))
 have hm0:((m:Int) == 0)=false:=beq_eq_false_iff_ne.2 (by omega)
 have hm3:((m:Int) == 3)=false:=beq_eq_false_iff_ne.2 (by omega)
 obtain ⟨g,hg⟩:∃ g,(gamL s.size).length=g:=⟨_,rfl⟩
 obtain ⟨gf,hgf⟩:∃ gf,(gamL (f+1)).length=gf:=⟨_,rfl⟩
 obtain ⟨ub,hub⟩:∃ ub,(Qr (Qm (Qb s))).length=ub:=⟨_,rfl⟩
 obtain ⟨tl,htl⟩:∃ tl,(QP s m false).length=tl:=⟨_,rfl⟩
 obtain ⟨Z,hZ⟩:∃ Z,stgZ s m false t=Z:=⟨_,rfl⟩
 obtain ⟨O,hOe⟩:∃ O,ordB (Qb s) false=O:=⟨_,rfl⟩
 obtain ⟨n0,hn0⟩:∃ n0,O.length=n0:=⟨_,rfl⟩
 have hzO:(Qg O).size=n0:=by rw [QB,hn0]
 obtain ⟨z,hz⟩:∃ z,Z.length=z:=⟨_,rfl⟩
 rw [hg] at K2 hg40 HTL
 rw [hgf] at K7 hgf40 HTL
 rw [hub] at K9 hu272 HTL
 rw [hf] at K5
 rw [hZ,hz] at K11 HSB
 rw [hOe] at K6 HOO
 rw [hn0] at K6
 have HZZ:=Qa hz
 rw [show ((f+1:Nat):Int)=(f:Int)+1 by omega] at K7
 rw [htl] at HTL
 rw [hZ,hOe,hn0] at HROW
 rw [hZ,hOe,hn0]
 have HCL:Hid (rowB Z ((n0+2:Nat):Int)=true→cdOk Z (tab2 Z (n0+2) t) (sel2 Z (n0+2) t)=true):=Qa (fun h=>AFz h ht1 ht4)
 rw [List.length_append,htl]
 obtain ⟨wi,hwe⟩:∃ wi,wi=w.alloc (.cells #[.int .i64 m,.bool false,.int .i64 t] 26):=⟨_,rfl⟩
 have hwi:wi.heap.size=w.heap.size+1:=by rw [hwe];simp
 have Bi:Below w.heap.size w wi:=by rw [hwe];exact (Below.refl _ _).alloc (Nat.le_refl _) _
 have HB0:Hid (Has wi w.heap.size 26 #[.int .i64 m,.bool false,.int .i64 t]):=Qa (by rw [hwe];exact Has.fresh _ _ _)
 clear hg hgf hub hf hU hUb hZ hz hOe hn0 htl
 go_enter Tryz.func45,Tryz.ntmps45
 go_wp2_with fail
 rw [←hwe]
 refine (K2.out wi).mono ?_
 rintro e w1 ⟨rfl,b1⟩
 have B1:=Qc b1 Bi.size Bi
 have s1:=b1.size
 have HB1:=Qa (HB0.out.below b1 HB0.out.lt)
 clear b1 HB0 hwe
 have c0:=HB1.out.cell 0
 have c1:=HB1.out.cell 1
 have c2:=HB1.out.cell 2
 simp at c0 c1 c2
 go_wp2_with fail
 refine (K5.out _).mono ?_
 rintro e w2 ⟨rfl,b2⟩
 have B2:=Qc b2 B1.size B1
 have s2:=b2.size
 have HB2:=Qa (HB1.out.below b2 HB1.out.lt)
 clear b2 c0 c1 c2 HB1
 have c0:=HB2.out.cell 0
 have c1:=HB2.out.cell 1
 have c2:=HB2.out.cell 2
 simp at c0 c1 c2
 go_wp2_with fail
 refine (K6.out _).mono ?_
 rintro e w3 ⟨rfl,hB3,hO3,hR3,b3⟩
 have B3:=Qc b3 B2.size B2
 have s3:=b3.size
 have HB3:=Qa (HB2.out.below b3 HB2.out.lt)
 clear b3 c0 c1 c2 HB2
 have c0:=HB3.out.cell 0
 have c1:=HB3.out.cell 1
 have c2:=HB3.out.cell 2
 simp at c0 c1 c2
 go_wp2_with fail
 refine (K7.out _).mono ?_
 rintro e w4 ⟨rfl,b4⟩
 have B4:=Qc b4 B3.size B3
 have s4:=b4.size
 have HB4:=Qa (HB3.out.below b4 HB3.out.lt)
 clear b4 c0 c1 c2 HB3
 have c0:=HB4.out.cell 0
 have c1:=HB4.out.cell 1
 have c2:=HB4.out.cell 2
 simp at c0 c1 c2
 go_wp2_with fail
 refine (K8.out _).mono ?_
 rintro e w5 ⟨rfl,b5⟩
 have B5:=Qc b5 B4.size B4
 have s5:=b5.size
 have HB5:=Qa (HB4.out.below b5 HB4.out.lt)
 clear b5 c0 c1 c2 HB4
 have c0:=HB5.out.cell 0
 have c1:=HB5.out.cell 1
 have c2:=HB5.out.cell 2
 simp at c0 c1 c2
 go_wp2_with fail
 refine (K9.out _).mono ?_
 rintro e w6 ⟨v6,rfl,o6,b6⟩
 have B6:=Qc b6 B5.size B5
 have s6:=b6.size
 have HB6:=Qa (HB5.out.below b6 HB5.out.lt)
 clear b6 c0 c1 c2 HB5
 have c0:=HB6.out.cell 0
 have c1:=HB6.out.cell 1
 have c2:=HB6.out.cell 2
 simp at c0 c1 c2
 obtain ⟨aU,cU,rfl⟩:=Qq o6
 clear o6
 have htl:=HTL.out
 go_wp2_with fail
 refine (K11.out _).mono ?_
 rintro e w7 ⟨v7,rfl,oS,b7⟩
 have B7:=Qc b7 B6.size B6
 have s7:=b7.size
 have HB7:=Qa (HB6.out.below b7 HB6.out.lt)
 clear b7 c0 c1 c2 HB6
 have c0:=HB7.out.cell 0
 have c1:=HB7.out.cell 1
 have c2:=HB7.out.cell 2
 simp at c0 c1 c2
 have HS7:=Qa oS
 obtain ⟨aS,cS,rfl⟩:=Qq HS7.out
 clear oS K2 K5 K6 K7 K8 K9 K11
 obtain ⟨hrow,hz1'⟩:=HROW.out hR3.out
 have hcd:=HCL.out hrow
 have hsb:=HSB.out
 have HSR:=Qa hsb.2
 have hSl2:Z.length≤2000:=by rw [HZZ.out];omega
 have hnn:1≤n0+2∧n0+2≤260:=by omega
 have hIS:=(Ints.ofOwn HS7.out (by omega) (fun x hx=>by have:=hsb.2 x hx;omega)).2
 have K12:=Qa (qt aS cS w7.heap.size (n0+2) t Z w7 hIS (Nat.le_refl _) hrow ht1 ht4)
 have hTl:(tab2 Z (n0+2) t).length=t:=Zc _ _ _ _
 have hGl:(sel2 Z (n0+2) t).length=grp Z.length:=by have:=XC Z (n0+2) t 2;rw [Xd] at this;exact this
 have HSY:Hid ((symL Z (n0+2) t).length=2+(gamL (sel2 Z (n0+2) t).length).length+(unaL (mtfD (sel2 Z (n0+2) t) t)).length+(ZS (tab2 Z (n0+2) t) t).length+(cpF Z (tab2 Z (n0+2) t) (sel2 Z (n0+2) t) Z.length).length):=Qa (by unfold symL;simp only [List.length_append,Qt])
 have HLO:Hid (∀ i,i<t→lOk ((tab2 Z (n0+2) t).getD i [])=true):=Qa (fun i hi=>xC hnn.1 hnn.2 hSl2 i hi)
 have HTF:Hid (∀ i,i<(tab2 Z (n0+2) t).length→((tab2 Z (n0+2) t).getD i []).length≤140737488355328∧∀ x∈(tab2 Z (n0+2) t).getD i [],-9223372036854775808≤x∧x≤9223372036854775807):=Qa (fun i hi=>YT hnn.1 hnn.2 hSl2 i hi)
 have HGR:=Qa (jH (S:=Z) (n:=n0+2) ht1 ht4 hSl2)
 have HGF:=Qa (jV (S:=Z) (n:=n0+2) ht1 ht4 hSl2)
 have hcpl:=zF (Vf hcd) Z.length (Nat.le_refl _)
 have hcpe:=qd Z (tab2 Z (n0+2) t) (sel2 Z (n0+2) t) Z.length
 have hcb:=ANs hcd
 obtain ⟨T,hT⟩:∃ T,tab2 Z (n0+2) t=T:=⟨_,rfl⟩
 obtain ⟨G,hG⟩:∃ G,sel2 Z (n0+2) t=G:=⟨_,rfl⟩
 obtain ⟨gz,hgz⟩:∃ gz,grp Z.length=gz:=⟨_,rfl⟩
 have hgz1:1≤gz∧gz≤600:=by rw [←hgz];unfold grp;omega
 rw [hT] at K12 hTl hcd HSY HLO HTF hcpl hcpe hcb
 rw [hG] at K12 hGl hcd HSY HGR HGF hcpl hcpe hcb
 rw [hgz] at K12 hGl
 have HTL2:=Qa hTl
 have HGL2:=Qa hGl
 obtain ⟨cp,hcp⟩:∃ cp,cpN Z T G Z.length=cp:=⟨_,rfl⟩
 rw [hcp] at hcpl hcpe hcb
 have HCB:=Qa hcb
 have hcp2:cp≤20000:=by have:=HZZ.out;omega
 have hul:=qC (qj HGR.out)
 rw [Jq,hGl] at hul
 have hul2:(unaL (mtfD G t)).length≤2400:=by have:gz*t≤600*4:=Nat.mul_le_mul hgz1.2 ht4;omega
 obtain ⟨ul,hule⟩:∃ ul,(unaL (mtfD G t)).length=ul:=⟨_,rfl⟩
 rw [hule] at hul2 HSY
 have HUL:=Qa hule
 have hgl40:=QY (n:=gz) hgz1.1 (by omega)
 have K14:=Qa (fun W=>QE (gz:Int) W)
 rw [ZG hgz1.1 (by omega)] at K14
 rw [hGl] at HSY
 obtain ⟨gl,hgle⟩:∃ gl,(gamL gz).length=gl:=⟨_,rfl⟩
 rw [hgle] at K14 hgl40 HSY
 rw [hcpe] at HSY
 rw [show ((n0+2:Nat):Int)=(n0:Int)+2 by omega,HZZ.out] at K12
 clear hrow hcd hsb hIS hTl hGl hT hG hgz hcp hcpl hcpe hul hule hgle HROW HCL HSB hcb
 go_wp2_with fail
 refine K12.out.mono ?_
 rintro e w8 ⟨vT,V,vG,rfl,oT,hRA,_,_,oG,b8⟩
 have B8:=Qc b8 B7.size B7
 have s8:=b8.size
 have HB8:=Qa (HB7.out.below b8 HB7.out.lt)
 have HS8:=Qa (Ql HS7.out b8)
 have HT8:=Qa oT
 have HR8:=Qa hRA
 have HG8:=Qa oG
 obtain ⟨aT,cT,rfl⟩:=Qq HT8.out
 obtain ⟨aG,cG,rfl⟩:=Qq HG8.out
 clear b8 c0 c1 c2 HB7 HS7 oT hRA oG K12
 have hTab:=XS (T:=T) (by have h:=HT8.out;rw [←HTL2.out] at h;exact h) HR8.out (by rw [HTL2.out];omega) HTF.out
 have hIS:=(Ints.ofOwn HS8.out (by have:=HZZ.out;omega) (fun x hx=>by have:=HSR.out x hx;omega)).2
 have hIG:=(Ints.ofOwn HG8.out (by omega) (fun x hx=>HGF.out.2.2 x hx)).2
 have hcT:=Xu HT8.out
 have K15:=Qa (fun (W:World) (h:Below w8.heap.size w8 W)=>qq aG cG w8.heap.size t G W (hIG.below h) h.size ht4 HGR.out)
 have K16:=Qa (fun (W:World) (h:Below w8.heap.size w8 W)=>Yw aS aT aG cS cT cG w8.heap.size Z G T W (hIS.below h) (hTab.below h) (hIG.below h) (by rw [HTL2.out];exact hcT))
 rw [HGL2.out,HUL.out] at K15
 rw [HZZ.out,HTL2.out,HGL2.out,HCB.out] at K16
 clear hIG hIS hTab hcT
 have c2:=HB8.out.cell 2
 simp at c2
 have q2:w.heap.size<w8.heap.size:=by omega
 have bd:Below w8.heap.size w8 w8:=Below.refl _ _
 have e2:=c2
 go_wp2_with fail
 go_region_held3 (fun w'=>w'.cell? ⟨w.heap.size,2,none⟩=some (.int .i64 (t:Int))) (go_keep) (first
  | (go_at_call 87;(with_reducible refine (K14.out _).mono ?_);rintro e wX ⟨rfl,BX⟩;have yX:=BX.size;replace bd:Below w8.heap.size w8 wX:=Qc BX bd.size ⟨bd.os,bd.tape,bd.output,bd.size,bd.block⟩;clear BX;have e2:=bd.cell (p:=⟨w.heap.size,2,none⟩) q2;rw [c2] at e2)
  | (go_at_call 71;(with_reducible refine (K15.out _ ?hW).mono ?_);(case hW=>exact ⟨bd.os,bd.tape,bd.output,bd.size,bd.block⟩);rintro e wX ⟨vX,rfl,oX,BX⟩;obtain ⟨aX,cX,rfl⟩:=Qq oX;clear oX;have yX:=BX.size;replace bd:Below w8.heap.size w8 wX:=Qc BX bd.size ⟨bd.os,bd.tape,bd.output,bd.size,bd.block⟩;clear BX;have e2:=bd.cell (p:=⟨w.heap.size,2,none⟩) q2;rw [c2] at e2)
  | (go_at_call 88;(with_reducible refine (K16.out _ ?hW).mono ?_);(case hW=>exact ⟨bd.os,bd.tape,bd.output,bd.size,bd.block⟩);rintro e wX ⟨rfl,rfl⟩))
 have hbd:Below w8.heap.size w8 wX:=⟨bd.os,bd.tape,bd.output,bd.size,bd.block⟩
 have HTx:=Qa (Ql HT8.out hbd)
 have HRx:=Qa (HR8.out.below hbd)
 have BLx:=Qa (Qc hbd B8.size B8)
 obtain ⟨c,hc⟩:∃ c,tl+2+gl+ul+cp=c:=⟨_,rfl⟩
 have hc1:c≤100000:=by omega
 have hcv:Value.int .i64 (IntKind.i64.wrap (IntKind.i64.wrap (IntKind.i64.wrap (IntKind.i64.wrap (34+(g:Int)+gf+ub+1+2)+gl)+ul)+cp))=Value.int .i64 ((c:Nat):Int):=by rw [JB (x:=34+(g:Int)+gf+ub+1+2) (by omega) (by omega),JB (x:=34+(g:Int)+gf+ub+1+2+gl) (by omega) (by omega),JB (x:=34+(g:Int)+gf+ub+1+2+gl+ul) (by omega) (by omega),JB (x:=34+(g:Int)+gf+ub+1+2+gl+ul+cp) (by omega) (by omega),←hc];congr 1;omega
 rw [hcv]
 clear hbd bd e2 c2 K14 K15 K16 HT8 HR8 HG8 HS8 hcv
 go_wp2
 go_loopw [5,13] (fun vn si wr=>∃ (i q:Nat),i≤t∧si=.int .i64 i∧Hid ((ZS T i).length=q)∧q≤20000*i∧vn=.int .i64 ((c+q:Nat):Int)∧Hid (wr.ownsRow w7.heap.size 99 1 (.slice aT t cT) t V)∧Hid (Zz wr w7.heap.size V T)∧Below w.heap.size w wr) (fun _ si _=>t-(intOf si).toNat)
 case atStart=>exact ⟨0,0,Nat.zero_le _,rfl,Qa rfl,by omega,by first | rfl | go_num,HTx,HRx,BLx.out⟩
 case round =>
  clear HTx HRx BLx
  obtain ⟨i,q,hi2,rfl,HQ,hq,rfl,HTr,HRr,hbl⟩:=hrel
  by_cases hlt:i<t
  ·have hTab:=XS (T:=T) (by have h:=HTr.out;rw [←HTL2.out] at h;exact h) HRr.out (by rw [HTL2.out];omega) HTF.out
   obtain ⟨bT,oT,a2,c2,rfl,hbT,d0,hlc2,hI2⟩:=hTab.at (i:=i) (by rw [HTL2.out];exact hlt)
   have hok:=HLO.out i hlt
   have h5:=vJ hok
   have K:=Qa (Vg a2 c2 wr.heap.size (T.getD i []) wr hI2)
   rw [AAn hok] at K
   obtain ⟨Ti,hTi⟩:∃ Ti,T.getD i []=Ti:=⟨_,rfl⟩
   have hps:ZS T (i+1)=ZS T i++put5 (T.getD i []):=rfl
   rw [hTi] at K h5 d0 hps
   obtain ⟨gl2,hgl⟩:∃ gl2,(put5 Ti).length=gl2:=⟨_,rfl⟩
   rw [hgl] at K h5
   obtain ⟨tl2,htl2⟩:∃ tl2,Ti.length=tl2:=⟨_,rfl⟩
   rw [htl2] at K d0
   have HQ2:Hid ((ZS T (i+1)).length=q+gl2):=Qa (by rw [hps,List.length_append,HQ.out,hgl])
   have HBL:=Qa hbl
   clear hps hgl hbl hTab hI2 hok hTi htl2 hlc2
   go_wp2_with fail
   refine K.out.mono ?_
   rintro e w3 ⟨rfl,b3⟩
   have hT3:=Qa (Ql HTr.out b3)
   have hR3:=Qa (HRr.out.below b3)
   have hb3:=Qa (Qc b3 HBL.out.size HBL.out)
   clear K b3 d0
   go_wp2
   go_roundw
   case rel=>exact ⟨i+1,q+gl2,by omega,by go_num,HQ2,by omega,by go_num,hT3,hR3,hb3.out⟩
   case measure=>simp [intOf];omega
  ·obtain rfl:i=t:=by omega
   have HBL:=Qa hbl
   have HFI:Hid (((c+q:Nat):Int)=((tl+(symL Z (n0+2) i).length:Nat):Int)):=Qa (by have h1:=HSY.out;have h2:=HQ.out;omega)
   clear hbl
   go_wp2
   go_ret
   exact ⟨by rw [←HFI.out];rfl,HBL.out⟩
theorem YX (s:ByteArray) (m t:Nat) (w:World) (hs:0<s.size∧s.size≤600) (hm:m=1∨m=2) (ht1:1≤t) (ht4:t≤4) :
 Calls Tryz.prog 45 #[.string s,.agg #[.int .i64 m,.bool true,.int .i64 t]] w fun e w'=>e=.returned (.int .i64 ((QP s m true++symL (stgZ s m true t) ((ordB (Qb s) true).length+2) t).length:Int))∧Below w.heap.size w w':=by
 have hg40:=QY hs.1 (by omega:s.size≤1048575)
 obtain ⟨f,hf,hf6⟩:=qp hs
 have hgf40:(gamL (f+1)).length≤40:=QY (by omega) (by omega)
 have hU:=qa hs.1
 have hUb:=Xk (Qb s)
 have hu272:=ZK (Qm (Qb s))
 have K2:=Qa (fun W=>QE (s.size:Int) W)
 rw [ZG hs.1 (by omega)] at K2
 have K5:=Qa (fun W=>XP s W (by omega))
 have K6:=Qa (fun W=>XV s m t true W (by omega))
 have K7:=Qa (fun W=>QE ((f+1:Nat):Int) W)
 rw [ZG (by omega) (by omega)] at K7
 have K8:=Qa (fun W=>Xb s W (by omega))
 have K9:=Qa (fun W=>by
  have h:=VB (Qg (Qm (Qb s))) W (by rw [QB];have:=QK hUb (ZB (Qb s));omega) (by rw [QI hUb];exact hU)
  rw [QI hUb] at h
  exact h)
 have K11:=Qa (fun W=>Jl s m t true W (by omega))
 have HSB:=Qa (JZ s m true t)
 have HTL:Hid ((QP s m true).length=2+(gamL s.size).length+32+(gamL (f+1)).length+(Qr (Qm (Qb s))).length+1+(putO (Qm (Qb s)) (ordB (Qb s) true)).length):=Qa (by unfold QP;rw [hf,Int.toNat_natCast];simp only [List.length_append,Qt];simp;omega)
 have HOO:Hid (QO (Qb s) (ordB (Qb s) true)∨ordB (Qb s) true=Qm (Qb s)→ZA (ordB (Qb s) true)=true∧Qm (ordB (Qb s) true)=Qm (Qb s)):=Qa (fun h=>by
  obtain ⟨h1,_,_,_,_,h6⟩:=Vl (Ja hs.1) (QA s) h
  exact ⟨h1,h6⟩)
 have HROW:Hid (QO (Qb s) (ordB (Qb s) true)∨ordB (Qb s) true=Qm (Qb s)→rowB (stgZ s m true t) (((ordB (Qb s) true).length+2:Nat):Int)=true∧1≤(stgZ s m true t).length):=Qa (fun h=>by
  have hw:QH m true t=true:=by rcases hm with rfl | rfl <;> simp [QH] <;> omega
  have e:stgZ s m true t=stgR (rkS s (ordB (Qb s) true)) m ((ordB (Qb s) true).length:Int):=by unfold stgZ;rw [if_pos ⟨hs.1,hs.2,hw⟩]
  rw [e]
  exact jA (qF hs h).1 m (by omega))
 have hm0:((m:Int) == 0)=false:=beq_eq_false_iff_ne.2 (by omega)
 have hm3:((m:Int) == 3)=false:=beq_eq_false_iff_ne.2 (by omega)
 have K10:=Qa (fun W (h1:Byt (ordB (Qb s) true)) (h2:ZA (ordB (Qb s) true)=true∧Qm (ordB (Qb s) true)=Qm (Qb s))=>by
  have h:=jv (Qg (ordB (Qb s) true)) W (by rw [QI h1];exact h2.1)
  rw [QI h1,h2.2] at h
  exact h)
 have HPL:=Qa (fun (h:(ordB (Qb s) true).length≤256)=>Vh (Qm (Qb s)) (ordB (Qb s) true) (QK hUb (ZB (Qb s))))
 obtain ⟨g,hg⟩:∃ g,(gamL s.size).length=g:=⟨_,rfl⟩
 obtain ⟨gf,hgf⟩:∃ gf,(gamL (f+1)).length=gf:=⟨_,rfl⟩
 obtain ⟨ub,hub⟩:∃ ub,(Qr (Qm (Qb s))).length=ub:=⟨_,rfl⟩
 obtain ⟨tl,htl⟩:∃ tl,(QP s m true).length=tl:=⟨_,rfl⟩
 obtain ⟨Z,hZ⟩:∃ Z,stgZ s m true t=Z:=⟨_,rfl⟩
 obtain ⟨O,hOe⟩:∃ O,ordB (Qb s) true=O:=⟨_,rfl⟩
 obtain ⟨n0,hn0⟩:∃ n0,O.length=n0:=⟨_,rfl⟩
 have hzO:(Qg O).size=n0:=by rw [QB,hn0]
 obtain ⟨z,hz⟩:∃ z,Z.length=z:=⟨_,rfl⟩
 rw [hg] at K2 hg40 HTL
 rw [hgf] at K7 hgf40 HTL
 rw [hub] at K9 hu272 HTL
 rw [hf] at K5
 rw [hZ,hz] at K11 HSB
 rw [hOe] at K6 HOO K10 HPL
 rw [hn0] at K6 HPL
 have HZZ:=Qa hz
 rw [show ((f+1:Nat):Int)=(f:Int)+1 by omega] at K7
 rw [hOe] at HTL
 rw [htl] at HTL
 rw [hZ,hOe,hn0] at HROW
 rw [hZ,hOe,hn0]
 have HCL:Hid (rowB Z ((n0+2:Nat):Int)=true→cdOk Z (tab2 Z (n0+2) t) (sel2 Z (n0+2) t)=true):=Qa (fun h=>AFz h ht1 ht4)
 rw [List.length_append,htl]
 obtain ⟨wi,hwe⟩:∃ wi,wi=w.alloc (.cells #[.int .i64 m,.bool true,.int .i64 t] 26):=⟨_,rfl⟩
 have hwi:wi.heap.size=w.heap.size+1:=by rw [hwe];simp
 have Bi:Below w.heap.size w wi:=by rw [hwe];exact (Below.refl _ _).alloc (Nat.le_refl _) _
 have HB0:Hid (Has wi w.heap.size 26 #[.int .i64 m,.bool true,.int .i64 t]):=Qa (by rw [hwe];exact Has.fresh _ _ _)
 clear hg hgf hub hf hU hUb hZ hz hOe hn0 htl
 go_enter Tryz.func45,Tryz.ntmps45
 go_wp2_with fail
 rw [←hwe]
 refine (K2.out wi).mono ?_
 rintro e w1 ⟨rfl,b1⟩
 have B1:=Qc b1 Bi.size Bi
 have s1:=b1.size
 have HB1:=Qa (HB0.out.below b1 HB0.out.lt)
 clear b1 HB0 hwe
 have c0:=HB1.out.cell 0
 have c1:=HB1.out.cell 1
 have c2:=HB1.out.cell 2
 simp at c0 c1 c2
 go_wp2_with fail
 refine (K5.out _).mono ?_
 rintro e w2 ⟨rfl,b2⟩
 have B2:=Qc b2 B1.size B1
 have s2:=b2.size
 have HB2:=Qa (HB1.out.below b2 HB1.out.lt)
 clear b2 c0 c1 c2 HB1
 have c0:=HB2.out.cell 0
 have c1:=HB2.out.cell 1
 have c2:=HB2.out.cell 2
 simp at c0 c1 c2
 go_wp2_with fail
 refine (K6.out _).mono ?_
 rintro e w3 ⟨rfl,hB3,hO3,hR3,b3⟩
 have B3:=Qc b3 B2.size B2
 have s3:=b3.size
 have HB3:=Qa (HB2.out.below b3 HB2.out.lt)
 clear b3 c0 c1 c2 HB2
 have c0:=HB3.out.cell 0
 have c1:=HB3.out.cell 1
 have c2:=HB3.out.cell 2
 simp at c0 c1 c2
 go_wp2_with fail
 refine (K7.out _).mono ?_
 rintro e w4 ⟨rfl,b4⟩
 have B4:=Qc b4 B3.size B3
 have s4:=b4.size
 have HB4:=Qa (HB3.out.below b4 HB3.out.lt)
 clear b4 c0 c1 c2 HB3
 have c0:=HB4.out.cell 0
 have c1:=HB4.out.cell 1
 have c2:=HB4.out.cell 2
 simp at c0 c1 c2
 go_wp2_with fail
 refine (K8.out _).mono ?_
 rintro e w5 ⟨rfl,b5⟩
 have B5:=Qc b5 B4.size B4
 have s5:=b5.size
 have HB5:=Qa (HB4.out.below b5 HB4.out.lt)
 clear b5 c0 c1 c2 HB4
 have c0:=HB5.out.cell 0
 have c1:=HB5.out.cell 1
 have c2:=HB5.out.cell 2
 simp at c0 c1 c2
 go_wp2_with fail
 refine (K9.out _).mono ?_
 rintro e w6 ⟨v6,rfl,o6,b6⟩
 have B6:=Qc b6 B5.size B5
 have s6:=b6.size
 have HB6:=Qa (HB5.out.below b6 HB5.out.lt)
 clear b6 c0 c1 c2 HB5
 have c0:=HB6.out.cell 0
 have c1:=HB6.out.cell 1
 have c2:=HB6.out.cell 2
 simp at c0 c1 c2
 obtain ⟨aU,cU,rfl⟩:=Qq o6
 clear o6
 have hpl:=HPL.out hO3
 obtain ⟨pl,hpe⟩:∃ pl,(putO (Qm (Qb s)) O).length=pl:=⟨_,rfl⟩
 have K10b:=Qa (fun W=>K10.out W hB3 (HOO.out hR3.out))
 rw [hpe] at K10b hpl HTL
 clear hpe K10 HPL
 go_wp2_with fail
 refine (K10b.out _).mono ?_
 rintro e w7 ⟨v7,rfl,o7,b7⟩
 have B7:=Qc b7 B6.size B6
 have s7:=b7.size
 have HB7:=Qa (HB6.out.below b7 HB6.out.lt)
 clear b7 c0 c1 c2 HB6
 have c0:=HB7.out.cell 0
 have c1:=HB7.out.cell 1
 have c2:=HB7.out.cell 2
 simp at c0 c1 c2
 obtain ⟨aP,cP,rfl⟩:=Qq o7
 clear o7
 have htl:=HTL.out
 go_wp2_with fail
 refine (K11.out _).mono ?_
 rintro e w8 ⟨v8,rfl,oS,b8⟩
 have B8:=Qc b8 B7.size B7
 have s8:=b8.size
 have HB8:=Qa (HB7.out.below b8 HB7.out.lt)
 clear b8 c0 c1 c2 HB7
 have c0:=HB8.out.cell 0
 have c1:=HB8.out.cell 1
 have c2:=HB8.out.cell 2
 simp at c0 c1 c2
 have HS8:=Qa oS
 obtain ⟨aS,cS,rfl⟩:=Qq HS8.out
 clear oS K2 K5 K6 K7 K8 K9 K11
 obtain ⟨hrow,hz1'⟩:=HROW.out hR3.out
 have hcd:=HCL.out hrow
 have hsb:=HSB.out
 have HSR:=Qa hsb.2
 have hSl2:Z.length≤2000:=by rw [HZZ.out];omega
 have hnn:1≤n0+2∧n0+2≤260:=by omega
 have hIS:=(Ints.ofOwn HS8.out (by omega) (fun x hx=>by have:=hsb.2 x hx;omega)).2
 have K12:=Qa (qt aS cS w8.heap.size (n0+2) t Z w8 hIS (Nat.le_refl _) hrow ht1 ht4)
 have hTl:(tab2 Z (n0+2) t).length=t:=Zc _ _ _ _
 have hGl:(sel2 Z (n0+2) t).length=grp Z.length:=by have:=XC Z (n0+2) t 2;rw [Xd] at this;exact this
 have HSY:Hid ((symL Z (n0+2) t).length=2+(gamL (sel2 Z (n0+2) t).length).length+(unaL (mtfD (sel2 Z (n0+2) t) t)).length+(ZS (tab2 Z (n0+2) t) t).length+(cpF Z (tab2 Z (n0+2) t) (sel2 Z (n0+2) t) Z.length).length):=Qa (by unfold symL;simp only [List.length_append,Qt])
 have HLO:Hid (∀ i,i<t→lOk ((tab2 Z (n0+2) t).getD i [])=true):=Qa (fun i hi=>xC hnn.1 hnn.2 hSl2 i hi)
 have HTF:Hid (∀ i,i<(tab2 Z (n0+2) t).length→((tab2 Z (n0+2) t).getD i []).length≤140737488355328∧∀ x∈(tab2 Z (n0+2) t).getD i [],-9223372036854775808≤x∧x≤9223372036854775807):=Qa (fun i hi=>YT hnn.1 hnn.2 hSl2 i hi)
 have HGR:=Qa (jH (S:=Z) (n:=n0+2) ht1 ht4 hSl2)
 have HGF:=Qa (jV (S:=Z) (n:=n0+2) ht1 ht4 hSl2)
 have hcpl:=zF (Vf hcd) Z.length (Nat.le_refl _)
 have hcpe:=qd Z (tab2 Z (n0+2) t) (sel2 Z (n0+2) t) Z.length
 have hcb:=ANs hcd
 obtain ⟨T,hT⟩:∃ T,tab2 Z (n0+2) t=T:=⟨_,rfl⟩
 obtain ⟨G,hG⟩:∃ G,sel2 Z (n0+2) t=G:=⟨_,rfl⟩
 obtain ⟨gz,hgz⟩:∃ gz,grp Z.length=gz:=⟨_,rfl⟩
 have hgz1:1≤gz∧gz≤600:=by rw [←hgz];unfold grp;omega
 rw [hT] at K12 hTl hcd HSY HLO HTF hcpl hcpe hcb
 rw [hG] at K12 hGl hcd HSY HGR HGF hcpl hcpe hcb
 rw [hgz] at K12 hGl
 have HTL2:=Qa hTl
 have HGL2:=Qa hGl
 obtain ⟨cp,hcp⟩:∃ cp,cpN Z T G Z.length=cp:=⟨_,rfl⟩
 rw [hcp] at hcpl hcpe hcb
 have HCB:=Qa hcb
 have hcp2:cp≤20000:=by have:=HZZ.out;omega
 have hul:=qC (qj HGR.out)
 rw [Jq,hGl] at hul
 have hul2:(unaL (mtfD G t)).length≤2400:=by have:gz*t≤600*4:=Nat.mul_le_mul hgz1.2 ht4;omega
 obtain ⟨ul,hule⟩:∃ ul,(unaL (mtfD G t)).length=ul:=⟨_,rfl⟩
 rw [hule] at hul2 HSY
 have HUL:=Qa hule
 have hgl40:=QY (n:=gz) hgz1.1 (by omega)
 have K14:=Qa (fun W=>QE (gz:Int) W)
 rw [ZG hgz1.1 (by omega)] at K14
 rw [hGl] at HSY
 obtain ⟨gl,hgle⟩:∃ gl,(gamL gz).length=gl:=⟨_,rfl⟩
 rw [hgle] at K14 hgl40 HSY
 rw [hcpe] at HSY
 rw [show ((n0+2:Nat):Int)=(n0:Int)+2 by omega,HZZ.out] at K12
 clear hrow hcd hsb hIS hTl hGl hT hG hgz hcp hcpl hcpe hul hule hgle HROW HCL HSB hcb
 go_wp2_with fail
 refine K12.out.mono ?_
 rintro e w9 ⟨vT,V,vG,rfl,oT,hRA,_,_,oG,b9⟩
 have B9:=Qc b9 B8.size B8
 have s9:=b9.size
 have HB9:=Qa (HB8.out.below b9 HB8.out.lt)
 have HS9:=Qa (Ql HS8.out b9)
 have HT9:=Qa oT
 have HR9:=Qa hRA
 have HG9:=Qa oG
 obtain ⟨aT,cT,rfl⟩:=Qq HT9.out
 obtain ⟨aG,cG,rfl⟩:=Qq HG9.out
 clear b9 c0 c1 c2 HB8 HS8 oT hRA oG K12
 have hTab:=XS (T:=T) (by have h:=HT9.out;rw [←HTL2.out] at h;exact h) HR9.out (by rw [HTL2.out];omega) HTF.out
 have hIS:=(Ints.ofOwn HS9.out (by have:=HZZ.out;omega) (fun x hx=>by have:=HSR.out x hx;omega)).2
 have hIG:=(Ints.ofOwn HG9.out (by omega) (fun x hx=>HGF.out.2.2 x hx)).2
 have hcT:=Xu HT9.out
 have K15:=Qa (fun (W:World) (h:Below w9.heap.size w9 W)=>qq aG cG w9.heap.size t G W (hIG.below h) h.size ht4 HGR.out)
 have K16:=Qa (fun (W:World) (h:Below w9.heap.size w9 W)=>Yw aS aT aG cS cT cG w9.heap.size Z G T W (hIS.below h) (hTab.below h) (hIG.below h) (by rw [HTL2.out];exact hcT))
 rw [HGL2.out,HUL.out] at K15
 rw [HZZ.out,HTL2.out,HGL2.out,HCB.out] at K16
 clear hIG hIS hTab hcT
 have c2:=HB9.out.cell 2
 simp at c2
 have q2:w.heap.size<w9.heap.size:=by omega
 have bd:Below w9.heap.size w9 w9:=Below.refl _ _
 have e2:=c2
 go_wp2_with fail
 go_region_held3 (fun w'=>w'.cell? ⟨w.heap.size,2,none⟩=some (.int .i64 (t:Int))) (go_keep) (first
  | (go_at_call 87;(with_reducible refine (K14.out _).mono ?_);rintro e wX ⟨rfl,BX⟩;have yX:=BX.size;replace bd:Below w9.heap.size w9 wX:=Qc BX bd.size ⟨bd.os,bd.tape,bd.output,bd.size,bd.block⟩;clear BX;have e2:=bd.cell (p:=⟨w.heap.size,2,none⟩) q2;rw [c2] at e2)
  | (go_at_call 71;(with_reducible refine (K15.out _ ?hW).mono ?_);(case hW=>exact ⟨bd.os,bd.tape,bd.output,bd.size,bd.block⟩);rintro e wX ⟨vX,rfl,oX,BX⟩;obtain ⟨aX,cX,rfl⟩:=Qq oX;clear oX;have yX:=BX.size;replace bd:Below w9.heap.size w9 wX:=Qc BX bd.size ⟨bd.os,bd.tape,bd.output,bd.size,bd.block⟩;clear BX;have e2:=bd.cell (p:=⟨w.heap.size,2,none⟩) q2;rw [c2] at e2)
  | (go_at_call 88;(with_reducible refine (K16.out _ ?hW).mono ?_);(case hW=>exact ⟨bd.os,bd.tape,bd.output,bd.size,bd.block⟩);rintro e wX ⟨rfl,rfl⟩))
 have hbd:Below w9.heap.size w9 wX:=⟨bd.os,bd.tape,bd.output,bd.size,bd.block⟩
 have HTx:=Qa (Ql HT9.out hbd)
 have HRx:=Qa (HR9.out.below hbd)
 have BLx:=Qa (Qc hbd B9.size B9)
 obtain ⟨c,hc⟩:∃ c,tl+2+gl+ul+cp=c:=⟨_,rfl⟩
 have hc1:c≤100000:=by omega
 have hcv:Value.int .i64 (IntKind.i64.wrap (IntKind.i64.wrap (IntKind.i64.wrap (IntKind.i64.wrap (34+(g:Int)+gf+ub+1+pl+2)+gl)+ul)+cp))=Value.int .i64 ((c:Nat):Int):=by rw [JB (x:=34+(g:Int)+gf+ub+1+pl+2) (by omega) (by omega),JB (x:=34+(g:Int)+gf+ub+1+pl+2+gl) (by omega) (by omega),JB (x:=34+(g:Int)+gf+ub+1+pl+2+gl+ul) (by omega) (by omega),JB (x:=34+(g:Int)+gf+ub+1+pl+2+gl+ul+cp) (by omega) (by omega),←hc];congr 1;omega
 rw [hcv]
 clear hbd bd e2 c2 K14 K15 K16 HT9 HR9 HG9 HS9 hcv
 go_wp2
 go_loopw [5,13] (fun vn si wr=>∃ (i q:Nat),i≤t∧si=.int .i64 i∧Hid ((ZS T i).length=q)∧q≤20000*i∧vn=.int .i64 ((c+q:Nat):Int)∧Hid (wr.ownsRow w8.heap.size 99 1 (.slice aT t cT) t V)∧Hid (Zz wr w8.heap.size V T)∧Below w.heap.size w wr) (fun _ si _=>t-(intOf si).toNat)
 case atStart=>exact ⟨0,0,Nat.zero_le _,rfl,Qa rfl,by omega,by first | rfl | go_num,HTx,HRx,BLx.out⟩
 case round =>
  clear HTx HRx BLx
  obtain ⟨i,q,hi2,rfl,HQ,hq,rfl,HTr,HRr,hbl⟩:=hrel
  by_cases hlt:i<t
  ·have hTab:=XS (T:=T) (by have h:=HTr.out;rw [←HTL2.out] at h;exact h) HRr.out (by rw [HTL2.out];omega) HTF.out
   obtain ⟨bT,oT,a2,c2,rfl,hbT,d0,hlc2,hI2⟩:=hTab.at (i:=i) (by rw [HTL2.out];exact hlt)
   have hok:=HLO.out i hlt
   have h5:=vJ hok
   have K:=Qa (Vg a2 c2 wr.heap.size (T.getD i []) wr hI2)
   rw [AAn hok] at K
   obtain ⟨Ti,hTi⟩:∃ Ti,T.getD i []=Ti:=⟨_,rfl⟩
   have hps:ZS T (i+1)=ZS T i++put5 (T.getD i []):=rfl
   rw [hTi] at K h5 d0 hps
   obtain ⟨gl2,hgl⟩:∃ gl2,(put5 Ti).length=gl2:=⟨_,rfl⟩
   rw [hgl] at K h5
   obtain ⟨tl2,htl2⟩:∃ tl2,Ti.length=tl2:=⟨_,rfl⟩
   rw [htl2] at K d0
   have HQ2:Hid ((ZS T (i+1)).length=q+gl2):=Qa (by rw [hps,List.length_append,HQ.out,hgl])
   have HBL:=Qa hbl
   clear hps hgl hbl hTab hI2 hok hTi htl2 hlc2
   go_wp2_with fail
   refine K.out.mono ?_
   rintro e w3 ⟨rfl,b3⟩
   have hT3:=Qa (Ql HTr.out b3)
   have hR3:=Qa (HRr.out.below b3)
   have hb3:=Qa (Qc b3 HBL.out.size HBL.out)
   clear K b3 d0
   go_wp2
   go_roundw
   case rel=>exact ⟨i+1,q+gl2,by omega,by go_num,HQ2,by omega,by go_num,hT3,hR3,hb3.out⟩
   case measure=>simp [intOf];omega
  ·obtain rfl:i=t:=by omega
   have HBL:=Qa hbl
   have HFI:Hid (((c+q:Nat):Int)=((tl+(symL Z (n0+2) i).length:Nat):Int)):=Qa (by have h1:=HSY.out;have h2:=HQ.out;omega)
   clear hbl
   go_wp2
   go_ret
   exact ⟨by rw [←HFI.out];rfl,HBL.out⟩
theorem AVx {m t:Int} {b:Bool} (h:QH m b t=true):(m=0∧b=false∧t=0)∨(m=1∧1≤t∧t≤4)∨(m=2∧1≤t∧t≤4)∨(m=3∧t=0):=by
 simp only [QH,Bool.or_eq_true,Bool.and_eq_true,decide_eq_true_eq,Bool.not_eq_true'] at h
 rcases h with (⟨h1,h2,h3⟩ | ⟨h1 | h1,h2,h3⟩) | ⟨h1,h2⟩
 ·exact .inl ⟨h1,h2,h3⟩
 ·exact .inr (.inl ⟨h1,h2,h3⟩)
 ·exact .inr (.inr (.inl ⟨h1,h2,h3⟩))
 ·exact .inr (.inr (.inr ⟨h1,h2⟩))
noncomputable def tblL (s:ByteArray) (m:Nat) (b:Bool) (t:Nat):List Nat:=QP s m b++symL (stgZ s m b t) ((ordB (Qb s) b).length+2) t
noncomputable def Xp (s:ByteArray) (m:Int) (b:Bool) (t:Int):List Nat :=
 if m=0 then stoL s else if m=3 then invL s b else tblL s m.toNat b t.toNat
theorem AJr (s:ByteArray) (b:Bool) (t:Int):Xp s 0 b t=stoL s:=by simp [Xp]
theorem AKj (s:ByteArray) (b:Bool) (t:Int):Xp s 3 b t=invL s b:=by simp [Xp]
theorem AJv (s:ByteArray) (b:Bool) (t:Nat):Xp s 1 b t=QP s 1 b++symL (stgZ s 1 b t) ((ordB (Qb s) b).length+2) t:=by simp [Xp,tblL]
theorem AKc (s:ByteArray) (b:Bool) (t:Nat):Xp s 2 b t=QP s 2 b++symL (stgZ s 2 b t) ((ordB (Qb s) b).length+2) t:=by simp [Xp,tblL]
noncomputable def JM (s:ByteArray) (m:Int) (b:Bool) (t:Int):Int:=if bkOk s m b t=true then ((Xp s m b t).length:Int) else -1
theorem AHd (s:ByteArray) (m t:Int) (b:Bool) (w:World) (hs:0<s.size∧s.size≤600) (hw:QH m b t=true) :
 Calls Tryz.prog 45 #[.string s,.agg #[.int .i64 m,.bool b,.int .i64 t]] w fun e w'=>e=.returned (.int .i64 ((Xp s m b t).length:Int))∧Below w.heap.size w w':=by
 rcases AVx hw with ⟨rfl,rfl,rfl⟩ | ⟨rfl,h1,h4⟩ | ⟨rfl,h1,h4⟩ | ⟨rfl,rfl⟩
 ·rw [AJr];exact AAi s w hs
 ·obtain ⟨k,rfl⟩:∃ k:Nat,t=k:=⟨t.toNat,by omega⟩
  rw [AJv]
  cases b
  ·exact Yx s 1 k w hs (.inl rfl) (by omega) (by omega)
  ·exact YX s 1 k w hs (.inl rfl) (by omega) (by omega)
 ·obtain ⟨k,rfl⟩:∃ k:Nat,t=k:=⟨t.toNat,by omega⟩
  rw [AKc]
  cases b
  ·exact Yx s 2 k w hs (.inr rfl) (by omega) (by omega)
  ·exact YX s 2 k w hs (.inr rfl) (by omega) (by omega)
 ·rw [AKj]
  unfold invL
  cases b
  ·exact xT s w hs
  ·exact jC s w hs
theorem xV (s:ByteArray) (m t:Int) (b:Bool) (w:World) (h:bkOk s m b t=true) :
 Calls Tryz.prog 15 #[.string s,.agg #[.int .i64 m,.bool b,.int .i64 t]] w fun e w'=>e=.returned (.int .i64 (JM s m b t))∧Below w.heap.size w w':=by
 obtain ⟨h6,hw⟩:=(AEk _ _ _ _).1 h
 have hc:JM s m b t=((Xp s m b t).length:Int):=by unfold JM;rw [if_pos h]
 rw [hc]
 have KO:=Qa (fun W=>XL s W (by omega))
 have KW:=Qa (fun W=>Ys m t b W)
 have KL:=Qa (fun W=>AHd s m t b W h6 hw)
 rw [hw] at KW
 rw [decide_eq_true h6] at KO
 obtain ⟨n,hn⟩:∃ n,(Xp s m b t).length=n:=⟨_,rfl⟩
 rw [hn] at KL ⊢
 have ba:Below w.heap.size w (w.alloc (.cells #[.int .i64 m,.bool b,.int .i64 t] 26)):=(Below.refl _ _).alloc (Nat.le_refl _) _
 have hWb:Has (w.alloc (.cells #[.int .i64 m,.bool b,.int .i64 t] 26)) w.heap.size 26 #[.int .i64 m,.bool b,.int .i64 t]:=Has.fresh _ _ _
 have c0:=hWb.cell 0
 have c1:=hWb.cell 1
 have c2:=hWb.cell 2
 simp at c0 c1 c2
 clear hn hc hw h h6
 go_enter Tryz.func15,Tryz.ntmps15
 go_wp2_with fail
 refine (KO.out _).mono ?_
 rintro e w0 ⟨rfl,rfl⟩
 go_wp2_with fail
 refine (KW.out _).mono ?_
 rintro e w1 ⟨rfl,b1⟩
 have B1:=Qc b1 ba.size ba
 have H1:=hWb.below b1 hWb.lt
 have s1:=B1.size
 clear c0 c1 c2 b1 hWb ba KO KW
 have c0:=H1.cell 0
 have c1:=H1.cell 1
 have c2:=H1.cell 2
 simp at c0 c1 c2
 clear H1
 go_wp2_with fail
 refine (KL.out _).mono ?_
 rintro e w2 ⟨rfl,b2⟩
 have B2:=Qc b2 s1 B1
 clear b2
 go_wp2
 go_ret
 exact ⟨rfl,B2⟩
end Go.Proofs.YtembljihmnmmfaaGreat
