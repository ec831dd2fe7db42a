/- Texts of the proof, merged. -/
import Derived.Test.YtembljihmnmmfaaGreatKB42
import Derived.Test.YtembljihmnmmfaaGreatKB37
import Derived.Test.YtembljihmnmmfaaGreatKB50
import Derived.Test.YtembljihmnmmfaaGreatKB39
namespace Go.Proofs.YtembljihmnmmfaaGreat
set_option maxHeartbeats 2000000
set_option maxRecDepth 100000
set_option linter.unusedVariables false
set_option linter.unusedSimpArgs false
open Go.RowKit
noncomputable def turV (s:ByteArray) (b:Bool):Value:=.agg #[.string (lstZ s),.int .i64 (fstZ s),.string (Qg (Qm (Qb s))),.string (Qg (ordB (Qb s) b))]
theorem ANn (rc:Value) (s:ByteArray) (w:World) (hs:s.size≤1048576) :
 Calls Tryz.prog 30 #[.agg #[rc,.bool false],.string s] w fun e w'=>e=.returned (turV s false)∧Hid (QO (Qb s) (ordB (Qb s) false)∨ordB (Qb s) false=Qm (Qb s))∧Below w.heap.size w w':=by
 have KL:=Qa (fun W=>xg s W hs)
 have KU:=Qa (fun W=>YS s W hs)
 have hR:=(Has.fresh w 51 #[rc,.bool false]).alloc (.cells #[.string ⟨#[]⟩,.int .i64 0,.string ⟨#[]⟩,.string ⟨#[]⟩] 56)
 have hT:=Has.freshAt (w:=w.alloc (.cells #[rc,.bool false] 51)) (g:=w.heap.size+1) (by simp) 56 #[.string ⟨#[]⟩,.int .i64 0,.string ⟨#[]⟩,.string ⟨#[]⟩]
 have bb:Below w.heap.size w ((w.alloc (.cells #[rc,.bool false] 51)).alloc (.cells #[.string ⟨#[]⟩,.int .i64 0,.string ⟨#[]⟩,.string ⟨#[]⟩] 56)):=((Below.refl _ _).alloc (Nat.le_refl _) _).alloc (by simp) _
 have sb:((w.alloc (.cells #[rc,.bool false] 51)).alloc (.cells #[.string ⟨#[]⟩,.int .i64 0,.string ⟨#[]⟩,.string ⟨#[]⟩] 56)).heap.size=w.heap.size+2:=by simp
 obtain ⟨U,hU⟩:∃ U,Qg (Qm (Qb s))=U:=⟨_,rfl⟩
 obtain ⟨la,hla⟩:∃ la,lstZ s=la:=⟨_,rfl⟩
 obtain ⟨fi,hfi⟩:∃ fi,fstZ s=fi:=⟨_,rfl⟩
 have HV:Hid (turV s false=.agg #[.string la,.int .i64 fi,.string U,.string (Qg (ordB (Qb s) false))]):=Qa (by unfold turV;rw [hU,hla,hfi])
 rw [hU] at KU
 rw [hla,hfi] at KL
 have hOe:Qg (ordB (Qb s) false)=U:=by rw [zH];exact hU
 have HR:Hid (QO (Qb s) (ordB (Qb s) false)∨ordB (Qb s) false=Qm (Qb s)):=Qa (.inr (zH _))
 rw [hOe] at HV
 clear hOe
 obtain ⟨wi,hwe⟩:∃ wi,wi=(w.alloc (.cells #[rc,.bool false] 51)).alloc (.cells #[.string ⟨#[]⟩,.int .i64 0,.string ⟨#[]⟩,.string ⟨#[]⟩] 56):=⟨_,rfl⟩
 rw [←hwe] at hR hT bb sb
 clear hla hfi hU
 go_enter Tryz.func30,Tryz.ntmps30
 go_wp2_with fail
 rw [←hwe]
 refine (KL.out wi).mono ?_
 rintro e w1 ⟨rfl,b1⟩
 have B1:=Qc b1 (by omega) bb
 have R1:=hR.below b1 hR.lt
 have T1:=hT.below b1 hT.lt
 have s1:=b1.size
 clear b1 hR hT bb hwe KL
 go_wp2_with fail
 refine (KU.out _).mono ?_
 rintro e w2 ⟨rfl,b2⟩
 have B2:=Qc b2 (by omega) B1
 have R2:=R1.below b2 R1.lt
 have T2:=T1.below b2 T1.lt
 have s2:=b2.size
 obtain ⟨w3,hw3⟩:∃ w3,w2.alloc (.cells #[.string la,.int .i64 fi,.string U,.string U] 56)=w3:=⟨_,rfl⟩
 have s3:w3.heap.size=w2.heap.size+1:=by rw [←hw3];simp
 have B3:Below w.heap.size w w3:=by rw [←hw3];exact B2.alloc (by omega) _
 have R3:Has w3 w.heap.size 51 #[rc,.bool false]:=by rw [←hw3];exact R2.alloc _
 have T3:Has w3 (w.heap.size+1) 56 #[.string ⟨#[]⟩,.int .i64 0,.string ⟨#[]⟩,.string ⟨#[]⟩]:=by rw [←hw3];exact T2.alloc _
 have F3:Has w3 w2.heap.size 56 #[.string la,.int .i64 fi,.string U,.string U]:=by rw [←hw3];exact Has.fresh _ _ _
 have r1:=R3.cell 1
 simp at r1
 have q0:=F3.cell 0
 have q1:=F3.cell 1
 have q2:=F3.cell 2
 have q3:=F3.cell 3
 have p0:=T3.cell 0
 have p1:=T3.cell 1
 have p2:=T3.cell 2
 have p3:=T3.cell 3
 have z0:=T3.free 0
 have z1:=T3.free 1
 have z2:=T3.free 2
 have z3:=T3.free 3
 simp at q0 q1 q2 q3 p0 p1 p2 p3
 clear b2 R1 T1 B1 KU R2 T2 B2
 go_wp2
 refine bodyPost_ret (v:=.agg #[.string la,.int .i64 fi,.string U,.string U]) (by simp [results,Tryz.results30,go_sem,p0,p1,p2,p3,z0,z1,z2,z3]) rfl ⟨by rw [HV.out],HR,?_⟩
 repeat (first | exact Below.refl _ _ | assumption | refine Below.alloc ?_ (by (try simp);(try omega)) _ | refine Below.setCell ?_ (by (try simp);(try omega)) _)
theorem AQf (rc:Value) (s:ByteArray) (w:World) (hs:s.size≤1048576) :
 Calls Tryz.prog 30 #[.agg #[rc,.bool true],.string s] w fun e w'=>e=.returned (turV s true)∧Hid (QO (Qb s) (ordB (Qb s) true)∨ordB (Qb s) true=Qm (Qb s))∧Below w.heap.size w w':=by
 have KL:=Qa (fun W=>xg s W hs)
 have KU:=Qa (fun W=>YS s W hs)
 have KC:=Qa (fun W=>vq s W hs)
 have hR:=(Has.fresh w 51 #[rc,.bool true]).alloc (.cells #[.string ⟨#[]⟩,.int .i64 0,.string ⟨#[]⟩,.string ⟨#[]⟩] 56)
 have hT:=Has.freshAt (w:=w.alloc (.cells #[rc,.bool true] 51)) (g:=w.heap.size+1) (by simp) 56 #[.string ⟨#[]⟩,.int .i64 0,.string ⟨#[]⟩,.string ⟨#[]⟩]
 have bb:Below w.heap.size w ((w.alloc (.cells #[rc,.bool true] 51)).alloc (.cells #[.string ⟨#[]⟩,.int .i64 0,.string ⟨#[]⟩,.string ⟨#[]⟩] 56)):=((Below.refl _ _).alloc (Nat.le_refl _) _).alloc (by simp) _
 have sb:((w.alloc (.cells #[rc,.bool true] 51)).alloc (.cells #[.string ⟨#[]⟩,.int .i64 0,.string ⟨#[]⟩,.string ⟨#[]⟩] 56)).heap.size=w.heap.size+2:=by simp
 obtain ⟨U,hU⟩:∃ U,Qg (Qm (Qb s))=U:=⟨_,rfl⟩
 obtain ⟨la,hla⟩:∃ la,lstZ s=la:=⟨_,rfl⟩
 obtain ⟨fi,hfi⟩:∃ fi,fstZ s=fi:=⟨_,rfl⟩
 have HV:Hid (turV s true=.agg #[.string la,.int .i64 fi,.string U,.string (Qg (ordB (Qb s) true))]):=Qa (by unfold turV;rw [hU,hla,hfi])
 rw [hU] at KU
 rw [hla,hfi] at KL
 obtain ⟨wi,hwe⟩:∃ wi,wi=(w.alloc (.cells #[rc,.bool true] 51)).alloc (.cells #[.string ⟨#[]⟩,.int .i64 0,.string ⟨#[]⟩,.string ⟨#[]⟩] 56):=⟨_,rfl⟩
 rw [←hwe] at hR hT bb sb
 clear hla hfi hU
 go_enter Tryz.func30,Tryz.ntmps30
 go_wp2_with fail
 rw [←hwe]
 refine (KL.out wi).mono ?_
 rintro e w1 ⟨rfl,b1⟩
 have B1:=Qc b1 (by omega) bb
 have R1:=hR.below b1 hR.lt
 have T1:=hT.below b1 hT.lt
 have s1:=b1.size
 clear b1 hR hT bb hwe KL
 go_wp2_with fail
 refine (KU.out _).mono ?_
 rintro e w2 ⟨rfl,b2⟩
 have B2:=Qc b2 (by omega) B1
 have R2:=R1.below b2 R1.lt
 have T2:=T1.below b2 T1.lt
 have s2:=b2.size
 obtain ⟨w3,hw3⟩:∃ w3,w2.alloc (.cells #[.string la,.int .i64 fi,.string U,.string U] 56)=w3:=⟨_,rfl⟩
 have s3:w3.heap.size=w2.heap.size+1:=by rw [←hw3];simp
 have B3:Below w.heap.size w w3:=by rw [←hw3];exact B2.alloc (by omega) _
 have R3:Has w3 w.heap.size 51 #[rc,.bool true]:=by rw [←hw3];exact R2.alloc _
 have T3:Has w3 (w.heap.size+1) 56 #[.string ⟨#[]⟩,.int .i64 0,.string ⟨#[]⟩,.string ⟨#[]⟩]:=by rw [←hw3];exact T2.alloc _
 have F3:Has w3 w2.heap.size 56 #[.string la,.int .i64 fi,.string U,.string U]:=by rw [←hw3];exact Has.fresh _ _ _
 have r1:=R3.cell 1
 simp at r1
 have q0:=F3.cell 0
 have q1:=F3.cell 1
 have q2:=F3.cell 2
 have q3:=F3.cell 3
 have p0:=T3.cell 0
 have p1:=T3.cell 1
 have p2:=T3.cell 2
 have p3:=T3.cell 3
 have z0:=T3.free 0
 have z1:=T3.free 1
 have z2:=T3.free 2
 have z3:=T3.free 3
 simp at q0 q1 q2 q3 p0 p1 p2 p3
 clear b2 R1 T1 B1 KU R2 T2 B2
 clear q0 q1 q3 p0 p1 p2 p3 z0 z1 z2 z3
 have z3:=F3.free 3
 go_wp2_with fail
 refine (KC.out _).mono ?_
 rintro e w4 ⟨R,hRk,rfl,b4⟩
 have hR2:=(jq hRk).symm
 have HR:Hid (QO (Qb s) (ordB (Qb s) true)∨ordB (Qb s) true=Qm (Qb s)):=Qa (.inl (by rw [←hR2];exact hRk))
 rw [←hR2] at HV
 clear hR2 hRk KC
 have s4:=b4.size
 have B4:=Qc b4 B3.size B3
 have T4:=T3.below b4 T3.lt
 have F4:=F3.below b4 F3.lt
 have q0:=F4.cell 0
 have q1:=F4.cell 1
 have q2:=F4.cell 2
 have q3:=F4.cell 3
 have y3:=F4.free 3
 have p0:=T4.cell 0
 have p1:=T4.cell 1
 have p2:=T4.cell 2
 have p3:=T4.cell 3
 have z0:=T4.free 0
 have z1:=T4.free 1
 have z2:=T4.free 2
 have z3:=T4.free 3
 simp at q0 q1 q2 q3 p0 p1 p2 p3
 have hne:¬ w2.heap.size=w.heap.size+1:=by omega
 have hne2:¬ w.heap.size+1=w2.heap.size:=by omega
 clear b4 hw3 B3 T3 F3 r1 R3
 go_wp2
 refine bodyPost_ret (v:=.agg #[.string la,.int .i64 fi,.string U,.string (Qg R)]) (by simp [results,Tryz.results30,go_sem,p0,p1,p2,p3,z0,z1,z2,z3,hne,hne2]) rfl ⟨by rw [HV.out],HR,?_⟩
 repeat (first | exact Below.refl _ _ | assumption | refine Below.alloc ?_ (by (try simp);(try omega)) _ | refine Below.setCell ?_ (by (try simp);(try omega)) _)
theorem AEh (rc:Value) (s:ByteArray) (b:Bool) (w:World) (hs:s.size≤1048576) :
 Calls Tryz.prog 30 #[.agg #[rc,.bool b],.string s] w fun e w'=>e=.returned (turV s b)∧Hid (QO (Qb s) (ordB (Qb s) b)∨ordB (Qb s) b=Qm (Qb s))∧Below w.heap.size w w':=by
 cases b
 ·exact ANn rc s w hs
 ·exact AQf rc s w hs
end Go.Proofs.YtembljihmnmmfaaGreat
