/- Texts of the proof, merged. -/
import Derived.Test.YtembljihmnmmfaaGreatKB52
import Derived.Test.YtembljihmnmmfaaGreatKB41
import Derived.Test.YtembljihmnmmfaaGreatKB27
import Derived.Test.YtembljihmnmmfaaGreatKB44
import Derived.Test.YtembljihmnmmfaaGreatKB45
import Derived.Test.YtembljihmnmmfaaGreatKB46
import Derived.Deep.RegionHeld3
import Derived.Test.YtembljihmnmmfaaGreatKB2
namespace Go.Proofs.YtembljihmnmmfaaGreat
set_option maxHeartbeats 4000000
set_option maxRecDepth 100000
set_option linter.unusedVariables false
set_option linter.unusedSimpArgs false
open Go.RowKit
theorem AHr (s us:ByteArray) (fi:Int) (b:Bool) (O:List Nat) (q n:Nat) (w:World) (hs:0<s.size∧s.size≤600) (hO:Byt O) (hn:O.length=n) (hn6:n≤256) (hr:rOk (rkS s O) n=true) (hq:(rkS s O).length=q) :
 Calls Tryz.prog 59 #[.agg #[.iface 83 (.agg #[]),.bool b],.agg #[.string (lstZ s),.int .i64 fi,.string us,.string (Qg O)]] w fun e w'=>∃ g,e=.returned (.agg #[.slice none 0 0,.slice (some ⟨g,0,none⟩) q q])∧w'.ownsRow w.heap.size 3 1 (.slice (some ⟨g,0,none⟩) q q) q (Qo (mtfZ (rkS s O) n))∧Below w.heap.size w w':=by
 have KT:=Qa (fun W=>by
  have h:=JP (lstZ s) (Qg O) W (by have:=xr s;omega) (by rw [QB];omega)
  rw [QI hO] at h
  exact h)
 have hzO:(Qg O).size=n:=by rw [QB,hn]
 obtain ⟨OS,hOS⟩:∃ OS,Qg O=OS:=⟨_,rfl⟩
 obtain ⟨LS,hLS⟩:∃ LS,lstZ s=LS:=⟨_,rfl⟩
 have hrk:rkS s O=rkL (Qb (lstZ s)) O:=rfl
 rw [←hrk] at KT
 obtain ⟨rb,hrb⟩:∃ rb,rkOk (Qb (lstZ s)) O=rb:=⟨_,rfl⟩
 rw [hrb] at KT
 rw [hOS] at KT hzO ⊢
 rw [hLS] at KT ⊢
 obtain ⟨L,m,hL,hm,hm1,hm2,hL6,hLm⟩:=Za hr
 obtain rfl:n=m:=by omega
 have hr2:=hr
 rw [hL] at KT hr2 hq ⊢
 rw [Qj] at hq
 rw [Qj,hq] at KT
 rw [Qy] at KT
 rw [JS hr2,Qy]
 have HR:=Qa hr2
 have HLQ:=Qa hq
 have HL6:=Qa hLm
 have bb:Below w.heap.size w (((w.alloc (.cells #[.iface 83 (.agg #[]),.bool b] 51)).alloc (.cells #[.string LS,.int .i64 fi,.string us,.string OS] 56)).alloc (.cells #[.slice none 0 0,.slice none 0 0] 87)):=(((Below.refl _ _).alloc (Nat.le_refl _) _).alloc (by simp) _).alloc (by simp;omega) _
 obtain ⟨w0,hwe⟩:∃ w0,((w.alloc (.cells #[.iface 83 (.agg #[]),.bool b] 51)).alloc (.cells #[.string LS,.int .i64 fi,.string us,.string OS] 56)).alloc (.cells #[.slice none 0 0,.slice none 0 0] 87)=w0:=⟨_,rfl⟩
 have RK0:Has w0 w.heap.size 51 #[.iface 83 (.agg #[]),.bool b]:=by rw [←hwe];exact ((Has.fresh _ _ _).alloc _).alloc _
 have TU0:Has w0 (w.heap.size+1) 56 #[.string LS,.int .i64 fi,.string us,.string OS]:=by rw [←hwe];exact (Has.freshAt (by simp) _ _).alloc _
 have RC0:Has w0 (w.heap.size+2) 87 #[.slice none 0 0,.slice none 0 0]:=by rw [←hwe];exact Has.freshAt (by simp) _ _
 have hw0:w0.heap.size=w.heap.size+3:=by rw [←hwe];simp
 rw [hwe] at bb
 have t0:=TU0.cell 0
 have t3:=TU0.cell 3
 simp at t0 t3
 clear hr hr2 hrk hL hOS hLS hq hm hLm hO hrb
 go_enter Tryz.func59,Tryz.ntmps59
 go_wp2_with fail
 refine (KT.out _).mono ?_
 rintro e w1 ⟨v,rfl,o1,b1⟩
 obtain ⟨a1,c1,rfl⟩:=Qq o1
 have s1:=b1.size
 have B1:=Qc b1 (by omega) bb
 have RK1:=RK0.below b1 RK0.lt
 have TU1:=TU0.below b1 TU0.lt
 have RC1:=RC0.below b1 RC0.lt
 have hI:=(Ints.ofOwn (zs:=ints L) (by rw [Qy];exact o1) (by rw [←HLQ.out];omega) (fun x hx=>by obtain ⟨y,hy,rfl⟩:=List.mem_map.1 hx;have:=HL6.out y hy;omega)).2
 have KE:=Qa (VV a1 c1 w1.heap.size n L w1 hI (Nat.le_refl _) HR.out (by omega) hL6 HL6.out)
 rw [HLQ.out] at KE
 have r0:=RK1.cell 0
 have t3:=TU1.cell 3
 simp at r0 t3
 clear bb RK0 TU0 RC0 hI b1 o1 t0 KT hwe
 go_wp2_with fail
 refine KE.out.mono ?_
 rintro e w2 ⟨g,rfl,o2,b2⟩
 have RC2:=RC1.below b2 RC1.lt
 have B2:=Qc b2 (by omega) B1
 have hgw:=(o2.lt g rfl).1
 have HO:=Qa (Joins.ownsRow_le o2 (show w.heap.size≤w1.heap.size by omega))
 have e0:=RC2.cell 0
 have e1:=RC2.cell 1
 have g0:=RC2.free 0
 have g1:=RC2.free 1
 simp at e0 e1
 have hne:¬ g=w.heap.size+2:=by omega
 have s2:=b2.size
 clear b2 o2 RC1 RK1 TU1 r0 t3 B1
 go_wp2
 refine bodyPost_ret (v:=.agg #[.slice none 0 0,.slice (some ⟨g,0,none⟩) q q]) (by simp [results,Tryz.results59,go_sem,e0,e1,g0,g1]) rfl ⟨g,rfl,?_,?_⟩
 ·exact ownsRow_setCell_other (ownsRow_setCell_other HO.out (by simp [Value.ownBlock];omega) _) (by simp [Value.ownBlock];omega) _
 ·repeat (first | exact B2 | refine Below.setCell ?_ (by (try simp);(try omega)) _)
theorem AIz (s us:ByteArray) (fi:Int) (b:Bool) (O:List Nat) (q n:Nat) (w:World) (hs:0<s.size∧s.size≤600) (hO:Byt O) (hn:O.length=n) (hn6:n≤256) (hr:rOk (rkS s O) n=true) (hq:(rkS s O).length=q) :
 Calls Tryz.prog 59 #[.agg #[.iface 84 (.agg #[]),.bool b],.agg #[.string (lstZ s),.int .i64 fi,.string us,.string (Qg O)]] w fun e w'=>∃ g,e=.returned (.agg #[.slice none 0 0,.slice (some ⟨g,0,none⟩) q q])∧w'.ownsRow w.heap.size 3 1 (.slice (some ⟨g,0,none⟩) q q) q (Qo (sbrZ (rkS s O) n))∧Below w.heap.size w w':=by
 have KT:=Qa (fun W=>by
  have h:=JP (lstZ s) (Qg O) W (by have:=xr s;omega) (by rw [QB];omega)
  rw [QI hO] at h
  exact h)
 have hzO:(Qg O).size=n:=by rw [QB,hn]
 obtain ⟨OS,hOS⟩:∃ OS,Qg O=OS:=⟨_,rfl⟩
 obtain ⟨LS,hLS⟩:∃ LS,lstZ s=LS:=⟨_,rfl⟩
 have hrk:rkS s O=rkL (Qb (lstZ s)) O:=rfl
 rw [←hrk] at KT
 obtain ⟨rb,hrb⟩:∃ rb,rkOk (Qb (lstZ s)) O=rb:=⟨_,rfl⟩
 rw [hrb] at KT
 rw [hOS] at KT hzO ⊢
 rw [hLS] at KT ⊢
 obtain ⟨L,m,hL,hm,hm1,hm2,hL6,hLm⟩:=Za hr
 obtain rfl:n=m:=by omega
 have hr2:=hr
 rw [hL] at KT hr2 hq ⊢
 rw [Qj] at hq
 rw [Qj,hq] at KT
 rw [Qy] at KT
 rw [Vc hr2,Qy]
 have HR:=Qa hr2
 have HLQ:=Qa hq
 have HL6:=Qa hLm
 have bb:Below w.heap.size w (((w.alloc (.cells #[.iface 84 (.agg #[]),.bool b] 51)).alloc (.cells #[.string LS,.int .i64 fi,.string us,.string OS] 56)).alloc (.cells #[.slice none 0 0,.slice none 0 0] 87)):=(((Below.refl _ _).alloc (Nat.le_refl _) _).alloc (by simp) _).alloc (by simp;omega) _
 obtain ⟨w0,hwe⟩:∃ w0,((w.alloc (.cells #[.iface 84 (.agg #[]),.bool b] 51)).alloc (.cells #[.string LS,.int .i64 fi,.string us,.string OS] 56)).alloc (.cells #[.slice none 0 0,.slice none 0 0] 87)=w0:=⟨_,rfl⟩
 have RK0:Has w0 w.heap.size 51 #[.iface 84 (.agg #[]),.bool b]:=by rw [←hwe];exact ((Has.fresh _ _ _).alloc _).alloc _
 have TU0:Has w0 (w.heap.size+1) 56 #[.string LS,.int .i64 fi,.string us,.string OS]:=by rw [←hwe];exact (Has.freshAt (by simp) _ _).alloc _
 have RC0:Has w0 (w.heap.size+2) 87 #[.slice none 0 0,.slice none 0 0]:=by rw [←hwe];exact Has.freshAt (by simp) _ _
 have hw0:w0.heap.size=w.heap.size+3:=by rw [←hwe];simp
 rw [hwe] at bb
 have t0:=TU0.cell 0
 have t3:=TU0.cell 3
 simp at t0 t3
 clear hr hr2 hrk hL hOS hLS hq hm hLm hO hrb
 go_enter Tryz.func59,Tryz.ntmps59
 go_wp2_with fail
 refine (KT.out _).mono ?_
 rintro e w1 ⟨v,rfl,o1,b1⟩
 obtain ⟨a1,c1,rfl⟩:=Qq o1
 have s1:=b1.size
 have B1:=Qc b1 (by omega) bb
 have RK1:=RK0.below b1 RK0.lt
 have TU1:=TU0.below b1 TU0.lt
 have RC1:=RC0.below b1 RC0.lt
 have hI:=(Ints.ofOwn (zs:=ints L) (by rw [Qy];exact o1) (by rw [←HLQ.out];omega) (fun x hx=>by obtain ⟨y,hy,rfl⟩:=List.mem_map.1 hx;have:=HL6.out y hy;omega)).2
 have KE:=Qa (AAa a1 c1 w1.heap.size n L w1 hI (Nat.le_refl _) HR.out (by omega) (by omega) hL6 HL6.out)
 rw [HLQ.out] at KE
 have r0:=RK1.cell 0
 have t3:=TU1.cell 3
 simp at r0 t3
 clear bb RK0 TU0 RC0 hI b1 o1 t0 KT hwe
 go_wp2_with fail
 refine KE.out.mono ?_
 rintro e w2 ⟨g,rfl,o2,b2⟩
 have RC2:=RC1.below b2 RC1.lt
 have B2:=Qc b2 (by omega) B1
 have hgw:=(o2.lt g rfl).1
 have HO:=Qa (Joins.ownsRow_le o2 (show w.heap.size≤w1.heap.size by omega))
 have e0:=RC2.cell 0
 have e1:=RC2.cell 1
 have g0:=RC2.free 0
 have g1:=RC2.free 1
 simp at e0 e1
 have hne:¬ g=w.heap.size+2:=by omega
 have s2:=b2.size
 clear b2 o2 RC1 RK1 TU1 r0 t3 B1
 go_wp2
 refine bodyPost_ret (v:=.agg #[.slice none 0 0,.slice (some ⟨g,0,none⟩) q q]) (by simp [results,Tryz.results59,go_sem,e0,e1,g0,g1]) rfl ⟨g,rfl,?_,?_⟩
 ·exact ownsRow_setCell_other (ownsRow_setCell_other HO.out (by simp [Value.ownBlock];omega) _) (by simp [Value.ownBlock];omega) _
 ·repeat (first | exact B2 | refine Below.setCell ?_ (by (try simp);(try omega)) _)
theorem AHc (s us:ByteArray) (fi:Int) (b:Bool) (O:List Nat) (q n:Nat) (w:World) (hs:0<s.size∧s.size≤600) (hO:Byt O) (hn:O.length=n) (hn6:n≤256) (hr:rOk (rkS s O) n=true) (hq:(rkS s O).length=q) :
 Calls Tryz.prog 59 #[.agg #[.iface 85 (.agg #[]),.bool b],.agg #[.string (lstZ s),.int .i64 fi,.string us,.string (Qg O)]] w fun e w'=>∃ v0 v1 z1,e=.returned (.agg #[v0,v1])∧w'.ownsRow w.heap.size 3 1 v0 n (Qo (invC (rkS s O) n))∧w'.ownsRow w.heap.size 3 1 v1 z1 (Qo (invG (rkS s O) n))∧z1≤600∧Below w.heap.size w w':=by
 have KT:=Qa (fun W=>by
  have h:=JP (lstZ s) (Qg O) W (by have:=xr s;omega) (by rw [QB];omega)
  rw [QI hO] at h
  exact h)
 have hzO:(Qg O).size=n:=by rw [QB,hn]
 obtain ⟨OS,hOS⟩:∃ OS,Qg O=OS:=⟨_,rfl⟩
 obtain ⟨LS,hLS⟩:∃ LS,lstZ s=LS:=⟨_,rfl⟩
 have hrk:rkS s O=rkL (Qb (lstZ s)) O:=rfl
 rw [←hrk] at KT
 obtain ⟨rb,hrb⟩:∃ rb,rkOk (Qb (lstZ s)) O=rb:=⟨_,rfl⟩
 rw [hrb] at KT
 rw [hOS] at KT hzO ⊢
 rw [hLS] at KT ⊢
 obtain ⟨L,m,hL,hm,hm1,hm2,hL6,hLm⟩:=Za hr
 obtain rfl:n=m:=by omega
 have hr2:=hr
 rw [hL] at KT hr2 hq ⊢
 rw [Qj] at hq
 rw [Qj,hq] at KT
 rw [Qy] at KT
 rw [jX hr2,jJ hr2,Qy,Qy]
 have HR:=Qa hr2
 have HLQ:=Qa hq
 have HL6:=Qa hLm
 have bb:Below w.heap.size w (((w.alloc (.cells #[.iface 85 (.agg #[]),.bool b] 51)).alloc (.cells #[.string LS,.int .i64 fi,.string us,.string OS] 56)).alloc (.cells #[.slice none 0 0,.slice none 0 0] 87)):=(((Below.refl _ _).alloc (Nat.le_refl _) _).alloc (by simp) _).alloc (by simp;omega) _
 obtain ⟨w0,hwe⟩:∃ w0,((w.alloc (.cells #[.iface 85 (.agg #[]),.bool b] 51)).alloc (.cells #[.string LS,.int .i64 fi,.string us,.string OS] 56)).alloc (.cells #[.slice none 0 0,.slice none 0 0] 87)=w0:=⟨_,rfl⟩
 have RK0:Has w0 w.heap.size 51 #[.iface 85 (.agg #[]),.bool b]:=by rw [←hwe];exact ((Has.fresh _ _ _).alloc _).alloc _
 have TU0:Has w0 (w.heap.size+1) 56 #[.string LS,.int .i64 fi,.string us,.string OS]:=by rw [←hwe];exact (Has.freshAt (by simp) _ _).alloc _
 have RC0:Has w0 (w.heap.size+2) 87 #[.slice none 0 0,.slice none 0 0]:=by rw [←hwe];exact Has.freshAt (by simp) _ _
 have hw0:w0.heap.size=w.heap.size+3:=by rw [←hwe];simp
 rw [hwe] at bb
 have t0:=TU0.cell 0
 have t3:=TU0.cell 3
 simp at t0 t3
 clear hr hr2 hrk hL hOS hLS hq hm hLm hO hrb
 go_enter Tryz.func59,Tryz.ntmps59
 go_wp2_with fail
 refine (KT.out _).mono ?_
 rintro e w1 ⟨v,rfl,o1,b1⟩
 obtain ⟨a1,c1,rfl⟩:=Qq o1
 have s1:=b1.size
 have B1:=Qc b1 (by omega) bb
 have RK1:=RK0.below b1 RK0.lt
 have TU1:=TU0.below b1 TU0.lt
 have RC1:=RC0.below b1 RC0.lt
 have hI:=(Ints.ofOwn (zs:=ints L) (by rw [Qy];exact o1) (by rw [←HLQ.out];omega) (fun x hx=>by obtain ⟨y,hy,rfl⟩:=List.mem_map.1 hx;have:=HL6.out y hy;omega)).2
 have KE:=Qa (vC a1 c1 w1.heap.size n L w1 hI (Nat.le_refl _) HR.out (by omega) (by omega) hL6 HL6.out)
 rw [HLQ.out] at KE
 have r0:=RK1.cell 0
 have t3:=TU1.cell 3
 simp at r0 t3
 clear bb RK0 TU0 RC0 hI b1 o1 t0 KT hwe
 go_wp2_with fail
 refine KE.out.mono ?_
 rintro e w2 ⟨cb,aG,nG,cG,rfl,o2,o3,hne,b2⟩
 have RC2:=RC1.below b2 RC1.lt
 have B2:=Qc b2 (by omega) B1
 have hgw:=(o2.lt cb rfl).1
 have HO2:=Qa (Joins.ownsRow_le o2 (show w.heap.size≤w1.heap.size by omega))
 have HL3:Hid (∀ g,(Value.slice aG nG cG).ownBlock=some g→w1.heap.size≤g):=Qa (fun g hg=>(o3.lt g hg).1)
 have HO3:=Qa (Joins.ownsRow_le o3 (show w.heap.size≤w1.heap.size by omega))
 have HGL:Hid ((Qs L (n-1)).length≤600):=Qa (Nat.le_trans (VE HL6.out (by omega)) hL6)
 have e0:=RC2.cell 0
 have e1:=RC2.cell 1
 have g0:=RC2.free 0
 have g1:=RC2.free 1
 simp at e0 e1
 have s2:=b2.size
 clear b2 o2 o3 RC1 RK1 TU1 r0 t3 B1 hne
 go_wp2
 refine bodyPost_ret (v:=.agg #[.slice (some ⟨cb,0,none⟩) n n,.slice aG nG cG]) (by simp [results,Tryz.results59,go_sem,e0,e1,g0,g1]) rfl ⟨_,_,_,rfl,?_,?_,HGL.out,?_⟩
 ·exact ownsRow_setCell_other (ownsRow_setCell_other HO2.out (by simp [Value.ownBlock];omega) _) (by simp [Value.ownBlock];omega) _
 ·exact ownsRow_setCell_other (ownsRow_setCell_other HO3.out (fun e=>by have:=HL3.out _ e;simp at this;omega) _) (fun e=>by have:=HL3.out _ e;simp at this;omega) _
 ·repeat (first | exact B2 | refine Below.setCell ?_ (by (try simp);(try omega)) _)
theorem AMm (s us:ByteArray) (fi t:Int) (b:Bool) (O:List Nat) (n:Nat) (w:World) (hs:0<s.size∧s.size≤600) (hO:Byt O) (hn:O.length=n) (hn6:n≤256) (hr:rOk (rkS s O) n=true) :
 Calls Tryz.prog 29 #[.agg #[.iface 83 (.agg #[]),.bool b,.int .i64 t],.agg #[.string (lstZ s),.int .i64 fi,.string us,.string (Qg O)]] w fun e w'=>∃ v,e=.returned v∧w'.ownsRow w.heap.size 3 1 v (stgR (rkS s O) 1 n).length (Qo (stgR (rkS s O) 1 n))∧Below w.heap.size w w':=by
 obtain ⟨q,hq⟩:∃ q,(rkS s O).length=q:=⟨_,rfl⟩
 have KN:=Qa (fun W=>AHr s us fi b O q n W hs hO hn hn6 hr hq)
 have e5:stgR (rkS s O) 1 n=ZP (mtfZ (rkS s O) n) n:=by simp [stgR]
 rw [e5]
 have hb5:=AEb (rkS s O) (n:Int)
 have hql:(mtfZ (rkS s O) n).length=q:=by
  obtain ⟨L,k,h1,h2,_,_,_,_⟩:=Za hr
  have hr2:=hr
  rw [h1,h2] at hr2 ⊢
  rw [JS hr2,Qj,Xc,←hq,h1,Qj]
 have hzO:(Qg O).size=n:=by rw [QB,hn]
 obtain ⟨OS,hOS⟩:∃ OS,Qg O=OS:=⟨_,rfl⟩
 obtain ⟨LS,hLS⟩:∃ LS,lstZ s=LS:=⟨_,rfl⟩
 obtain ⟨D,hD⟩:∃ D,mtfZ (rkS s O) (n:Int)=D:=⟨_,rfl⟩
 rw [hOS,hLS,hD] at KN
 rw [hOS] at hzO
 rw [hOS,hLS,hD]
 rw [hD] at hb5 hql
 have HB5:=Qa hb5
 have HQL:=Qa hql
 have hq6:q≤600:=by rw [←hql];exact hb5.1
 obtain ⟨w0,hwe⟩:∃ w0,(w.alloc (.cells #[.iface 83 (.agg #[]),.bool b,.int .i64 t] 53)).alloc (.cells #[.string LS,.int .i64 fi,.string us,.string OS] 56)=w0:=⟨_,rfl⟩
 have hw0:w0.heap.size=w.heap.size+2:=by rw [←hwe];simp
 have bb:Below w.heap.size w w0:=by rw [←hwe];exact ((Below.refl _ _).alloc (Nat.le_refl _) _).alloc (by simp) _
 have TB0:Has w0 w.heap.size 53 #[.iface 83 (.agg #[]),.bool b,.int .i64 t]:=by rw [←hwe];exact (Has.fresh _ _ _).alloc _
 have TU0:Has w0 (w.heap.size+1) 56 #[.string LS,.int .i64 fi,.string us,.string OS]:=by rw [←hwe];exact Has.freshAt (by simp) _ _
 have HTB:=Qa TB0
 have HTU:=Qa TU0
 have c0:=TB0.cell 0
 have c1:=TB0.cell 1
 have t0:=TU0.cell 0
 have t1:=TU0.cell 1
 have t2:=TU0.cell 2
 have t3:=TU0.cell 3
 simp at c0 c1 t0 t1 t2 t3
 have bd:Below w0.heap.size w0 w0:=Below.refl _ _
 have hfd:=qH
 clear hr hq e5 hb5 hql hD hOS hLS hO hn TB0 TU0
 go_enter Tryz.func29,Tryz.ntmps29
 go_wp2_with fail
 go_region_held3 (fun w'=>w'.cell? ⟨w.heap.size,0,none⟩=some (.iface 83 (.agg #[]))∧w'.cell? ⟨w.heap.size,1,none⟩=some (.bool b)∧w'.cell? ⟨w.heap.size+1,0,none⟩=some (.string LS)∧w'.cell? ⟨w.heap.size+1,1,none⟩=some (.int .i64 fi)∧w'.cell? ⟨w.heap.size+1,2,none⟩=some (.string us)∧w'.cell? ⟨w.heap.size+1,3,none⟩=some (.string OS)) (go_keep) (first
  | (go_at_call 59;(with_reducible refine (KN.out _).mono ?_);rintro e wX ⟨g,rfl,oX,BX⟩;have sX:=BX.size;replace bd:Below w0.heap.size w0 wX:=Qc BX bd.size ⟨bd.os,bd.tape,bd.output,bd.size,bd.block⟩;have TBX:=HTB.out.below bd (by omega);have TUX:=HTU.out.below bd (by omega);have c0:=TBX.cell 0;have c1:=TBX.cell 1;have t0:=TUX.cell 0;have t1:=TUX.cell 1;have t2:=TUX.cell 2;have t3:=TUX.cell 3;simp at c0 c1 t0 t1 t2 t3;have hIX:=(Ints.ofOwn oX (by omega) (fun x hx=>by have:=HB5.out.2 x hx;omega)).2;have KP:=Qa (fun (W:World) (h:Below wX.heap.size wX W)=>YY (some ⟨g,0,none⟩) q wX.heap.size D (n:Int) W (hIX.below h) h.size (by rw [HQL.out];omega) (by rw [HQL.out];exact Nat.le_refl _) (by omega) (by omega));rw [HQL.out] at KP;clear oX hIX TBX TUX BX;have by2:Below wX.heap.size wX wX:=Below.refl _ _)
  | (go_at_call 58;(with_reducible refine (KP.out _ ?hW).mono ?_);(case hW=>exact ⟨by2.os,by2.tape,by2.output,by2.size,by2.block⟩);rintro e wY ⟨vY,rfl,oY,BY⟩;have szX:w0.heap.size≤wX.heap.size:=bd.size;replace bd:Below w0.heap.size w0 wY:=Qc BY bd.size ⟨bd.os,bd.tape,bd.output,bd.size,bd.block⟩;have TBX:=HTB.out.below bd (by omega);have TUX:=HTU.out.below bd (by omega);have c0:=TBX.cell 0;have c1:=TBX.cell 1;have t0:=TUX.cell 0;have t1:=TUX.cell 1;have t2:=TUX.cell 2;have t3:=TUX.cell 3;simp at c0 c1 t0 t1 t2 t3;have HOY:=Qa oY;clear TBX TUX oY BY))
 all_goals
  go_wp2
  go_ret
  exact ⟨_,rfl,Joins.ownsRow_le HOY.out (by omega),bb.trans (Below.mono (show Below w0.heap.size w0 _ from ⟨bd.os,bd.tape,bd.output,bd.size,bd.block⟩) (by omega))⟩
theorem ALe (s us:ByteArray) (fi t:Int) (b:Bool) (O:List Nat) (n:Nat) (w:World) (hs:0<s.size∧s.size≤600) (hO:Byt O) (hn:O.length=n) (hn6:n≤256) (hr:rOk (rkS s O) n=true) :
 Calls Tryz.prog 29 #[.agg #[.iface 84 (.agg #[]),.bool b,.int .i64 t],.agg #[.string (lstZ s),.int .i64 fi,.string us,.string (Qg O)]] w fun e w'=>∃ v,e=.returned v∧w'.ownsRow w.heap.size 3 1 v (stgR (rkS s O) 2 n).length (Qo (stgR (rkS s O) 2 n))∧Below w.heap.size w w':=by
 obtain ⟨q,hq⟩:∃ q,(rkS s O).length=q:=⟨_,rfl⟩
 have KN:=Qa (fun W=>AIz s us fi b O q n W hs hO hn hn6 hr hq)
 have e5:stgR (rkS s O) 2 n=ZP (sbrZ (rkS s O) n) n:=by simp [stgR]
 rw [e5]
 have hb5:=ADy (rkS s O) (n:Int)
 have hql:(sbrZ (rkS s O) n).length=q:=by
  obtain ⟨L,k,h1,h2,_,_,_,_⟩:=Za hr
  have hr2:=hr
  rw [h1,h2] at hr2 ⊢
  rw [Vc hr2,Qj,Xc,←hq,h1,Qj]
 have hzO:(Qg O).size=n:=by rw [QB,hn]
 obtain ⟨OS,hOS⟩:∃ OS,Qg O=OS:=⟨_,rfl⟩
 obtain ⟨LS,hLS⟩:∃ LS,lstZ s=LS:=⟨_,rfl⟩
 obtain ⟨D,hD⟩:∃ D,sbrZ (rkS s O) (n:Int)=D:=⟨_,rfl⟩
 rw [hOS,hLS,hD] at KN
 rw [hOS] at hzO
 rw [hOS,hLS,hD]
 rw [hD] at hb5 hql
 have HB5:=Qa hb5
 have HQL:=Qa hql
 have hq6:q≤600:=by rw [←hql];exact hb5.1
 obtain ⟨w0,hwe⟩:∃ w0,(w.alloc (.cells #[.iface 84 (.agg #[]),.bool b,.int .i64 t] 53)).alloc (.cells #[.string LS,.int .i64 fi,.string us,.string OS] 56)=w0:=⟨_,rfl⟩
 have hw0:w0.heap.size=w.heap.size+2:=by rw [←hwe];simp
 have bb:Below w.heap.size w w0:=by rw [←hwe];exact ((Below.refl _ _).alloc (Nat.le_refl _) _).alloc (by simp) _
 have TB0:Has w0 w.heap.size 53 #[.iface 84 (.agg #[]),.bool b,.int .i64 t]:=by rw [←hwe];exact (Has.fresh _ _ _).alloc _
 have TU0:Has w0 (w.heap.size+1) 56 #[.string LS,.int .i64 fi,.string us,.string OS]:=by rw [←hwe];exact Has.freshAt (by simp) _ _
 have HTB:=Qa TB0
 have HTU:=Qa TU0
 have c0:=TB0.cell 0
 have c1:=TB0.cell 1
 have t0:=TU0.cell 0
 have t1:=TU0.cell 1
 have t2:=TU0.cell 2
 have t3:=TU0.cell 3
 simp at c0 c1 t0 t1 t2 t3
 have bd:Below w0.heap.size w0 w0:=Below.refl _ _
 have hfd:=qH
 clear hr hq e5 hb5 hql hD hOS hLS hO hn TB0 TU0
 go_enter Tryz.func29,Tryz.ntmps29
 go_wp2_with fail
 go_region_held3 (fun w'=>w'.cell? ⟨w.heap.size,0,none⟩=some (.iface 84 (.agg #[]))∧w'.cell? ⟨w.heap.size,1,none⟩=some (.bool b)∧w'.cell? ⟨w.heap.size+1,0,none⟩=some (.string LS)∧w'.cell? ⟨w.heap.size+1,1,none⟩=some (.int .i64 fi)∧w'.cell? ⟨w.heap.size+1,2,none⟩=some (.string us)∧w'.cell? ⟨w.heap.size+1,3,none⟩=some (.string OS)) (go_keep) (first
  | (go_at_call 59;(with_reducible refine (KN.out _).mono ?_);rintro e wX ⟨g,rfl,oX,BX⟩;have sX:=BX.size;replace bd:Below w0.heap.size w0 wX:=Qc BX bd.size ⟨bd.os,bd.tape,bd.output,bd.size,bd.block⟩;have TBX:=HTB.out.below bd (by omega);have TUX:=HTU.out.below bd (by omega);have c0:=TBX.cell 0;have c1:=TBX.cell 1;have t0:=TUX.cell 0;have t1:=TUX.cell 1;have t2:=TUX.cell 2;have t3:=TUX.cell 3;simp at c0 c1 t0 t1 t2 t3;have hIX:=(Ints.ofOwn oX (by omega) (fun x hx=>by have:=HB5.out.2 x hx;omega)).2;have KP:=Qa (fun (W:World) (h:Below wX.heap.size wX W)=>YY (some ⟨g,0,none⟩) q wX.heap.size D (n:Int) W (hIX.below h) h.size (by rw [HQL.out];omega) (by rw [HQL.out];exact Nat.le_refl _) (by omega) (by omega));rw [HQL.out] at KP;clear oX hIX TBX TUX BX;have by2:Below wX.heap.size wX wX:=Below.refl _ _)
  | (go_at_call 58;(with_reducible refine (KP.out _ ?hW).mono ?_);(case hW=>exact ⟨by2.os,by2.tape,by2.output,by2.size,by2.block⟩);rintro e wY ⟨vY,rfl,oY,BY⟩;have szX:w0.heap.size≤wX.heap.size:=bd.size;replace bd:Below w0.heap.size w0 wY:=Qc BY bd.size ⟨bd.os,bd.tape,bd.output,bd.size,bd.block⟩;have TBX:=HTB.out.below bd (by omega);have TUX:=HTU.out.below bd (by omega);have c0:=TBX.cell 0;have c1:=TBX.cell 1;have t0:=TUX.cell 0;have t1:=TUX.cell 1;have t2:=TUX.cell 2;have t3:=TUX.cell 3;simp at c0 c1 t0 t1 t2 t3;have HOY:=Qa oY;clear TBX TUX oY BY))
 all_goals
  go_wp2
  go_ret
  exact ⟨_,rfl,Joins.ownsRow_le HOY.out (by omega),bb.trans (Below.mono (show Below w0.heap.size w0 _ from ⟨bd.os,bd.tape,bd.output,bd.size,bd.block⟩) (by omega))⟩
theorem AVt (s us:ByteArray) (fi:Int) (b:Bool) (O:List Nat) (n:Nat) (w:World) (hs:0<s.size∧s.size≤600) (hO:Byt O) (hn:O.length=n) (hn6:n≤256) (hr:rOk (rkS s O) n=true) :
 Calls Tryz.prog 31 #[.agg #[.iface 85 (.agg #[]),.bool b],.agg #[.string (lstZ s),.int .i64 fi,.string us,.string (Qg O)]] w fun e w'=>∃ v,e=.returned v∧w'.ownsRow w.heap.size 3 1 v (stgR (rkS s O) 3 n).length (Qo (stgR (rkS s O) 3 n))∧Below w.heap.size w w':=by
 obtain ⟨q,hq⟩:∃ q,(rkS s O).length=q:=⟨_,rfl⟩
 have KN:=Qa (fun W=>AHc s us fi b O q n W hs hO hn hn6 hr hq)
 have e5:stgR (rkS s O) 3 n=invC (rkS s O) n++invG (rkS s O) n:=by simp [stgR]
 rw [e5,List.length_append]
 obtain ⟨OS,hOS⟩:∃ OS,Qg O=OS:=⟨_,rfl⟩
 obtain ⟨LS,hLS⟩:∃ LS,lstZ s=LS:=⟨_,rfl⟩
 obtain ⟨D,hD⟩:∃ D,invC (rkS s O) (n:Int)=D:=⟨_,rfl⟩
 obtain ⟨G,hG⟩:∃ G,invG (rkS s O) (n:Int)=G:=⟨_,rfl⟩
 rw [hOS,hLS,hD,hG] at KN
 rw [hOS,hLS,hD,hG]
 obtain ⟨w0,hwe⟩:∃ w0,(w.alloc (.cells #[.iface 85 (.agg #[]),.bool b] 59)).alloc (.cells #[.string LS,.int .i64 fi,.string us,.string OS] 56)=w0:=⟨_,rfl⟩
 have hw0:w0.heap.size=w.heap.size+2:=by rw [←hwe];simp
 have bb:Below w.heap.size w w0:=by rw [←hwe];exact ((Below.refl _ _).alloc (Nat.le_refl _) _).alloc (by simp) _
 have TB0:Has w0 w.heap.size 59 #[.iface 85 (.agg #[]),.bool b]:=by rw [←hwe];exact (Has.fresh _ _ _).alloc _
 have TU0:Has w0 (w.heap.size+1) 56 #[.string LS,.int .i64 fi,.string us,.string OS]:=by rw [←hwe];exact Has.freshAt (by simp) _ _
 have c0:=TB0.cell 0
 have c1:=TB0.cell 1
 have t0:=TU0.cell 0
 have t1:=TU0.cell 1
 have t2:=TU0.cell 2
 have t3:=TU0.cell 3
 simp at c0 c1 t0 t1 t2 t3
 clear hr hq e5 hD hG hOS hLS hO hn TB0 TU0
 go_enter Tryz.func31,Tryz.ntmps31
 go_wp2_with fail
 refine (KN.out _).mono ?_
 rintro e w1 ⟨v0,v1,z1,rfl,o0,o1,hz1,b1⟩
 obtain ⟨a0,k0,rfl⟩:=Qq o0
 obtain ⟨a1,k1,rfl⟩:=Qq o1
 have s1:=b1.size
 have B1:=Qc b1 (by omega) bb
 obtain ⟨w2,hw2⟩:∃ w2,w1.alloc (.cells #[.slice a0 n k0,.slice a1 z1 k1] 87)=w2:=⟨_,rfl⟩
 have b2:Below w1.heap.size w1 w2:=by rw [←hw2];exact (Below.refl _ _).alloc (Nat.le_refl _) _
 have RC2:Has w2 w1.heap.size 87 #[.slice a0 n k0,.slice a1 z1 k1]:=by rw [←hw2];exact Has.fresh _ _ _
 have s2:w2.heap.size=w1.heap.size+1:=by rw [←hw2];simp
 obtain ⟨w3,hw3⟩:∃ w3,w2.alloc (.cells #[.slice a0 n k0,.slice a1 z1 k1] 24)=w3:=⟨_,rfl⟩
 have b3:Below w2.heap.size w2 w3:=by rw [←hw3];exact (Below.refl _ _).alloc (Nat.le_refl _) _
 have HS3:Has w3 w2.heap.size 24 #[.slice a0 n k0,.slice a1 z1 k1]:=by rw [←hw3];exact Has.fresh _ _ _
 have s3:w3.heap.size=w2.heap.size+1:=by rw [←hw3];simp
 have o03:=Ql (Ql o0 b2) b3
 have o13:=Ql (Ql o1 b2) b3
 have B3:=Qc b3 (by omega) (Qc b2 (by omega) B1)
 have hn0:D.length=n:=by have:=o0.1;rw [xp] at this;omega
 have hn1:G.length=z1:=by have:=o1.1;rw [xp] at this;omega
 have KC:=Qa (AJc w2.heap.size n z1 _ _ (.slice a0 n k0) (.slice a1 z1 k1) D G _ w3 HS3 o03 o13 (by omega) (by omega))
 have HN:=Qa hn0
 have HN1:=Qa hn1
 have e0:=RC2.cell 0
 have e1:=RC2.cell 1
 simp at e0 e1
 clear o0 o1 o03 o13 b1 b2 b3 B1 bb KN hwe c0 c1 t0 t1 t2 t3 hn0 hn1 HS3 RC2
 rw [s2] at KC
 go_wp2_with fail
 refine KC.out.mono ?_
 rintro e w4 ⟨v4,rfl,o4,b4⟩
 have B4:=Qc b4 (by omega) B3
 have HO4:=Qa (Joins.ownsRow_le o4 (show w.heap.size≤w3.heap.size by omega))
 clear o4 b4 B3 KC
 go_wp2
 go_ret
 exact ⟨_,rfl,by rw [HN.out,HN1.out];exact HO4.out,B4⟩
theorem AFh {s:ByteArray} {m t:Int} {b:Bool} (hs:0<s.size∧s.size≤600) (h:QH m b t=true):stgZ s m b t=stgR (rkS s (ordB (Qb s) b)) m ((ordB (Qb s) b).length:Int):=by
 unfold stgZ;rw [if_pos ⟨hs.1,hs.2,h⟩]
end Go.Proofs.YtembljihmnmmfaaGreat
