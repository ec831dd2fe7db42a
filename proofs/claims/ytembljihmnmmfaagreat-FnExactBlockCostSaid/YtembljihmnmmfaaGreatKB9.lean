/- Texts of the proof, merged. -/
import Derived.Sort.LotD3
import Derived.Sort.LotA
import Derived.Sort.LotB
import Derived.Sort.LotC
import Derived.BigQuiet
import Derived.Deep.QuietTactic
import Derived.Deep.RegionWith
import Derived.Test.YtembljihmnmmfaaGreatKB2
import Derived.Test.YtembljihmnmmfaaGreatKB3
namespace Go.Proofs.YtembljihmnmmfaaGreat
set_option maxHeartbeats 16000000
set_option maxRecDepth 100000
set_option linter.unusedVariables false
set_option linter.unusedSimpArgs false
open Go.RowKit Go.Sort
def Bs (w:World) (g cap:Nat) (d:Array Int):Prop:=d.size≤cap∧∃ cur:Array Value,Has w g 5 cur∧cur.size=cap∧∀ j,j<d.size→cur[j]? = some (.int .u8 d[j]!)
theorem Bs.cell {w:World} {g cap:Nat} {d:Array Int} (h:Bs w g cap d) {j:Nat} (hj:j<d.size):w.cell? ⟨g,j,none⟩=some (.int .u8 d[j]!):=by
 obtain ⟨_,cur,h1,_,h2⟩:=h
 rw [h1.cell,h2 j hj]
theorem Bs.free {w:World} {g cap:Nat} {d:Array Int} (h:Bs w g cap d) (j:Nat):w.frozen? ⟨g,j,none⟩=false:=by
 obtain ⟨_,cur,h1,_,_⟩:=h
 exact h1.free j
theorem Bs.lt {w:World} {g cap:Nat} {d:Array Int} (h:Bs w g cap d):g<w.heap.size:=by
 obtain ⟨_,cur,h1,_,_⟩:=h
 exact h1.lt
theorem Bs.drewN {w:World} {g cap:Nat} {d:Array Int} (h:Bs w g cap d) (n:Nat):Bs (w.drewN n) g cap d:=h
theorem Bs.drew {w:World} {g cap:Nat} {d:Array Int} (h:Bs w g cap d):Bs w.drew g cap d:=h
theorem Bs.only {w w':World} {g g' cap:Nat} {d:Array Int} (h:Bs w g cap d) (ho:Only g' w w') (hne:g≠g'):Bs w' g cap d:=by
 obtain ⟨h0,cur,h1,h2,h3⟩:=h
 exact ⟨h0,cur,ho.has h1 hne,h2,h3⟩
theorem Bs.alloc {w:World} {g cap:Nat} {d:Array Int} (h:Bs w g cap d) (o:Obj):Bs (w.alloc o) g cap d:=by
 obtain ⟨h0,cur,h1,h2,h3⟩:=h
 exact ⟨h0,cur,h1.alloc o,h2,h3⟩
theorem Bs.away {w:World} {g cap:Nat} {d:Array Int} (h:Bs w g cap d) {p:Addr} (hp:g≠p.block) (u:Value):Bs (w.setCell p u) g cap d:=by
 obtain ⟨h0,cur,h1,h2,h3⟩:=h
 exact ⟨h0,cur,h1.storeAway hp u,h2,h3⟩
theorem Bs.swp {w:World} {g cap:Nat} {d:Array Int} (h:Bs w g cap d) {i j:Nat} (hi:i<d.size) (hj:j<d.size) :
 Bs ((w.setCell ⟨g,i,none⟩ (.int .u8 d[j]!)).setCell ⟨g,j,none⟩ (.int .u8 d[i]!)) g cap (swp d i j):=by
 obtain ⟨h0,cur,h1,h2,h3⟩:=h
 refine ⟨by rw [size_swp];exact h0,_,(h1.store i _).store j _,by simp [h2],fun k hk=>?_⟩
 rw [size_swp] at hk
 rw [Array.getElem?_setIfInBounds,Array.getElem?_setIfInBounds]
 rw [swp_get d hi hj]
 by_cases h4:j=k
 ·subst h4
  simp [h2]
  omega
 ·by_cases h5:i=k
  ·subst h5
   simp [h2,h4]
   exact ⟨by omega,fun e=>absurd e.symm h4⟩
  ·simp [h4,h5,Ne.symm h4,Ne.symm h5]
   exact h3 k hk
theorem AMs (x:Int) (w:World):Calls Tryz.prog 219 #[.int .u8 x] w fun e w'=>e=.returned (.bool false)∧w=w':=by
 go_enter Tryz.func219,Tryz.ntmps219
 go_wp2
 go_ret
 exact ⟨by simp,rfl⟩
theorem Qv (x y:Int) (w:World):Calls Tryz.prog 209 #[.int .u8 x,.int .u8 y] w fun e w'=>e=.returned (.bool (ltInt x y))∧w=w':=by
 go_enter Tryz.func209,Tryz.ntmps209
 go_wp2_with (go_at_call 219;refine (AMs _ _).mono ?_;rintro e w' ⟨rfl,rfl⟩)
 go_ret
 exact ⟨rfl,rfl⟩
theorem qy (d:Array Int) (len:Nat) (hlen:d.size=len) (g cap a b sb s:Nat) (T:TypeId) (w:World) (hB:Bs w g cap d) (ha:a<len) (hb:b<len) (hne:g≠sb) (hS:Has w sb T #[.int .i64 s]) (hs:s<1000) :
 Calls Tryz.prog 221 #[.slice (some ⟨g,0,none⟩) len cap,.int .i64 a,.int .i64 b,.pointer (some ⟨sb,0,none⟩)] w fun e w' =>
  ∃ a' b' s':Nat,e=.returned (.tuple #[.int .i64 a',.int .i64 b'])∧(a'=a∧b'=b∨a'=b∧b'=a)∧s'≤s+1∧Has w' sb T #[.int .i64 s']∧Only sb w w':=by
 subst hlen
 have ca:=hB.cell ha
 have cb:=hB.cell hb
 have cs:=hS.cell 0
 have fs:=hS.free 0
 simp at cs
 generalize d[a]! = x at ca
 generalize d[b]! = y at cb
 go_enter Tryz.func221,Tryz.ntmps221
 go_wp2
 go_quiet ((go_at_call 209;exact Zg (Qv _ _ _)))
 cases hl:ltInt y x
 ·go_wp2
  go_ret2
  exact ⟨a,b,s,rfl,.inl ⟨rfl,rfl⟩,by omega,hS.drewN _,(Only.refl _ _).drewN _⟩
 ·go_wp2
  go_ret2
  exact ⟨b,a,s+1,rfl,.inr ⟨rfl,rfl⟩,by omega,by simpa using (hS.drewN _).store 0 (.int .i64 ((s:Int)+1)),((Only.refl _ _).drewN _).store (.inl rfl) _⟩
theorem zf (d:Array Int) (len:Nat) (hlen:d.size=len) (g cap a b c sb s:Nat) (T:TypeId) (w:World) (hB:Bs w g cap d) (ha:a<len) (hb:b<len) (hc:c<len) (hne:g≠sb) (hS:Has w sb T #[.int .i64 s]) (hs:s<900) :
 Calls Tryz.prog 218 #[.slice (some ⟨g,0,none⟩) len cap,.int .i64 a,.int .i64 b,.int .i64 c,.pointer (some ⟨sb,0,none⟩)] w fun e w' =>
  ∃ p s':Nat,e=.returned (.int .i64 p)∧(p=a∨p=b∨p=c)∧s'≤s+3∧Has w' sb T #[.int .i64 s']∧Only sb w w':=by
 go_enter Tryz.func218,Tryz.ntmps218
 go_wp2_with (fail)
 refine (qy d len hlen g cap a b sb s T w hB ha hb hne hS (by omega)).mono ?_
 rintro e w1 ⟨a1,b1,s1,rfl,h1,hs1,hS1,ho1⟩
 have hB1:=hB.only ho1 hne
 go_wp2_with (fail)
 refine (qy d len hlen g cap b1 c sb s1 T w1 hB1 (by omega) hc hne hS1 (by omega)).mono ?_
 rintro e w2 ⟨b2,c2,s2,rfl,h2,hs2,hS2,ho2⟩
 have hB2:=hB1.only ho2 hne
 go_wp2_with (fail)
 refine (qy d len hlen g cap a1 b2 sb s2 T w2 hB2 (by omega) (by omega) hne hS2 (by omega)).mono ?_
 rintro e w3 ⟨a3,b3,s3,rfl,h3,hs3,hS3,ho3⟩
 go_wp2
 go_ret
 exact ⟨b3,s3,rfl,by omega,by omega,hS3,ho1.trans (ho2.trans ho3)⟩
theorem Yu (d:Array Int) (len:Nat) (hlen:d.size=len) (g cap a sb s:Nat) (T:TypeId) (w:World) (hB:Bs w g cap d) (h0:0<a) (ha:a+1<len) (hz:len<4611686018427387904) (hne:g≠sb) (hS:Has w sb T #[.int .i64 s]) (hs:s<900) :
 Calls Tryz.prog 217 #[.slice (some ⟨g,0,none⟩) len cap,.int .i64 a,.pointer (some ⟨sb,0,none⟩)] w fun e w' =>
  ∃ p s':Nat,e=.returned (.int .i64 p)∧a≤p+1∧p≤a+1∧s'≤s+3∧Has w' sb T #[.int .i64 s']∧Only sb w w':=by
 obtain ⟨a,rfl⟩:∃ k,a=k+1:=⟨a-1,by omega⟩
 have hc:=zf d len hlen g cap a (a+1) (a+2) sb s T w hB (by omega) (by omega) ha hne hS hs
 go_enter Tryz.func217,Tryz.ntmps217
 go_wp2_with (fail)
 refine (hc).mono ?_
 rintro e w1 ⟨p,s1,rfl,hp,hs1,hS1,ho1⟩
 go_wp2
 go_ret
 exact ⟨p,s1,rfl,by omega,by omega,by omega,hS1,ho1⟩
theorem ADp {g:Nat} {w w':World} (h:Only g w w') (hg:w.heap.size≤g):Below w.heap.size w w':=h.below hg (Nat.le_refl _)
theorem vc (d:Array Int) (len:Nat) (hlen:d.size=len) (g cap a b:Nat) (w:World) (hB:Bs w g cap d) (hab:a+8≤b) (hb:b≤len) (hz:len<4611686018427387904) :
 Calls Tryz.prog 206 #[.slice (some ⟨g,0,none⟩) len cap,.int .i64 a,.int .i64 b] w fun e w' =>
  ∃ p h:Nat,e=.returned (.tuple #[.int .i64 p,.int .i64 h])∧a≤p∧p<b∧h≤2∧Below w.heap.size w w':=by
 obtain ⟨q,hq⟩:∃ q,(b-a) / 4=q:=⟨_,rfl⟩
 have hq2:((b:Int)-(a:Int)).tdiv 4=(q:Int):=by
  rw [Int.tdiv_eq_ediv_of_nonneg (by omega)]
  omega
 have hne:g≠w.heap.size:=by have:=hB.lt;omega
 have hb0:Below w.heap.size w (w.alloc (.cells #[.int .i64 0] 3)):=(Below.refl _ _).alloc (Nat.le_refl _) _
 have hS0:Has (w.alloc (.cells #[.int .i64 0] 3)) w.heap.size 3 #[.int .i64 ((0:Nat):Int)]:=Has.fresh _ _ _
 have hB0:=hB.alloc (.cells #[.int .i64 0] 3)
 go_enter Tryz.func206,Tryz.ntmps206
 by_cases h50:(b:Int)-(a:Int) ≥ 50
 ·go_wp2_with (fail)
  refine (Yu d len hlen g cap (a+q) w.heap.size 0 3 _ hB0 (by omega) (by omega) hz hne hS0 (by omega)).mono ?_
  rintro e w1 ⟨p1,s1,rfl,hp1,hp1',hs1,hS1,ho1⟩
  have hB1:=hB0.only ho1 hne
  go_wp2_with (fail)
  refine (Yu d len hlen g cap (a+q*2) w.heap.size s1 3 w1 hB1 (by omega) (by omega) hz hne hS1 (by omega)).mono ?_
  rintro e w2 ⟨p2,s2,rfl,hp2,hp2',hs2,hS2,ho2⟩
  have hB2:=hB1.only ho2 hne
  go_wp2_with (fail)
  refine (Yu d len hlen g cap (a+q*3) w.heap.size s2 3 w2 hB2 (by omega) (by omega) hz hne hS2 (by omega)).mono ?_
  rintro e w3 ⟨p3,s3,rfl,hp3,hp3',hs3,hS3,ho3⟩
  have hB3:=hB2.only ho3 hne
  go_wp2_with (fail)
  refine (zf d len hlen g cap p1 p2 p3 w.heap.size s3 3 w3 hB3 (by omega) (by omega) (by omega) hne hS3 (by omega)).mono ?_
  rintro e w4 ⟨p,s4,rfl,hp,hs4,hS4,ho4⟩
  have hO:=ADp ((Only.alloc (Only.refl w.heap.size w) (.cells #[.int .i64 0] 3)).trans (ho1.trans (ho2.trans (ho3.trans ho4)))) (Nat.le_refl _)
  have hc:=hS4.cell 0
  simp at hc
  go_wp2
  all_goals go_ret2
  all_goals first
   | exact ⟨p,0,rfl,by omega,by omega,by omega,hO⟩
   | exact ⟨p,1,rfl,by omega,by omega,by omega,hO⟩
   | exact ⟨p,2,rfl,by omega,by omega,by omega,hO⟩
 ·go_wp2_with (fail)
  refine (zf d len hlen g cap (a+q) (a+q*2) (a+q*3) w.heap.size 0 3 _ hB0 (by omega) (by omega) (by omega) hne hS0 (by omega)).mono ?_
  rintro e w4 ⟨p,s4,rfl,hp,hs4,hS4,ho4⟩
  have hO:=ADp ((Only.alloc (Only.refl w.heap.size w) (.cells #[.int .i64 0] 3)).trans ho4) (Nat.le_refl _)
  have hc:=hS4.cell 0
  simp at hc
  go_wp2
  all_goals go_ret2
  all_goals first
   | exact ⟨p,0,rfl,by omega,by omega,by omega,hO⟩
   | exact ⟨p,1,rfl,by omega,by omega,by omega,hO⟩
   | exact ⟨p,2,rfl,by omega,by omega,by omega,hO⟩
theorem AIm (d:Array Int) (len:Nat) (hlen:d.size=len) (g cap a b:Nat) (w:World) (hB:Bs w g cap d) (hab:a<b) (hb:b≤len) (hz:len<4611686018427387904) :
 Calls Tryz.prog 207 #[.slice (some ⟨g,0,none⟩) len cap,.int .i64 a,.int .i64 b] w fun e w' =>
  e=.returned (.tuple #[])∧Bs w' g cap (reverseRange d a b)∧Only g w w':=by
 obtain ⟨j0,rfl⟩:∃ j0,b=j0+1:=⟨b-1,by omega⟩
 have HB:=Qa hB
 clear hB
 go_enter Tryz.func207,Tryz.ntmps207
 go_wp2
 go_loopw [6,7] (fun si sj wr=>∃ (i j:Nat) (dk:Array Int),si=.int .i64 i∧sj=.int .i64 j∧i≤j+1∧j≤j0∧dk.size=len∧Hid (reverseLoop i j dk=reverseRange d a (j0+1))∧Hid (Bs wr g cap dk)∧Only g w wr)
  (fun si sj _=>(intOf sj).toNat+1-(intOf si).toNat)
 case atStart=>exact ⟨a,j0,d,rfl,by simp,by omega,Nat.le_refl _,hlen,Qa rfl,HB,Only.refl _ _⟩
 case round =>
  obtain ⟨i,j,dk,rfl,rfl,hij,hj,hdk,HR,HK,hO⟩:=hrel
  by_cases hlt:i<j
  ·obtain ⟨j,rfl⟩:∃ k,j=k+1:=⟨j-1,by omega⟩
   have ci:=HK.out.cell (j:=i) (by omega)
   have cj:=HK.out.cell (j:=j+1) (by omega)
   have fi:=HK.out.free i
   have fj:=HK.out.free (j+1)
   have HS:=Qa (HK.out.swp (i:=i) (j:=j+1) (by omega) (by omega))
   generalize dk[i]! = x at ci HS
   generalize dk[j+1]! = y at cj HS
   go_wp2
   go_region
   go_wp2
   go_roundw
   case measure=>simp [intOf];omega
   case rel =>
    refine ⟨i+1,j,_,rfl,by simp,by omega,by omega,by rw [size_swp];exact hdk,Qa ?_,HS,(((hO.store (.inl rfl) _).store (.inl rfl) _).drew)⟩
    rw [←HR.out,reverseLoop.eq_1 i (j+1),if_pos hlt];rfl
  ·go_wp2
   go_end0
   refine ⟨rfl,?_,hO⟩
   have h:=HR.out
   rw [reverseLoop,if_neg hlt] at h
   rw [←h];exact HK.out
theorem ADd (d:Array Int) (len:Nat) (hlen:d.size=len) (g cap a b:Nat) (w:World) (hB:Bs w g cap d) (hab:a≤b) (hb:b≤len) (hz:len<4611686018427387904) :
 Calls Tryz.prog 203 #[.slice (some ⟨g,0,none⟩) len cap,.int .i64 a,.int .i64 b] w fun e w' =>
  e=.returned (.tuple #[])∧Bs w' g cap (insertionSort ltInt d a b)∧Only g w w':=by
 have HB:=Qa hB
 clear hB
 go_enter Tryz.func203,Tryz.ntmps203
 go_wp2
 go_loopw [6] (fun si wr=>∃ (i:Nat) (dk:Array Int),si=.int .i64 i∧a<i∧(i≤b∨i=a+1)∧dk.size=len∧Hid (insOuter ltInt a b i dk=insertionSort ltInt d a b)∧Hid (Bs wr g cap dk)∧Only g w wr)
  (fun si _=>b+1-(intOf si).toNat)
 case atStart=>exact ⟨a+1,d,by simp,by omega,.inr rfl,hlen,Qa rfl,HB,Only.refl _ _⟩
 case round =>
  obtain ⟨i,dk,rfl,hai,hib,hdk,HR,HK,hO⟩:=hrel
  by_cases hlt:(i:Int)<(b:Int)
  ·go_wp2
   go_loopw [7] (fun sj wr2=>∃ (j:Nat) (dj:Array Int),sj=.int .i64 j∧a≤j∧j≤i∧dj.size=len∧Hid (insInner ltInt a j dj=insInner ltInt a i dk)∧Hid (Bs wr2 g cap dj)∧Only g w wr2)
    (fun sj _=>(intOf sj).toNat)
   case atStart=>exact ⟨i,dk,rfl,by omega,Nat.le_refl _,hdk,Qa rfl,HK,hO⟩
   case round =>
    clear hO HK
    obtain ⟨j,dj,rfl,haj,hji,hdj,HR2,HK2,hO2⟩:=hrel
    by_cases hja:a<j
    ·obtain ⟨j,rfl⟩:∃ k,j=k+1:=⟨j-1,by omega⟩
     have ci:=HK2.out.cell (j:=j) (by omega)
     have cj:=HK2.out.cell (j:=j+1) (by omega)
     have fi:=HK2.out.free j
     have fj:=HK2.out.free (j+1)
     have HS:=Qa (HK2.out.swp (i:=j+1) (j:=j) (by omega) (by omega))
     have HI:=Qa (show insInner ltInt a (j+1) dj=if ltInt dj[j+1]! dj[j]! then insInner ltInt a j (swp dj (j+1) j) else dj by
      rw [insInner];simp [hja])
     generalize dj[j]! = x at ci HS HI
     generalize dj[j+1]! = y at cj HS HI
     have hg:(a:Int)<(j:Int)+1:=by omega
     go_wp2
     go_quiet ((go_at_call 209;exact Zg (Qv _ _ _)))
     cases hl:ltInt y x
     ·go_wp2
      go_roundw
      case measure=>simp [intOf];omega
      case rel =>
       refine ⟨i+1,dj,by simp,by omega,by omega,hdj,Qa ?_,Qa (HK2.out.drewN _),hO2.drewN _⟩
       have h:=HI.out
       rw [hl] at h
       rw [←HR.out,insOuter.eq_1 ltInt a b i,if_pos (by omega),←HR2.out,h]
       rfl
     ·go_wp2
      go_region
      go_wp2
      go_roundw
      case measure=>simp [intOf]
      case rel =>
       refine ⟨j,swp dj (j+1) j,by simp,by omega,by omega,by rw [size_swp];exact hdj,Qa ?_,Qa HS.out,?_⟩
       rotate_left
       ·exact Only.store (Only.store (hO2.drewN _) (.inl rfl) _) (.inl rfl) _
       have h:=HI.out
       rw [hl] at h
       rw [←HR2.out,h]
       rfl
    ·have hg:decide ((a:Int)<(j:Int))=false:=by simp;omega
     go_wp2
     go_quiet (fail)
     go_wp2
     go_roundw
     case measure=>simp [intOf];omega
     case rel =>
      refine ⟨i+1,dj,by simp,by omega,by omega,hdj,Qa ?_,Qa (HK2.out.drewN _),hO2.drewN _⟩
      have h:insInner ltInt a j dj=dj:=by
       cases j with
       | zero=>rfl
       | succ j=>unfold insInner;simp [show ¬ (a<j+1) from hja]
      rw [←HR.out,insOuter.eq_1 ltInt a b i,if_pos (by omega),←HR2.out,h]
  ·go_wp2
   go_end0
   refine ⟨rfl,?_,hO⟩
   have h:=HR.out
   rw [insOuter,if_neg (by omega)] at h
   rw [←h];exact HK.out
theorem zD (hi F:Nat):∀ (n root:Nat) (d:Array Int),hi-root≤n→(siftDown ltInt hi F root d).size=d.size:=by
 intro n
 induction n with
 | zero=>intro root d h;rw [siftDown,dif_pos (by omega)]
 | succ n ih =>
   intro root d h
   rw [siftDown]
   split
   ·rfl
   ·split
    ·split
     ·rfl
     ·split
      ·rw [ih _ _ (by omega),size_swp]
      ·rfl
    ·split
     ·rfl
     ·rw [ih _ _ (by omega),size_swp]
theorem ATe {hi F root:Nat} {d:Array Int} (h:hi≤2*root+1):siftDown ltInt hi F root d=d:=by rw [siftDown,dif_pos (by omega)]
theorem AQn {hi F root c:Nat} {d:Array Int} (h:2*root+1<hi)
 (hc:c=if 2*root+2<hi∧ltInt d[F+(2*root+1)]! d[F+(2*root+1)+1]! = true then 2*root+2 else 2*root+1) :
 siftDown ltInt hi F root d=if ltInt d[F+root]! d[F+c]! = true then siftDown ltInt hi F c (swp d (F+root) (F+c)) else d:=by
 rw [siftDown,dif_neg (by omega)]
 by_cases h1:2*root+2<hi∧ltInt d[F+(2*root+1)]! d[F+(2*root+1)+1]! = true
 ·rw [if_pos h1] at hc
  subst hc
  rw [if_pos (by simp [h1.2];omega)]
  cases hl:ltInt d[F+root]! d[F+(2*root+2)]!
  ·simp
  ·simp [h1.1]
 ·rw [if_neg h1] at hc
  subst hc
  rw [if_neg (by simp only [Bool.and_eq_true,decide_eq_true_eq];exact h1)]
  cases hl:ltInt d[F+root]! d[F+(2*root+1)]! <;> simp
theorem jK (d:Array Int) (len:Nat) (hlen:d.size=len) (g cap lo hi F:Nat) (w:World) (hB:Bs w g cap d) (hb:F+hi≤len) (hlo:lo≤len) (hz:len<1152921504606846976) :
 Calls Tryz.prog 214 #[.slice (some ⟨g,0,none⟩) len cap,.int .i64 lo,.int .i64 hi,.int .i64 F] w fun e w' =>
  e=.returned (.tuple #[])∧Bs w' g cap (siftDown ltInt hi F lo d)∧Only g w w':=by
 have HB:=Qa hB
 clear hB
 go_enter Tryz.func214,Tryz.ntmps214
 go_wp2
 go_loopw [8,9] (fun sr sc wr=>∃ (r:Nat) (dk:Array Int),sr=.int .i64 r∧r≤len∧dk.size=len∧Hid (siftDown ltInt hi F r dk=siftDown ltInt hi F lo d)∧Hid (Bs wr g cap dk)∧Only g w wr)
  (fun sr _ _=>2*len+2-(intOf sr).toNat)
 case atStart=>exact ⟨lo,d,rfl,hlo,hlen,Qa rfl,HB,Only.refl _ _⟩
 case round =>
  obtain ⟨r,dk,rfl,hr,hdk,HR,HK,hO⟩:=hrel
  by_cases hc:2*(r:Int)+1 ≥ (hi:Int)
  ·go_wp2
   go_end0
   refine ⟨rfl,?_,hO⟩
   have h:=HR.out
   rw [ATe (by omega)] at h
   rw [←h];exact HK.out
  ·obtain ⟨k,hk⟩:∃ k,2*r+1=k:=⟨_,rfl⟩
   have hk2:2*(r:Int)+1=(k:Int):=by omega
   have HS:Hid (∀ c,(c=if k+1<hi∧ltInt dk[F+k]! dk[F+(k+1)]! = true then k+1 else k)→siftDown ltInt hi F r dk=if ltInt dk[F+r]! dk[F+c]! = true then siftDown ltInt hi F c (swp dk (F+r) (F+c)) else dk):=Qa (by
    subst hk
    exact fun c hc=>AQn (by omega) hc)
   obtain ⟨y0,hy0⟩:∃ y,Hid (dk[F+r]! = y):=⟨_,Qa rfl⟩
   obtain ⟨y1,hy1⟩:∃ y,Hid (dk[F+k]! = y):=⟨_,Qa rfl⟩
   obtain ⟨y2,hy2⟩:∃ y,Hid (dk[F+(k+1)]! = y):=⟨_,Qa rfl⟩
   have c0:=HK.out.cell (j:=F+r) (by omega)
   have c1:=HK.out.cell (j:=F+k) (by omega)
   rw [hy0.out] at c0
   rw [hy1.out] at c1
   have z1:F+k+1<4611686018427387904:=by omega
   have z2:F+r<len:=by omega
   have z3:F+k<len:=by omega
   by_cases h2:(k:Int)+1<(hi:Int)
   ·have c2:=HK.out.cell (j:=F+(k+1)) (by omega)
    rw [hy2.out] at c2
    have c3:=c2
    rw [←Nat.add_assoc] at c3
    go_wp2
    go_big_quiet ((go_at_call 209;first | exact Zg (Qv _ _ _) | exact QJ (Qv _ _ _)))
    cases hl0:ltInt y1 y2
    ·have HI:=HS.out k (by rw [hy1.out,hy2.out,hl0];simp)
     rw [hy0.out,hy1.out] at HI
     replace HI:=Qa HI
     clear HS
     have HW:=Qa (HK.out.swp (i:=F+r) (j:=F+k) (by omega) (by omega))
     rw [hy0.out,hy1.out] at HW
     have f0:=HK.out.free (F+r)
     have f1:=HK.out.free (F+k)
     go_wp2
     go_big_quiet ((go_at_call 209;first | exact Zg (Qv _ _ _) | exact QJ (Qv _ _ _)))
     cases hl:ltInt y0 y1
     ·go_wp2
      (try simp only [Exit.inBlock,Exit.then])
      refine bodyPost_ret (results_none rfl _ _ _) rfl ?_
      refine ⟨rfl,?_,by first | exact hO.drewN _ | exact (hO.drewN _).drewN _⟩
      replace HI:=HI.out
      rw [hl] at HI
      rw [←HR.out,HI]
      exact HK.out
     ·go_wp2
      go_region
      go_wp2
      go_roundw
      case measure=>simp [intOf];omega
      case rel =>
       refine ⟨k,swp dk (F+r) (F+k),by simp,by omega,by rw [size_swp];exact hdk,Qa ?_,Qa HW.out,?_⟩
       rotate_left
       ·first | exact Only.store (Only.store (hO.drewN _) (.inl rfl) _) (.inl rfl) _ | exact Only.store (Only.store ((hO.drewN _).drewN _) (.inl rfl) _) (.inl rfl) _
       replace HI:=HI.out
       rw [hl] at HI
       rw [←HR.out,HI]
       rfl
    ·have HI:=HS.out (k+1) (by rw [hy1.out,hy2.out,hl0];simp;omega)
     rw [hy0.out,hy2.out] at HI
     replace HI:=Qa HI
     clear HS
     have HW:=Qa (HK.out.swp (i:=F+r) (j:=F+(k+1)) (by omega) (by omega))
     rw [hy0.out,hy2.out] at HW
     have f0:=HK.out.free (F+r)
     have f1:=HK.out.free (F+(k+1))
     go_wp2
     go_big_quiet ((go_at_call 209;first | exact Zg (Qv _ _ _) | exact QJ (Qv _ _ _)))
     cases hl:ltInt y0 y2
     ·go_wp2
      (try simp only [Exit.inBlock,Exit.then])
      refine bodyPost_ret (results_none rfl _ _ _) rfl ?_
      refine ⟨rfl,?_,by first | exact hO.drewN _ | exact (hO.drewN _).drewN _⟩
      replace HI:=HI.out
      rw [hl] at HI
      rw [←HR.out,HI]
      exact HK.out
     ·go_wp2
      go_region
      go_wp2
      go_roundw
      case measure=>simp [intOf];omega
      case rel =>
       refine ⟨(k+1),swp dk (F+r) (F+(k+1)),by simp,by omega,by rw [size_swp];exact hdk,Qa ?_,Qa HW.out,?_⟩
       rotate_left
       ·first | exact Only.store (Only.store (hO.drewN _) (.inl rfl) _) (.inl rfl) _ | exact Only.store (Only.store ((hO.drewN _).drewN _) (.inl rfl) _) (.inl rfl) _
       replace HI:=HI.out
       rw [hl] at HI
       rw [←HR.out,HI]
       rfl
   ·have h3:decide ((k:Int)+1<(hi:Int))=false:=by simp;omega
    have HI:=HS.out k (by rw [if_neg (fun h=>by omega)])
    rw [hy0.out,hy1.out] at HI
    replace HI:=Qa HI
    clear HS
    go_wp2
    go_big_quiet (fail)
    have HW:=Qa (HK.out.swp (i:=F+r) (j:=F+k) (by omega) (by omega))
    rw [hy0.out,hy1.out] at HW
    have f0:=HK.out.free (F+r)
    have f1:=HK.out.free (F+k)
    go_wp2
    go_big_quiet ((go_at_call 209;first | exact Zg (Qv _ _ _) | exact QJ (Qv _ _ _)))
    cases hl:ltInt y0 y1
    ·go_wp2
     (try simp only [Exit.inBlock,Exit.then])
     refine bodyPost_ret (results_none rfl _ _ _) rfl ?_
     refine ⟨rfl,?_,by first | exact hO.drewN _ | exact (hO.drewN _).drewN _⟩
     replace HI:=HI.out
     rw [hl] at HI
     rw [←HR.out,HI]
     exact HK.out
    ·go_wp2
     go_region
     go_wp2
     go_roundw
     case measure=>simp [intOf];omega
     case rel =>
      refine ⟨k,swp dk (F+r) (F+k),by simp,by omega,by rw [size_swp];exact hdk,Qa ?_,Qa HW.out,?_⟩
      rotate_left
      ·first | exact Only.store (Only.store (hO.drewN _) (.inl rfl) _) (.inl rfl) _ | exact Only.store (Only.store ((hO.drewN _).drewN _) (.inl rfl) _) (.inl rfl) _
      replace HI:=HI.out
      rw [hl] at HI
      rw [←HR.out,HI]
      rfl
theorem AVu (d:Array Int) (len:Nat) (hlen:d.size=len) (g cap a b:Nat) (w:World) (hB:Bs w g cap d) (hab:a<b) (hb:b≤len) (hz:len<1152921504606846976) :
 Calls Tryz.prog 204 #[.slice (some ⟨g,0,none⟩) len cap,.int .i64 a,.int .i64 b] w fun e w' =>
  e=.returned (.tuple #[])∧Bs w' g cap (heapSort ltInt d a b)∧Only g w w':=by
 obtain ⟨m,hm⟩:∃ m,b-a=m:=⟨_,rfl⟩
 have HM:=Qa hm
 have hm2:(b:Int)-(a:Int)=(m:Int):=by omega
 obtain ⟨q,hq⟩:∃ q,(m-1) / 2=q:=⟨_,rfl⟩
 have HQ:=Qa hq
 have hq2:((m:Int)-1).tdiv 2=(q:Int):=by
  rw [Int.tdiv_eq_ediv_of_nonneg (by omega)]
  omega
 have hqm:q<m:=by omega
 have hml:a+m≤len:=by omega
 have hHS:Hid (heapSort ltInt d a b=heapPop ltInt a m (heapBuild ltInt m a (q+1) d)):=Qa (by subst hm;subst hq;rfl)
 have HB:=Qa hB
 clear hB hq hm
 go_enter Tryz.func204,Tryz.ntmps204
 go_wp2
 go_loopw [9] (fun si wr=>∃ (k:Nat) (dk:Array Int),si=.int .i64 ((k:Int)-1)∧k≤q+1∧dk.size=len∧Hid (heapBuild ltInt m a k dk=heapBuild ltInt m a (q+1) d)∧Hid (Bs wr g cap dk)∧Only g w wr)
  (fun si _=>(intOf si+1).toNat)
 case atStart=>exact ⟨q+1,d,by simp,Nat.le_refl _,hlen,Qa rfl,HB,Only.refl _ _⟩
 case round =>
  obtain ⟨k,dk,rfl,hk,hdk,HR,HK,hO⟩:=hrel
  cases k with
  | zero =>
    have HD:Hid (heapSort ltInt d a b=heapPop ltInt a m dk):=Qa (by rw [hHS.out,←HR.out];rfl)
    clear HR
    go_wp2
    go_loopw [10] (fun si wr2=>∃ (k:Nat) (dj:Array Int),si=.int .i64 ((k:Int)-1)∧k≤m∧dj.size=len∧Hid (heapPop ltInt a k dj=heapPop ltInt a m dk)∧Hid (Bs wr2 g cap dj)∧Only g w wr2)
     (fun si _=>(intOf si+1).toNat)
    case atStart=>exact ⟨m,dk,rfl,Nat.le_refl _,hdk,Qa rfl,HK,hO⟩
    case round =>
     clear hO HK
     obtain ⟨k,dj,rfl,hkm,hdj,HR2,HK2,hO2⟩:=hrel
     cases k with
     | zero =>
       go_wp2
       go_end0
       refine ⟨rfl,?_,hO2⟩
       rw [HD.out,←HR2.out]
       exact HK2.out
     | succ k =>
       have HW:=Qa (HK2.out.swp (i:=a) (j:=a+k) (by omega) (by omega))
       have c0:=HK2.out.cell (j:=a) (by omega)
       have c1:=HK2.out.cell (j:=a+k) (by omega)
       have f0:=HK2.out.free a
       have f1:=HK2.out.free (a+k)
       rcases Nat.eq_zero_or_pos k with rfl | hkp
       ·rw [Nat.add_zero] at c1 HW f1
        have HP:Hid (heapPop ltInt a (0+1) dj=heapPop ltInt a 0 (siftDown ltInt 0 a 0 (swp dj a a))):=Qa (by rw [heapPop];rfl)
        generalize hx:dj[a]! = x at c0 c1 HW
        clear hx
        go_wp2_with (fail)
        go_region
        go_wp2_with (fail)
        refine (jK (swp dj a a) len (by rw [size_swp];exact hdj) g cap 0 0 a _ HW.out.drew (by omega) (by omega) hz).mono ?_
        rintro e w1 ⟨rfl,hB1,ho1⟩
        go_wp2
        go_roundw
        case measure=>simp [intOf]
        case rel =>
         repeat apply Exists.intro
         refine ⟨?_,rfl⟩
         refine ⟨0,siftDown ltInt 0 a 0 (swp dj a a),by simp,by omega,by rw [zD _ _ _ _ _ (Nat.le_refl _),size_swp];exact hdj,Qa (by rw [←HR2.out,HP.out]),Qa hB1,Only.trans ?_ ho1⟩
         exact (Only.store (Only.store hO2 (.inl rfl) _) (.inl rfl) _).drew
       ·have HP:Hid (heapPop ltInt a (k+1) dj=heapPop ltInt a k (siftDown ltInt k a 0 (swp dj a (a+k)))):=Qa (by rw [heapPop])
        generalize hx:dj[a]! = x at c0 HW
        generalize hy:dj[a+k]! = y at c1 HW
        clear hx hy
        go_wp2_with (fail)
        go_region
        go_wp2_with (fail)
        refine (jK (swp dj a (a+k)) len (by rw [size_swp];exact hdj) g cap 0 k a _ HW.out.drew (by omega) (by omega) hz).mono ?_
        rintro e w1 ⟨rfl,hB1,ho1⟩
        go_wp2
        go_roundw
        case measure=>simp [intOf] <;> omega
        case rel =>
         repeat apply Exists.intro
         refine ⟨?_,rfl⟩
         refine ⟨k,siftDown ltInt k a 0 (swp dj a (a+k)),by simp,by omega,by rw [zD _ _ _ _ _ (Nat.le_refl _),size_swp];exact hdj,Qa (by rw [←HR2.out,HP.out]),Qa hB1,Only.trans ?_ ho1⟩
         exact (Only.store (Only.store hO2 (.inl rfl) _) (.inl rfl) _).drew
  | succ k =>
    go_wp2_with (fail)
    refine (jK dk len hdk g cap k m a _ HK.out (by omega) (by omega) hz).mono ?_
    rintro e w1 ⟨rfl,hB1,ho1⟩
    go_wp2
    go_roundw
    case measure=>simp [intOf] <;> omega
    case rel=>exact ⟨k,_,by simp,by omega,by rw [zD _ _ _ _ _ (Nat.le_refl _)];exact hdk,Qa (by rw [←HR.out];rfl),Qa hB1,hO.trans ho1⟩
theorem AEp {a i j i2 j2:Nat} {d:Array Int} {xa:Int} (hx:d[a]! = xa) (hI:i2=scanUp (fun x=>!ltInt xa x) d j i) (hJ:j2=scanDown (fun x=>ltInt xa x) d i2 j) (h:j2<i2):partEqLoop ltInt a i j d=(i2,d):=by
 subst hx;subst hJ;subst hI
 rw [partEqLoop_eq,if_pos h]
theorem AZv {a i j i2 j2:Nat} {d:Array Int} {xa:Int} (hx:d[a]! = xa) (hI:i2=scanUp (fun x=>!ltInt xa x) d j i) (hJ:j2=scanDown (fun x=>ltInt xa x) d i2 j) (h:¬ i2 > j2):partEqLoop ltInt a i j d=partEqLoop ltInt a (i2+1) (j2-1) (swp d i2 j2):=by
 subst hx;subst hJ;subst hI
 rw [partEqLoop_eq,if_neg h]
theorem AFc {a i j i2 j2:Nat} {d:Array Int} {xa:Int} (hx:d[a]! = xa) (hI:i2=scanUp (fun x=>ltInt x xa) d j i) (hJ:j2=scanDown (fun x=>!ltInt x xa) d i2 j) (h:j2<i2):partLoop ltInt a i j d=(j2,d):=by
 subst hx;subst hJ;subst hI
 rw [partLoop_eq,if_pos h]
theorem AZu {a i j i2 j2:Nat} {d:Array Int} {xa:Int} (hx:d[a]! = xa) (hI:i2=scanUp (fun x=>ltInt x xa) d j i) (hJ:j2=scanDown (fun x=>!ltInt x xa) d i2 j) (h:¬ i2 > j2):partLoop ltInt a i j d=partLoop ltInt a (i2+1) (j2-1) (swp d i2 j2):=by
 subst hx;subst hJ;subst hI
 rw [partLoop_eq,if_neg h]
theorem ql {a i j i2 j2 pv:Nat} {d0 d:Array Int} {xa:Int} (hd:d=swp d0 a pv) (hx:d[a]! = xa) (hi:a+1=i) (hI:i2=scanUp (fun x=>ltInt x xa) d j i) (hJ:j2=scanDown (fun x=>!ltInt x xa) d i2 j) (h:j2<i2) :
 partition ltInt d0 a (j+1) pv=(j2,true,swp d j2 a):=by
 subst hd;subst hx;subst hi;subst hJ;subst hI
 unfold partition
 simp only [Nat.add_sub_cancel]
 rw [if_pos h]
theorem AJo {a i j i2 j2 pv:Nat} {d0 d:Array Int} {xa:Int} (hd:d=swp d0 a pv) (hx:d[a]! = xa) (hi:a+1=i) (hI:i2=scanUp (fun x=>ltInt x xa) d j i) (hJ:j2=scanDown (fun x=>!ltInt x xa) d i2 j) (h:¬ i2 > j2) :
 partition ltInt d0 a (j+1) pv=((partLoop ltInt a (i2+1) (j2-1) (swp d i2 j2)).1,false,swp (partLoop ltInt a (i2+1) (j2-1) (swp d i2 j2)).2 (partLoop ltInt a (i2+1) (j2-1) (swp d i2 j2)).1 a):=by
 subst hd;subst hx;subst hi;subst hJ;subst hI
 unfold partition
 simp only [Nat.add_sub_cancel]
 rw [if_neg h]
theorem vN {p:Int→Bool} {d:Array Int} {j i:Nat} (h:i≤j) (hp:p d[i]! = true):scanUp p d j i=scanUp p d j (i+1):=by rw [scanUp,if_pos (by simp [h,hp])]
theorem YK {p:Int→Bool} {d:Array Int} {j i:Nat} (h:j<i∨p d[i]! = false):scanUp p d j i=i:=by
 rw [scanUp,if_neg]
 rcases h with h | h
 ·simp;omega
 ·simp [h]
theorem zO {p:Int→Bool} {d:Array Int} {j i:Nat} (h:i≤j+1) (hp:p d[j+1]! = true):scanDown p d i (j+1)=scanDown p d i j:=by rw [scanDown,if_pos (by simp [h,hp])]
theorem Xj {p:Int→Bool} {d:Array Int} {j i:Nat} (h0:0<i) (h:j<i∨p d[j]! = false):scanDown p d i j=j:=by
 cases j with
 | zero=>rfl
 | succ j =>
   rw [scanDown,if_neg]
   rcases h with h | h
   ·simp;omega
   ·simp [h]
theorem QL {w:World} {g cap a p:Nat} {d:Array Int} (hB:Bs w g cap d) (ha:a<d.size) (hp:p<d.size) {x y:Int} (hx:d[a]! = x) (hy:d[p]! = y) :
 Bs ((w.setCell ⟨g,a,none⟩ (.int .u8 y)).setCell ⟨g,p,none⟩ (.int .u8 x)).drew g cap (swp d a p)∧Only g w ((w.setCell ⟨g,a,none⟩ (.int .u8 y)).setCell ⟨g,p,none⟩ (.int .u8 x)).drew:=by
 subst hx;subst hy
 exact ⟨(hB.swp ha hp).drew,(((Only.refl g w).store (.inl rfl) _).store (.inl rfl) _).drew⟩
theorem AMk (d:Array Int) (len:Nat) (hlen:d.size=len) (g cap a b pv:Nat) (w:World) (hB:Bs w g cap d) (hap:a≤pv) (hpb:pv<b) (hb:b≤len) (hz:len≤1048575) :
 Calls Tryz.prog 210 #[.slice (some ⟨g,0,none⟩) len cap,.int .i64 a,.int .i64 b,.int .i64 pv] w fun e w' =>
  e=.returned (.int .i64 (partitionEqual ltInt d a b pv).1)∧Bs w' g cap (partitionEqual ltInt d a b pv).2∧Only g w w':=by
 obtain ⟨j0,rfl⟩:∃ j0,b=j0+1:=⟨b-1,by omega⟩
 obtain ⟨R,hR⟩:∃ R,partitionEqual ltInt d a (j0+1) pv=R:=⟨_,rfl⟩
 rw [hR]
 obtain ⟨dk,hdk0⟩:∃ dk,dk=d:=⟨_,rfl⟩
 have hdk:dk.size=len:=by rw [hdk0];exact hlen
 have HK:=Qa hB
 rw [←hdk0] at HK
 have HR:Hid (partEqLoop ltInt a (a+1) j0 (swp dk a pv)=R):=Qa (by rw [←hR,hdk0];rfl)
 clear hB hdk0 hR hlen
 have ci:=(HK.out).cell (j:=a) (by omega)
 have cj:=(HK.out).cell (j:=pv) (by omega)
 have fi:=(HK.out).free (a)
 have fj:=(HK.out).free (pv)
 obtain ⟨x,hx⟩:∃ x,Hid (dk[a]! = x):=⟨_,Qa rfl⟩
 obtain ⟨y,hy⟩:∃ x,Hid (dk[pv]! = x):=⟨_,Qa rfl⟩
 have HW:=Qa (QL HK.out (a:=a) (p:=pv) (by omega) (by omega) hx.out hy.out)
 rw [hx.out] at ci
 rw [hy.out] at cj
 obtain ⟨v',hv'⟩:=cell?_setCell_some (p:=⟨g,a,none⟩) (x:=.int .u8 y) cj
 have cw:=(HK.out).cell (j:=pv) (by omega)
 rw [hy.out] at cw
 obtain ⟨v2,hv2⟩:=cell?_setCell_some (p:=⟨g,a,none⟩) (x:=.int .u8 y) cw
 clear cw
 go_enter Tryz.func210,Tryz.ntmps210
 go_wp2
 go_region
 obtain ⟨HK0,hO⟩:=HW.out
 replace HK0:=Qa HK0
 generalize ((w.setCell ⟨g,a,none⟩ (.int .u8 y)).setCell ⟨g,pv,none⟩ (.int .u8 x)).drew=w1 at HK0 hO ⊢
 clear ci cj fi fj hv' hv2 HW hx hy v' v2 HK
 replace hdk:(swp dk a pv).size=len:=by rw [size_swp];exact hdk
 generalize swp dk a pv=d0 at HK0 HR hdk
 go_wp2
 go_loopw [9,10] (fun si sj wr=>∃ (i j:Nat) (dk:Array Int),si=.int .i64 i∧sj=.int .i64 j∧a<i∧i≤j+1∧j≤j0∧dk.size=len∧Hid (partEqLoop ltInt a i j dk=R)∧Hid (Bs wr g cap dk)∧Only g w wr)
  (fun si sj _=>(intOf sj).toNat+1-(intOf si).toNat)
 case atStart=>exact ⟨a+1,j0,d0,by simp,by simp,by omega,by omega,Nat.le_refl _,hdk,HR,HK0,hO⟩
 case round =>
  clear HR HK0 hO hdk
  obtain ⟨i,j,dk,rfl,rfl,hai,hij,hjj,hdk,HR,HK,hO⟩:=hrel
  obtain ⟨xa,hxa⟩:∃ x,Hid (dk[a]! = x):=⟨_,Qa rfl⟩
  go_wp2_with (fail)
  go_loopw [9] (fun sp wr2=>∃ i2:Nat,sp=.int .i64 i2∧i≤i2∧i2≤j+1∧Hid (scanUp (fun x=>!ltInt xa x) dk j i2=scanUp (fun x=>!ltInt xa x) dk j i)∧Hid (Bs wr2 g cap dk)∧Only g w wr2)
   (fun sp _=>j+2-(intOf sp).toNat)
  case atStart=>exact ⟨i,rfl,Nat.le_refl _,by omega,Qa rfl,HK,hO⟩
  case round =>
   clear HK hO
   obtain ⟨i2,rfl,hii,hij2,HU,HK2,hO2⟩:=hrel
   by_cases hg:(i2:Int)≤(j:Int)
   ·have c0:=HK2.out.cell (j:=a) (by omega)
    have c2:=HK2.out.cell (j:=i2) (by omega)
    rw [hxa.out] at c0
    obtain ⟨xi,hxi⟩:∃ x,Hid (dk[i2]! = x):=⟨_,Qa rfl⟩
    rw [hxi.out] at c2
    go_wp2
    go_big_quiet ((go_at_call 209;first | exact Zg (Qv _ _ _) | exact QJ (Qv _ _ _)))
    cases hl:ltInt xa xi
    ·have HU2:Hid (scanUp (fun x=>!ltInt xa x) dk j (i2+1)=scanUp (fun x=>!ltInt xa x) dk j i):=Qa (by rw [←HU.out];exact (vN (by omega) (by rw [hxi.out];simp [hl])).symm)
     go_wp2
     go_roundw
     case measure=>simp [intOf] <;> omega
     case rel=>exact ⟨i2+1,by simp,by omega,by omega,HU2,Qa (HK2.out.drewN _),hO2.drewN _⟩
    ·have HF:Hid (i2≤j→ltInt xa dk[i2]! = true):=Qa (fun _=>by rw [hxi.out];exact hl)
     clear c2
     go_wp2
     have HI:Hid (i2=scanUp (fun x=>!ltInt xa x) dk j i):=Qa (by rw [←HU.out];exact (YK (.inr (by rw [hxi.out];simp [hl]))).symm)
     go_loopw [10] (fun sq wr3=>∃ j2:Nat,sq=.int .i64 j2∧i2≤j2+1∧j2≤j∧Hid (scanDown (fun x=>ltInt xa x) dk i2 j2=scanDown (fun x=>ltInt xa x) dk i2 j)∧Hid (Bs wr3 g cap dk)∧Only g w wr3)
      (fun sq _=>(intOf sq).toNat)
     case atStart=>exact ⟨j,rfl,by omega,Nat.le_refl _,Qa rfl,Qa (HK2.out.drewN _),hO2.drewN _⟩
     case round =>
      clear HK2 hO2
      obtain ⟨j2,rfl,hij2,hjj2,HD,HK,hO⟩:=hrel
      by_cases hg:(i2:Int)≤(j2:Int)
      ·have c0:=HK.out.cell (j:=a) (by omega)
       have c2:=HK.out.cell (j:=j2) (by omega)
       rw [hxa.out] at c0
       obtain ⟨xj,hxj⟩:∃ x,Hid (dk[j2]! = x):=⟨_,Qa rfl⟩
       rw [hxj.out] at c2
       go_wp2
       go_big_quiet ((go_at_call 209;first | exact Zg (Qv _ _ _) | exact QJ (Qv _ _ _)))
       cases hl:ltInt xa xj
       ·have HJ:Hid (j2=scanDown (fun x=>ltInt xa x) dk i2 j):=Qa (by rw [←HD.out];exact (Xj (by omega) (.inr (by rw [hxj.out];simp [hl]))).symm)
        have hlt:i2<j2:=by
         rcases Nat.lt_or_ge i2 j2 with h | h
         ·exact h
         ·have he:i2=j2:=by omega
          subst he
          have h1:=HF.out (by omega)
          rw [hxj.out,hl] at h1
          cases h1
        clear c2
        have ci:=(HK.out).cell (j:=i2) (by omega)
        have cj:=(HK.out).cell (j:=j2) (by omega)
        have fi:=(HK.out).free (i2)
        have fj:=(HK.out).free (j2)
        obtain ⟨x,hx⟩:∃ x,Hid (dk[i2]! = x):=⟨_,Qa rfl⟩
        obtain ⟨y,hy⟩:∃ x,Hid (dk[j2]! = x):=⟨_,Qa rfl⟩
        have HW:=Qa (QL (HK.out.drewN nq) (a:=i2) (p:=j2) (by omega) (by omega) hx.out hy.out)
        rw [hx.out] at ci
        rw [hy.out] at cj
        obtain ⟨v',hv'⟩:=cell?_setCell_some (p:=⟨g,i2,none⟩) (x:=.int .u8 y) cj
        have cw:=((HK.out.drewN nq)).cell (j:=j2) (by omega)
        rw [hy.out] at cw
        obtain ⟨v2,hv2⟩:=cell?_setCell_some (p:=⟨g,i2,none⟩) (x:=.int .u8 y) cw
        clear cw
        go_wp2
        go_region
        go_wp2
        go_roundw
        case measure=>simp [intOf] <;> omega
        case rel=>exact ⟨i2+1,j2-1,swp dk i2 j2,by simp,by go_num,by omega,by omega,by omega,by rw [size_swp];exact hdk,Qa (by rw [←HR.out];exact (AZv hxa.out HI.out HJ.out (by omega)).symm),Qa HW.out.1,(hO.drewN nq).trans HW.out.2⟩
       ·obtain ⟨j2,rfl⟩:∃ k,j2=k+1:=⟨j2-1,by omega⟩
        have HD2:Hid (scanDown (fun x=>ltInt xa x) dk i2 j2=scanDown (fun x=>ltInt xa x) dk i2 j):=Qa (by rw [←HD.out];exact (zO (by omega) (by rw [hxj.out];simp [hl])).symm)
        go_wp2
        go_roundw
        case measure=>simp [intOf] <;> omega
        case rel=>exact ⟨j2,by simp,by omega,by omega,HD2,Qa (HK.out.drewN _),hO.drewN _⟩
      ·have hg2:decide ((i2:Int)≤(j2:Int))=false:=by simp;omega
       have hg3:decide (i2≤j2)=false:=by simp;omega
       have HJ:Hid (j2=scanDown (fun x=>ltInt xa x) dk i2 j):=Qa (by rw [←HD.out];exact (Xj (by omega) (.inl (by omega))).symm)
       go_wp2
       go_big_quiet (fail)
       go_wp2
       have e:R=(i2,dk):=by rw [←HR.out];exact AEp hxa.out HI.out HJ.out (by omega)
       subst e
       go_ret
       exact ⟨rfl,HK.out.drewN _,hO.drewN _⟩
   ·have hg2:decide ((i2:Int)≤(j:Int))=false:=by simp;omega
    have hg3:decide (i2≤j)=false:=by simp;omega
    have HF:Hid (i2≤j→ltInt xa dk[i2]! = true):=Qa (fun h=>by omega)
    go_wp2
    go_big_quiet (fail)
    go_wp2
    have HI:Hid (i2=scanUp (fun x=>!ltInt xa x) dk j i):=Qa (by rw [←HU.out];exact (YK (.inl (by omega))).symm)
    go_loopw [10] (fun sq wr3=>∃ j2:Nat,sq=.int .i64 j2∧i2≤j2+1∧j2≤j∧Hid (scanDown (fun x=>ltInt xa x) dk i2 j2=scanDown (fun x=>ltInt xa x) dk i2 j)∧Hid (Bs wr3 g cap dk)∧Only g w wr3)
     (fun sq _=>(intOf sq).toNat)
    case atStart=>exact ⟨j,rfl,by omega,Nat.le_refl _,Qa rfl,Qa (HK2.out.drewN _),hO2.drewN _⟩
    case round =>
     clear HK2 hO2
     obtain ⟨j2,rfl,hij2,hjj2,HD,HK,hO⟩:=hrel
     by_cases hg:(i2:Int)≤(j2:Int)
     ·exfalso;omega
     ·have hg2:decide ((i2:Int)≤(j2:Int))=false:=by simp;omega
      have hg3:decide (i2≤j2)=false:=by simp;omega
      have HJ:Hid (j2=scanDown (fun x=>ltInt xa x) dk i2 j):=Qa (by rw [←HD.out];exact (Xj (by omega) (.inl (by omega))).symm)
      go_wp2
      go_big_quiet (fail)
      go_wp2
      have e:R=(i2,dk):=by rw [←HR.out];exact AEp hxa.out HI.out HJ.out (by omega)
      subst e
      go_ret
      exact ⟨rfl,HK.out.drewN _,hO.drewN _⟩
theorem ASa (d:Array Int) (len:Nat) (hlen:d.size=len) (g cap a b pv:Nat) (w:World) (hB:Bs w g cap d) (hap:a≤pv) (hpb:pv<b) (hb:b≤len) (hz:len≤1048575) :
 Calls Tryz.prog 211 #[.slice (some ⟨g,0,none⟩) len cap,.int .i64 a,.int .i64 b,.int .i64 pv] w fun e w' =>
  e=.returned (.tuple #[.int .i64 (partition ltInt d a b pv).1,.bool (partition ltInt d a b pv).2.1])∧Bs w' g cap (partition ltInt d a b pv).2.2∧Only g w w':=by
 obtain ⟨j,rfl⟩:∃ j0,b=j0+1:=⟨b-1,by omega⟩
 obtain ⟨R,hR⟩:∃ R,partition ltInt d a (j+1) pv=R:=⟨_,rfl⟩
 rw [hR]
 replace hR:=Qa hR
 obtain ⟨dk,hdk0⟩:∃ dk,dk=d:=⟨_,rfl⟩
 have hdk:dk.size=len:=by rw [hdk0];exact hlen
 have HK:=Qa hB
 rw [←hdk0] at HK
 have HS0:Hid (swp dk a pv=swp d a pv):=Qa (by rw [hdk0])
 clear hB hdk0 hlen
 have ci:=(HK.out).cell (j:=a) (by omega)
 have cj:=(HK.out).cell (j:=pv) (by omega)
 have fi:=(HK.out).free (a)
 have fj:=(HK.out).free (pv)
 obtain ⟨x,hx⟩:∃ x,Hid (dk[a]! = x):=⟨_,Qa rfl⟩
 obtain ⟨y,hy⟩:∃ x,Hid (dk[pv]! = x):=⟨_,Qa rfl⟩
 have HW:=Qa (QL HK.out (a:=a) (p:=pv) (by omega) (by omega) hx.out hy.out)
 rw [hx.out] at ci
 rw [hy.out] at cj
 obtain ⟨v',hv'⟩:=cell?_setCell_some (p:=⟨g,a,none⟩) (x:=.int .u8 y) cj
 have cw:=(HK.out).cell (j:=pv) (by omega)
 rw [hy.out] at cw
 obtain ⟨v2,hv2⟩:=cell?_setCell_some (p:=⟨g,a,none⟩) (x:=.int .u8 y) cw
 clear cw
 obtain ⟨i,hi⟩:∃ i,a+1=i:=⟨_,rfl⟩
 have hi2:(a:Int)+1=(i:Int):=by omega
 go_enter Tryz.func211,Tryz.ntmps211
 go_wp2
 go_region
 obtain ⟨HK0,hO⟩:=HW.out
 replace HK0:=Qa HK0
 generalize ((w.setCell ⟨g,a,none⟩ (.int .u8 y)).setCell ⟨g,pv,none⟩ (.int .u8 x)).drew=w1 at HK0 hO ⊢
 clear ci cj fi fj hv' hv2 HW hx hy v' v2 HK
 replace hdk:(swp dk a pv).size=len:=by rw [size_swp];exact hdk
 generalize swp dk a pv=d0 at HK0 HS0 hdk
 clear dk
 obtain ⟨dk,rfl⟩:∃ z,z=d0:=⟨_,rfl⟩
 have HK:=HK0
 clear HK0
 obtain ⟨xa,hxa⟩:∃ x,Hid (dk[a]! = x):=⟨_,Qa rfl⟩
 have hai:a<i:=by omega
 go_wp2
 go_loopw [10] (fun sp wr2=>∃ i2:Nat,sp=.int .i64 i2∧i≤i2∧i2≤j+1∧Hid (scanUp (fun x=>ltInt x xa) dk j i2=scanUp (fun x=>ltInt x xa) dk j i)∧Hid (Bs wr2 g cap dk)∧Only g w wr2)
  (fun sp _=>j+2-(intOf sp).toNat)
 case atStart=>exact ⟨i,rfl,Nat.le_refl _,by omega,Qa rfl,HK,hO⟩
 case round =>
  clear HK hO
  obtain ⟨i2,rfl,hii,hij2,HU,HK2,hO2⟩:=hrel
  by_cases hg:(i2:Int)≤(j:Int)
  ·have c0:=HK2.out.cell (j:=a) (by omega)
   have c2:=HK2.out.cell (j:=i2) (by omega)
   rw [hxa.out] at c0
   obtain ⟨xi,hxi⟩:∃ x,Hid (dk[i2]! = x):=⟨_,Qa rfl⟩
   rw [hxi.out] at c2
   go_wp2
   go_big_quiet ((go_at_call 209;first | exact Zg (Qv _ _ _) | exact QJ (Qv _ _ _)))
   cases hl:ltInt xi xa
   ·have HF:Hid (i2≤j→ltInt dk[i2]! xa=false):=Qa (fun _=>by rw [hxi.out];exact hl)
    clear c2
    go_wp2
    have HI:Hid (i2=scanUp (fun x=>ltInt x xa) dk j i):=Qa (by rw [←HU.out];exact (YK (.inr (by rw [hxi.out];simp [hl]))).symm)
    go_loopw [11] (fun sq wr3=>∃ j2:Nat,sq=.int .i64 j2∧i2≤j2+1∧j2≤j∧Hid (scanDown (fun x=>!ltInt x xa) dk i2 j2=scanDown (fun x=>!ltInt x xa) dk i2 j)∧Hid (Bs wr3 g cap dk)∧Only g w wr3)
     (fun sq _=>(intOf sq).toNat)
    case atStart=>exact ⟨j,rfl,by omega,Nat.le_refl _,Qa rfl,Qa (HK2.out.drewN _),hO2.drewN _⟩
    case round =>
     clear HK2 hO2
     obtain ⟨j2,rfl,hij2,hjj2,HD,HK,hO⟩:=hrel
     by_cases hg:(i2:Int)≤(j2:Int)
     ·have c0:=HK.out.cell (j:=a) (by omega)
      have c2:=HK.out.cell (j:=j2) (by omega)
      rw [hxa.out] at c0
      obtain ⟨xj,hxj⟩:∃ x,Hid (dk[j2]! = x):=⟨_,Qa rfl⟩
      rw [hxj.out] at c2
      go_wp2
      go_big_quiet ((go_at_call 209;first | exact Zg (Qv _ _ _) | exact QJ (Qv _ _ _)))
      cases hl:ltInt xj xa
      ·obtain ⟨j2,rfl⟩:∃ k,j2=k+1:=⟨j2-1,by omega⟩
       have HD2:Hid (scanDown (fun x=>!ltInt x xa) dk i2 j2=scanDown (fun x=>!ltInt x xa) dk i2 j):=Qa (by rw [←HD.out];exact (zO (by omega) (by rw [hxj.out];simp [hl])).symm)
       go_wp2
       go_roundw
       case measure=>simp [intOf] <;> omega
       case rel=>exact ⟨j2,by simp,by omega,by omega,HD2,Qa (HK.out.drewN _),hO.drewN _⟩
      ·have HJ:Hid (j2=scanDown (fun x=>!ltInt x xa) dk i2 j):=Qa (by rw [←HD.out];exact (Xj (by omega) (.inr (by rw [hxj.out];simp [hl]))).symm)
       have hlt:i2<j2:=by
        rcases Nat.lt_or_ge i2 j2 with h | h
        ·exact h
        ·have he:i2=j2:=by omega
         subst he
         have h1:=HF.out (by omega)
         rw [hxj.out,hl] at h1
         cases h1
       clear c2
       have ci:=(HK.out).cell (j:=i2) (by omega)
       have cj:=(HK.out).cell (j:=j2) (by omega)
       have fi:=(HK.out).free (i2)
       have fj:=(HK.out).free (j2)
       obtain ⟨x,hx⟩:∃ x,Hid (dk[i2]! = x):=⟨_,Qa rfl⟩
       obtain ⟨y,hy⟩:∃ x,Hid (dk[j2]! = x):=⟨_,Qa rfl⟩
       have HW:=Qa (QL (HK.out.drewN nq) (a:=i2) (p:=j2) (by omega) (by omega) hx.out hy.out)
       rw [hx.out] at ci
       rw [hy.out] at cj
       obtain ⟨v',hv'⟩:=cell?_setCell_some (p:=⟨g,i2,none⟩) (x:=.int .u8 y) cj
       have cw:=((HK.out.drewN nq)).cell (j:=j2) (by omega)
       rw [hy.out] at cw
       obtain ⟨v2,hv2⟩:=cell?_setCell_some (p:=⟨g,i2,none⟩) (x:=.int .u8 y) cw
       clear cw
       obtain ⟨RL,hRL⟩:∃ RL,partLoop ltInt a (i2+1) (j2-1) (swp dk i2 j2)=RL:=⟨_,rfl⟩
       have HRR:Hid (R=(RL.1,false,swp RL.2 RL.1 a)):=Qa (by rw [←hRL,←hR.out];exact AJo HS0.out hxa.out hi HI.out HJ.out (by omega))
       replace hRL:=Qa hRL
       go_wp2
       go_region
       obtain ⟨HK0,hO0⟩:=HW.out
       replace HK0:=Qa HK0
       replace hO0:=(hO.drewN nq).trans hO0
       replace hdk:(swp dk i2 j2).size=len:=by rw [size_swp];exact hdk
       generalize swp dk i2 j2=d1 at HK0 hRL hdk
       clear ci cj fi fj hv' hv2 HW hx hy HK hO HI HJ HF HD HU HS0
       go_wp2
       go_loopw [10,11] (fun si sj wr=>∃ (i j:Nat) (dk:Array Int),si=.int .i64 i∧sj=.int .i64 j∧a<i∧i≤j+1∧j+1≤len∧dk.size=len∧Hid (partLoop ltInt a i j dk=RL)∧Hid (Bs wr g cap dk)∧Only g w wr)
        (fun si sj _=>(intOf sj).toNat+1-(intOf si).toNat)
       case atStart=>exact ⟨i2+1,j2-1,d1,by simp,by go_num,by omega,by omega,by omega,hdk,hRL,Qa HK0.out,hO0⟩
       case round =>
        clear hRL HK0 hO0 hdk
        obtain ⟨i,j,dk,rfl,rfl,hai,hij,hjj,hdk,HRL,HK,hO⟩:=hrel
        obtain ⟨xa,hxa⟩:∃ x,Hid (dk[a]! = x):=⟨_,Qa rfl⟩
        go_wp2_with (fail)
        go_loopw [10] (fun sp wr2=>∃ i2:Nat,sp=.int .i64 i2∧i≤i2∧i2≤j+1∧Hid (scanUp (fun x=>ltInt x xa) dk j i2=scanUp (fun x=>ltInt x xa) dk j i)∧Hid (Bs wr2 g cap dk)∧Only g w wr2)
         (fun sp _=>j+2-(intOf sp).toNat)
        case atStart=>exact ⟨i,rfl,Nat.le_refl _,by omega,Qa rfl,HK,hO⟩
        case round =>
         clear HK hO
         obtain ⟨i2,rfl,hii,hij2,HU,HK2,hO2⟩:=hrel
         by_cases hg:(i2:Int)≤(j:Int)
         ·have c0:=HK2.out.cell (j:=a) (by omega)
          have c2:=HK2.out.cell (j:=i2) (by omega)
          rw [hxa.out] at c0
          obtain ⟨xi,hxi⟩:∃ x,Hid (dk[i2]! = x):=⟨_,Qa rfl⟩
          rw [hxi.out] at c2
          go_wp2
          go_big_quiet ((go_at_call 209;first | exact Zg (Qv _ _ _) | exact QJ (Qv _ _ _)))
          cases hl:ltInt xi xa
          ·have HF:Hid (i2≤j→ltInt dk[i2]! xa=false):=Qa (fun _=>by rw [hxi.out];exact hl)
           clear c2
           go_wp2
           have HI:Hid (i2=scanUp (fun x=>ltInt x xa) dk j i):=Qa (by rw [←HU.out];exact (YK (.inr (by rw [hxi.out];simp [hl]))).symm)
           go_loopw [11] (fun sq wr3=>∃ j2:Nat,sq=.int .i64 j2∧i2≤j2+1∧j2≤j∧Hid (scanDown (fun x=>!ltInt x xa) dk i2 j2=scanDown (fun x=>!ltInt x xa) dk i2 j)∧Hid (Bs wr3 g cap dk)∧Only g w wr3)
            (fun sq _=>(intOf sq).toNat)
           case atStart=>exact ⟨j,rfl,by omega,Nat.le_refl _,Qa rfl,Qa (HK2.out.drewN _),hO2.drewN _⟩
           case round =>
            clear HK2 hO2
            obtain ⟨j2,rfl,hij2,hjj2,HD,HK,hO⟩:=hrel
            by_cases hg:(i2:Int)≤(j2:Int)
            ·have c0:=HK.out.cell (j:=a) (by omega)
             have c2:=HK.out.cell (j:=j2) (by omega)
             rw [hxa.out] at c0
             obtain ⟨xj,hxj⟩:∃ x,Hid (dk[j2]! = x):=⟨_,Qa rfl⟩
             rw [hxj.out] at c2
             go_wp2
             go_big_quiet ((go_at_call 209;first | exact Zg (Qv _ _ _) | exact QJ (Qv _ _ _)))
             cases hl:ltInt xj xa
             ·obtain ⟨j2,rfl⟩:∃ k,j2=k+1:=⟨j2-1,by omega⟩
              have HD2:Hid (scanDown (fun x=>!ltInt x xa) dk i2 j2=scanDown (fun x=>!ltInt x xa) dk i2 j):=Qa (by rw [←HD.out];exact (zO (by omega) (by rw [hxj.out];simp [hl])).symm)
              go_wp2
              go_roundw
              case measure=>simp [intOf] <;> omega
              case rel=>exact ⟨j2,by simp,by omega,by omega,HD2,Qa (HK.out.drewN _),hO.drewN _⟩
             ·have HJ:Hid (j2=scanDown (fun x=>!ltInt x xa) dk i2 j):=Qa (by rw [←HD.out];exact (Xj (by omega) (.inr (by rw [hxj.out];simp [hl]))).symm)
              have hlt:i2<j2:=by
               rcases Nat.lt_or_ge i2 j2 with h | h
               ·exact h
               ·have he:i2=j2:=by omega
                subst he
                have h1:=HF.out (by omega)
                rw [hxj.out,hl] at h1
                cases h1
              clear c2
              have ci:=(HK.out).cell (j:=i2) (by omega)
              have cj:=(HK.out).cell (j:=j2) (by omega)
              have fi:=(HK.out).free (i2)
              have fj:=(HK.out).free (j2)
              obtain ⟨x,hx⟩:∃ x,Hid (dk[i2]! = x):=⟨_,Qa rfl⟩
              obtain ⟨y,hy⟩:∃ x,Hid (dk[j2]! = x):=⟨_,Qa rfl⟩
              have HW:=Qa (QL (HK.out.drewN nq) (a:=i2) (p:=j2) (by omega) (by omega) hx.out hy.out)
              rw [hx.out] at ci
              rw [hy.out] at cj
              obtain ⟨v',hv'⟩:=cell?_setCell_some (p:=⟨g,i2,none⟩) (x:=.int .u8 y) cj
              have cw:=((HK.out.drewN nq)).cell (j:=j2) (by omega)
              rw [hy.out] at cw
              obtain ⟨v2,hv2⟩:=cell?_setCell_some (p:=⟨g,i2,none⟩) (x:=.int .u8 y) cw
              clear cw
              go_wp2
              go_region
              go_wp2
              go_roundw
              case measure=>simp [intOf] <;> omega
              case rel=>exact ⟨i2+1,j2-1,swp dk i2 j2,by simp,by go_num,by omega,by omega,by omega,by rw [size_swp];exact hdk,Qa (by rw [←HRL.out];exact (AZu hxa.out HI.out HJ.out (by omega)).symm),Qa HW.out.1,(hO.drewN nq).trans HW.out.2⟩
            ·have hg2:decide ((i2:Int)≤(j2:Int))=false:=by simp;omega
             have hg3:decide (i2≤j2)=false:=by simp;omega
             have HJ:Hid (j2=scanDown (fun x=>!ltInt x xa) dk i2 j):=Qa (by rw [←HD.out];exact (Xj (by omega) (.inl (by omega))).symm)
             go_wp2
             go_big_quiet (fail)
             go_wp2
             have e:RL=(j2,dk):=by rw [←HRL.out];exact AFc hxa.out HI.out HJ.out (by omega)
             have e2:R=(j2,false,swp dk j2 a):=by rw [HRR.out,e]
             subst e2
             by_cases hja:a=j2
             ·subst hja
              have ci:=(HK.out).cell (j:=a) (by omega)
              have cj:=(HK.out).cell (j:=a) (by omega)
              have fi:=(HK.out).free (a)
              have fj:=(HK.out).free (a)
              obtain ⟨x,hx⟩:∃ x,Hid (dk[a]! = x):=⟨_,Qa rfl⟩
              obtain ⟨y,hy⟩:∃ x,Hid (dk[a]! = x):=⟨_,Qa rfl⟩
              have HW:=Qa (QL (HK.out.drewN nq) (a:=a) (p:=a) (by omega) (by omega) hx.out hy.out)
              rw [hx.out] at ci
              rw [hy.out] at cj
              obtain ⟨v',hv'⟩:=cell?_setCell_some (p:=⟨g,a,none⟩) (x:=.int .u8 y) cj
              have cw:=((HK.out.drewN nq)).cell (j:=a) (by omega)
              rw [hy.out] at cw
              obtain ⟨v2,hv2⟩:=cell?_setCell_some (p:=⟨g,a,none⟩) (x:=.int .u8 y) cw
              clear cw
              have hxy:y=x:=by rw [←hy.out,←hx.out]
              subst hxy
              clear hv' hv2
              go_region
              go_wp2
              go_ret2
              exact ⟨rfl,HW.out.1,(hO.drewN nq).trans HW.out.2⟩
             ·have hja2:a<j2:=by omega
              have ci:=(HK.out).cell (j:=j2) (by omega)
              have cj:=(HK.out).cell (j:=a) (by omega)
              have fi:=(HK.out).free (j2)
              have fj:=(HK.out).free (a)
              obtain ⟨x,hx⟩:∃ x,Hid (dk[j2]! = x):=⟨_,Qa rfl⟩
              obtain ⟨y,hy⟩:∃ x,Hid (dk[a]! = x):=⟨_,Qa rfl⟩
              have HW:=Qa (QL (HK.out.drewN nq) (a:=j2) (p:=a) (by omega) (by omega) hx.out hy.out)
              rw [hx.out] at ci
              rw [hy.out] at cj
              obtain ⟨v',hv'⟩:=cell?_setCell_some (p:=⟨g,j2,none⟩) (x:=.int .u8 y) cj
              have cw:=((HK.out.drewN nq)).cell (j:=a) (by omega)
              rw [hy.out] at cw
              obtain ⟨v2,hv2⟩:=cell?_setCell_some (p:=⟨g,j2,none⟩) (x:=.int .u8 y) cw
              clear cw
              go_region
              go_wp2
              go_ret2
              exact ⟨rfl,HW.out.1,(hO.drewN nq).trans HW.out.2⟩
          ·have HU2:Hid (scanUp (fun x=>ltInt x xa) dk j (i2+1)=scanUp (fun x=>ltInt x xa) dk j i):=Qa (by rw [←HU.out];exact (vN (by omega) (by rw [hxi.out];simp [hl])).symm)
           go_wp2
           go_roundw
           case measure=>simp [intOf] <;> omega
           case rel=>exact ⟨i2+1,by simp,by omega,by omega,HU2,Qa (HK2.out.drewN _),hO2.drewN _⟩
         ·have hg2:decide ((i2:Int)≤(j:Int))=false:=by simp;omega
          have hg3:decide (i2≤j)=false:=by simp;omega
          have HF:Hid (i2≤j→ltInt dk[i2]! xa=false):=Qa (fun h=>by omega)
          go_wp2
          go_big_quiet (fail)
          go_wp2
          have HI:Hid (i2=scanUp (fun x=>ltInt x xa) dk j i):=Qa (by rw [←HU.out];exact (YK (.inl (by omega))).symm)
          go_loopw [11] (fun sq wr3=>∃ j2:Nat,sq=.int .i64 j2∧i2≤j2+1∧j2≤j∧Hid (scanDown (fun x=>!ltInt x xa) dk i2 j2=scanDown (fun x=>!ltInt x xa) dk i2 j)∧Hid (Bs wr3 g cap dk)∧Only g w wr3)
           (fun sq _=>(intOf sq).toNat)
          case atStart=>exact ⟨j,rfl,by omega,Nat.le_refl _,Qa rfl,Qa (HK2.out.drewN _),hO2.drewN _⟩
          case round =>
           clear HK2 hO2
           obtain ⟨j2,rfl,hij2,hjj2,HD,HK,hO⟩:=hrel
           by_cases hg:(i2:Int)≤(j2:Int)
           ·exfalso;omega
           ·have hg2:decide ((i2:Int)≤(j2:Int))=false:=by simp;omega
            have hg3:decide (i2≤j2)=false:=by simp;omega
            have HJ:Hid (j2=scanDown (fun x=>!ltInt x xa) dk i2 j):=Qa (by rw [←HD.out];exact (Xj (by omega) (.inl (by omega))).symm)
            go_wp2
            go_big_quiet (fail)
            go_wp2
            have e:RL=(j2,dk):=by rw [←HRL.out];exact AFc hxa.out HI.out HJ.out (by omega)
            have e2:R=(j2,false,swp dk j2 a):=by rw [HRR.out,e]
            subst e2
            by_cases hja:a=j2
            ·subst hja
             have ci:=(HK.out).cell (j:=a) (by omega)
             have cj:=(HK.out).cell (j:=a) (by omega)
             have fi:=(HK.out).free (a)
             have fj:=(HK.out).free (a)
             obtain ⟨x,hx⟩:∃ x,Hid (dk[a]! = x):=⟨_,Qa rfl⟩
             obtain ⟨y,hy⟩:∃ x,Hid (dk[a]! = x):=⟨_,Qa rfl⟩
             have HW:=Qa (QL (HK.out.drewN nq) (a:=a) (p:=a) (by omega) (by omega) hx.out hy.out)
             rw [hx.out] at ci
             rw [hy.out] at cj
             obtain ⟨v',hv'⟩:=cell?_setCell_some (p:=⟨g,a,none⟩) (x:=.int .u8 y) cj
             have cw:=((HK.out.drewN nq)).cell (j:=a) (by omega)
             rw [hy.out] at cw
             obtain ⟨v2,hv2⟩:=cell?_setCell_some (p:=⟨g,a,none⟩) (x:=.int .u8 y) cw
             clear cw
             have hxy:y=x:=by rw [←hy.out,←hx.out]
             subst hxy
             clear hv' hv2
             go_region
             go_wp2
             go_ret2
             exact ⟨rfl,HW.out.1,(hO.drewN nq).trans HW.out.2⟩
            ·have hja2:a<j2:=by omega
             have ci:=(HK.out).cell (j:=j2) (by omega)
             have cj:=(HK.out).cell (j:=a) (by omega)
             have fi:=(HK.out).free (j2)
             have fj:=(HK.out).free (a)
             obtain ⟨x,hx⟩:∃ x,Hid (dk[j2]! = x):=⟨_,Qa rfl⟩
             obtain ⟨y,hy⟩:∃ x,Hid (dk[a]! = x):=⟨_,Qa rfl⟩
             have HW:=Qa (QL (HK.out.drewN nq) (a:=j2) (p:=a) (by omega) (by omega) hx.out hy.out)
             rw [hx.out] at ci
             rw [hy.out] at cj
             obtain ⟨v',hv'⟩:=cell?_setCell_some (p:=⟨g,j2,none⟩) (x:=.int .u8 y) cj
             have cw:=((HK.out.drewN nq)).cell (j:=a) (by omega)
             rw [hy.out] at cw
             obtain ⟨v2,hv2⟩:=cell?_setCell_some (p:=⟨g,j2,none⟩) (x:=.int .u8 y) cw
             clear cw
             go_region
             go_wp2
             go_ret2
             exact ⟨rfl,HW.out.1,(hO.drewN nq).trans HW.out.2⟩
     ·have hg2:decide ((i2:Int)≤(j2:Int))=false:=by simp;omega
      have hg3:decide (i2≤j2)=false:=by simp;omega
      have HJ:Hid (j2=scanDown (fun x=>!ltInt x xa) dk i2 j):=Qa (by rw [←HD.out];exact (Xj (by omega) (.inl (by omega))).symm)
      go_wp2
      go_big_quiet (fail)
      go_wp2
      have e:R=(j2,true,swp dk j2 a):=by rw [←hR.out];exact ql HS0.out hxa.out hi HI.out HJ.out (by omega)
      subst e
      by_cases hja:a=j2
      ·subst hja
       have ci:=(HK.out).cell (j:=a) (by omega)
       have cj:=(HK.out).cell (j:=a) (by omega)
       have fi:=(HK.out).free (a)
       have fj:=(HK.out).free (a)
       obtain ⟨x,hx⟩:∃ x,Hid (dk[a]! = x):=⟨_,Qa rfl⟩
       obtain ⟨y,hy⟩:∃ x,Hid (dk[a]! = x):=⟨_,Qa rfl⟩
       have HW:=Qa (QL (HK.out.drewN nq) (a:=a) (p:=a) (by omega) (by omega) hx.out hy.out)
       rw [hx.out] at ci
       rw [hy.out] at cj
       obtain ⟨v',hv'⟩:=cell?_setCell_some (p:=⟨g,a,none⟩) (x:=.int .u8 y) cj
       have cw:=((HK.out.drewN nq)).cell (j:=a) (by omega)
       rw [hy.out] at cw
       obtain ⟨v2,hv2⟩:=cell?_setCell_some (p:=⟨g,a,none⟩) (x:=.int .u8 y) cw
       clear cw
       have hxy:y=x:=by rw [←hy.out,←hx.out]
       subst hxy
       clear hv' hv2
       go_region
       go_wp2
       go_ret2
       exact ⟨rfl,HW.out.1,(hO.drewN nq).trans HW.out.2⟩
      ·have hja2:a<j2:=by omega
       have ci:=(HK.out).cell (j:=j2) (by omega)
       have cj:=(HK.out).cell (j:=a) (by omega)
       have fi:=(HK.out).free (j2)
       have fj:=(HK.out).free (a)
       obtain ⟨x,hx⟩:∃ x,Hid (dk[j2]! = x):=⟨_,Qa rfl⟩
       obtain ⟨y,hy⟩:∃ x,Hid (dk[a]! = x):=⟨_,Qa rfl⟩
       have HW:=Qa (QL (HK.out.drewN nq) (a:=j2) (p:=a) (by omega) (by omega) hx.out hy.out)
       rw [hx.out] at ci
       rw [hy.out] at cj
       obtain ⟨v',hv'⟩:=cell?_setCell_some (p:=⟨g,j2,none⟩) (x:=.int .u8 y) cj
       have cw:=((HK.out.drewN nq)).cell (j:=a) (by omega)
       rw [hy.out] at cw
       obtain ⟨v2,hv2⟩:=cell?_setCell_some (p:=⟨g,j2,none⟩) (x:=.int .u8 y) cw
       clear cw
       go_region
       go_wp2
       go_ret2
       exact ⟨rfl,HW.out.1,(hO.drewN nq).trans HW.out.2⟩
   ·have HU2:Hid (scanUp (fun x=>ltInt x xa) dk j (i2+1)=scanUp (fun x=>ltInt x xa) dk j i):=Qa (by rw [←HU.out];exact (vN (by omega) (by rw [hxi.out];simp [hl])).symm)
    go_wp2
    go_roundw
    case measure=>simp [intOf] <;> omega
    case rel=>exact ⟨i2+1,by simp,by omega,by omega,HU2,Qa (HK2.out.drewN _),hO2.drewN _⟩
  ·have hg2:decide ((i2:Int)≤(j:Int))=false:=by simp;omega
   have hg3:decide (i2≤j)=false:=by simp;omega
   have HF:Hid (i2≤j→ltInt dk[i2]! xa=false):=Qa (fun h=>by omega)
   go_wp2
   go_big_quiet (fail)
   go_wp2
   have HI:Hid (i2=scanUp (fun x=>ltInt x xa) dk j i):=Qa (by rw [←HU.out];exact (YK (.inl (by omega))).symm)
   go_loopw [11] (fun sq wr3=>∃ j2:Nat,sq=.int .i64 j2∧i2≤j2+1∧j2≤j∧Hid (scanDown (fun x=>!ltInt x xa) dk i2 j2=scanDown (fun x=>!ltInt x xa) dk i2 j)∧Hid (Bs wr3 g cap dk)∧Only g w wr3)
    (fun sq _=>(intOf sq).toNat)
   case atStart=>exact ⟨j,rfl,by omega,Nat.le_refl _,Qa rfl,Qa (HK2.out.drewN _),hO2.drewN _⟩
   case round =>
    clear HK2 hO2
    obtain ⟨j2,rfl,hij2,hjj2,HD,HK,hO⟩:=hrel
    by_cases hg:(i2:Int)≤(j2:Int)
    ·exfalso;omega
    ·have hg2:decide ((i2:Int)≤(j2:Int))=false:=by simp;omega
     have hg3:decide (i2≤j2)=false:=by simp;omega
     have HJ:Hid (j2=scanDown (fun x=>!ltInt x xa) dk i2 j):=Qa (by rw [←HD.out];exact (Xj (by omega) (.inl (by omega))).symm)
     go_wp2
     go_big_quiet (fail)
     go_wp2
     have e:R=(j2,true,swp dk j2 a):=by rw [←hR.out];exact ql HS0.out hxa.out hi HI.out HJ.out (by omega)
     subst e
     by_cases hja:a=j2
     ·subst hja
      have ci:=(HK.out).cell (j:=a) (by omega)
      have cj:=(HK.out).cell (j:=a) (by omega)
      have fi:=(HK.out).free (a)
      have fj:=(HK.out).free (a)
      obtain ⟨x,hx⟩:∃ x,Hid (dk[a]! = x):=⟨_,Qa rfl⟩
      obtain ⟨y,hy⟩:∃ x,Hid (dk[a]! = x):=⟨_,Qa rfl⟩
      have HW:=Qa (QL (HK.out.drewN nq) (a:=a) (p:=a) (by omega) (by omega) hx.out hy.out)
      rw [hx.out] at ci
      rw [hy.out] at cj
      obtain ⟨v',hv'⟩:=cell?_setCell_some (p:=⟨g,a,none⟩) (x:=.int .u8 y) cj
      have cw:=((HK.out.drewN nq)).cell (j:=a) (by omega)
      rw [hy.out] at cw
      obtain ⟨v2,hv2⟩:=cell?_setCell_some (p:=⟨g,a,none⟩) (x:=.int .u8 y) cw
      clear cw
      have hxy:y=x:=by rw [←hy.out,←hx.out]
      subst hxy
      clear hv' hv2
      go_region
      go_wp2
      go_ret2
      exact ⟨rfl,HW.out.1,(hO.drewN nq).trans HW.out.2⟩
     ·have hja2:a<j2:=by omega
      have ci:=(HK.out).cell (j:=j2) (by omega)
      have cj:=(HK.out).cell (j:=a) (by omega)
      have fi:=(HK.out).free (j2)
      have fj:=(HK.out).free (a)
      obtain ⟨x,hx⟩:∃ x,Hid (dk[j2]! = x):=⟨_,Qa rfl⟩
      obtain ⟨y,hy⟩:∃ x,Hid (dk[a]! = x):=⟨_,Qa rfl⟩
      have HW:=Qa (QL (HK.out.drewN nq) (a:=j2) (p:=a) (by omega) (by omega) hx.out hy.out)
      rw [hx.out] at ci
      rw [hy.out] at cj
      obtain ⟨v',hv'⟩:=cell?_setCell_some (p:=⟨g,j2,none⟩) (x:=.int .u8 y) cj
      have cw:=((HK.out.drewN nq)).cell (j:=a) (by omega)
      rw [hy.out] at cw
      obtain ⟨v2,hv2⟩:=cell?_setCell_some (p:=⟨g,j2,none⟩) (x:=.int .u8 y) cw
      clear cw
      go_region
      go_wp2
      go_ret2
      exact ⟨rfl,HW.out.1,(hO.drewN nq).trans HW.out.2⟩
theorem ANh {d:Array Int} {b k:Nat} (h:k+1<b) (hl:ltInt d[k+1]! d[k]! = false):scanSorted ltInt d b (k+1)=scanSorted ltInt d b (k+1+1):=by
 rw [scanSorted,if_pos (by simp [h,hl])]
theorem AMi {d:Array Int} {b k:Nat} (hl:ltInt d[k+1]! d[k]! = true):scanSorted ltInt d b (k+1)=k+1:=by
 rw [scanSorted,if_neg (by simp [hl])]
theorem AQt {d:Array Int} {b i:Nat} (h:¬ i<b):scanSorted ltInt d b i=i:=by
 rw [scanSorted,if_neg (by simp [h])]
theorem VP {d:Array Int} {b m:Nat} (h:m+1<b) (hl:ltInt d[m+1]! d[m]! = true):shiftUp ltInt b (m+1) d=shiftUp ltInt b (m+1+1) (swp d (m+1) m):=by
 rw [shiftUp,if_pos h];simp [hl]
theorem VU {d:Array Int} {b m:Nat} (hl:ltInt d[m+1]! d[m]! = false):shiftUp ltInt b (m+1) d=d:=by
 rw [shiftUp];simp [hl]
theorem qJ {d:Array Int} {b j:Nat} (h:¬ j<b):shiftUp ltInt b j d=d:=by
 rw [shiftUp,if_neg h]
theorem AHt {d:Array Int} {m:Nat} (hl:ltInt d[m+1]! d[m]! = true):shiftDown ltInt (m+1) d=shiftDown ltInt m (swp d (m+1) m):=by
 rw [shiftDown,if_neg (by simp [hl])]
theorem AJm {d:Array Int} {m:Nat} (hl:ltInt d[m+1]! d[m]! = false):shiftDown ltInt (m+1) d=d:=by
 rw [shiftDown,if_pos (by simp [hl])]
theorem AIh (d:Array Int) (len:Nat) (hlen:d.size=len) (g cap a b:Nat) (w:World) (hB:Bs w g cap d) (hab:a<b) (hb:b≤len) (hz:len≤1048575) :
 Calls Tryz.prog 208 #[.slice (some ⟨g,0,none⟩) len cap,.int .i64 a,.int .i64 b] w fun e w' =>
  e=.returned (.bool (partialInsertionSort ltInt d a b).2)∧Bs w' g cap (partialInsertionSort ltInt d a b).1∧Only g w w':=by
 obtain ⟨R,hR⟩:∃ R,partialInsertionSort ltInt d a b=R:=⟨_,rfl⟩
 rw [hR]
 have HR0:Hid (partialIns ltInt a b 5 (a+1) d=R):=Qa hR
 have HB:=Qa hB
 clear hB hR
 go_enter Tryz.func208,Tryz.ntmps208
 go_wp2
 go_loopw [7,8,9,10] (fun si st _ _ wr=>∃ (i t:Nat) (dk:Array Int),si=.int .i64 i∧st=.int .i64 t∧a<i∧i≤b∧t≤5∧dk.size=len∧Hid (partialIns ltInt a b (5-t) i dk=R)∧Hid (Bs wr g cap dk)∧Only g w wr)
  (fun _ st _ _ _=>5-(intOf st).toNat)
 case atStart=>exact ⟨a+1,0,d,by simp,by simp,by omega,by omega,by omega,hlen,HR0,HB,Only.refl _ _⟩
 case round =>
  clear HR0 HB
  obtain ⟨i,t,dk,rfl,rfl,hai,hib,ht5,hdk,HR,HK,hO⟩:=hrel
  by_cases ht:(t:Int)<5
  ·obtain ⟨s,hs⟩:∃ s,5-t=s+1:=⟨4-t,by omega⟩
   have HP:Hid (∀ i2,i2=scanSorted ltInt dk b i→R=if i2=b then (dk,true) else if b-a<50 then (dk,false) else partialIns ltInt a b s i2 (fixUp ltInt b i2 (fixDown ltInt a i2 (swp dk i2 (i2-1))))):=Qa (by
    intro i2 h
    subst h
    rw [←HR.out,hs]
    rfl)
   go_wp2
   go_loopw [7] (fun si wr=>∃ i2:Nat,si=.int .i64 i2∧i≤i2∧i2≤b∧Hid (scanSorted ltInt dk b i2=scanSorted ltInt dk b i)∧Hid (Bs wr g cap dk)∧Only g w wr)
    (fun si _=>b+1-(intOf si).toNat)
   case atStart=>exact ⟨i,rfl,Nat.le_refl _,hib,Qa rfl,HK,hO⟩
   case round =>
    clear HK hO
    obtain ⟨i2,rfl,hii,hi2b,HU,HK,hO⟩:=hrel
    by_cases hg:(i2:Int)<(b:Int)
    ·obtain ⟨k,rfl⟩:∃ k,i2=k+1:=⟨i2-1,by omega⟩
     have hg4:(k:Int)+1<(b:Int):=by omega
     have c1:=HK.out.cell (j:=k+1) (by omega)
     have c2:=HK.out.cell (j:=k) (by omega)
     obtain ⟨x1,hx1⟩:∃ x,Hid (dk[k+1]! = x):=⟨_,Qa rfl⟩
     obtain ⟨x2,hx2⟩:∃ x,Hid (dk[k]! = x):=⟨_,Qa rfl⟩
     rw [hx1.out] at c1
     rw [hx2.out] at c2
     go_wp2
     go_big_quiet ((go_at_call 209;first | exact Zg (Qv _ _ _) | exact QJ (Qv _ _ _)))
     cases hl:ltInt x1 x2
     ·have HL:Hid (ltInt dk[k+1]! dk[k]! = false):=Qa (by rw [hx1.out,hx2.out];exact hl)
      go_wp2
      go_roundw
      case measure=>simp [intOf] <;> omega
      case rel=>exact ⟨k+1+1,by simp,by omega,by omega,Qa (by rw [←HU.out];exact (ANh (by omega) HL.out).symm),Qa (by first | exact HK.out | exact HK.out.drewN _),(by first | exact hO | exact hO.drewN _ | exact (hO.drewN _).drewN _)⟩
     ·have HL:Hid (ltInt dk[k+1]! dk[k]! = true):=Qa (by rw [hx1.out,hx2.out];exact hl)
      clear c1 c2
      have HI:Hid (k+1=scanSorted ltInt dk b i):=Qa (by rw [←HU.out];exact (AMi HL.out).symm)
      by_cases h50:(b:Int)-(a:Int)<50
      ·have e:R=(dk,false):=by rw [HP.out (k+1) HI.out,if_neg (by omega),if_pos (by omega)]
       subst e
       go_wp2
       go_ret
       exact ⟨rfl,(by first | exact HK.out | exact HK.out.drewN _),(by first | exact hO | exact hO.drewN _ | exact (hO.drewN _).drewN _)⟩
      ·have HPd:Hid (R=partialIns ltInt a b s (k+1) (fixUp ltInt b (k+1) (fixDown ltInt a (k+1) (swp dk (k+1) k)))):=Qa (by rw [HP.out (k+1) HI.out,if_neg (by omega),if_neg (by omega)];rfl)
       have ci:=(HK.out).cell (j:=k+1) (by omega)
       have cj:=(HK.out).cell (j:=k) (by omega)
       have fi:=(HK.out).free (k+1)
       have fj:=(HK.out).free (k)
       obtain ⟨x,hx⟩:∃ x,Hid (dk[k+1]! = x):=⟨_,Qa rfl⟩
       obtain ⟨y,hy⟩:∃ x,Hid (dk[k]! = x):=⟨_,Qa rfl⟩
       have HW:=Qa (QL (HK.out.drewN nq) (a:=k+1) (p:=k) (by omega) (by omega) hx.out hy.out)
       rw [hx.out] at ci
       rw [hy.out] at cj
       obtain ⟨v',hv'⟩:=cell?_setCell_some (p:=⟨g,k+1,none⟩) (x:=.int .u8 y) cj
       have cw:=((HK.out.drewN nq)).cell (j:=k) (by omega)
       rw [hy.out] at cw
       obtain ⟨v2,hv2⟩:=cell?_setCell_some (p:=⟨g,k+1,none⟩) (x:=.int .u8 y) cw
       clear cw
       go_wp2
       go_region
       obtain ⟨HK0,hO0⟩:=HW.out
       replace HK0:=Qa HK0
       replace hO0:=(hO.drewN nq).trans hO0
       replace hdk:(swp dk (k+1) k).size=len:=by rw [size_swp];exact hdk
       generalize swp dk (k+1) k=d1 at HK0 HPd hdk
       clear ci cj fi fj hv' hv2 HW hx hy HK hO HI HL hx1 hx2 HP HU
       clear HR
       obtain ⟨dk,rfl⟩:∃ z,z=d1:=⟨_,rfl⟩
       have HK:=HK0
       have hO:=hO0
       clear HK0 hO0
       by_cases h2:(k:Int)+1-(a:Int) ≥ 2
       ·have HV:Hid (R=partialIns ltInt a b s (k+1) (fixUp ltInt b (k+1) (shiftDown ltInt k dk))):=Qa (by rw [HPd.out,fixDown,if_pos (by omega)];rfl)
        clear HPd
        go_wp2
        go_loopw [9] (fun sj wr=>∃ (j:Nat) (du:Array Int),sj=.int .i64 j∧j≤k∧du.size=len∧Hid (R=partialIns ltInt a b s (k+1) (fixUp ltInt b (k+1) (shiftDown ltInt j du)))∧Hid (Bs wr g cap du)∧Only g w wr)
         (fun sj _=>(intOf sj).toNat)
        case atStart=>exact ⟨k,dk,by simp,Nat.le_refl _,hdk,HV,Qa (by first | exact HK.out | exact HK.out.drewN _),(by first | exact hO | exact hO.drewN _ | exact (hO.drewN _).drewN _)⟩
        case round =>
         clear HK hO HV
         clear hdk
         obtain ⟨j,dk,rfl,hjk,hdk,HV,HK,hO⟩:=hrel
         by_cases hj:(j:Int) ≥ 1
         ·obtain ⟨m,rfl⟩:∃ m,j=m+1:=⟨j-1,by omega⟩
          have c1:=HK.out.cell (j:=m+1) (by omega)
          have c2:=HK.out.cell (j:=m) (by omega)
          obtain ⟨x1,hx1⟩:∃ x,Hid (dk[m+1]! = x):=⟨_,Qa rfl⟩
          obtain ⟨x2,hx2⟩:∃ x,Hid (dk[m]! = x):=⟨_,Qa rfl⟩
          rw [hx1.out] at c1
          rw [hx2.out] at c2
          go_wp2
          go_big_quiet ((go_at_call 209;first | exact Zg (Qv _ _ _) | exact QJ (Qv _ _ _)))
          cases hl:ltInt x1 x2
          ·have HL:Hid (ltInt dk[m+1]! dk[m]! = false):=Qa (by rw [hx1.out,hx2.out];exact hl)
           clear c1 c2
           have HPc:Hid (R=partialIns ltInt a b s (k+1) (fixUp ltInt b (k+1) dk)):=Qa (by rw [HV.out,AJm HL.out])
           clear HV
           by_cases h3:(b:Int)-((k:Int)+1) ≥ 2
           ·have HV:Hid (R=partialIns ltInt a b s (k+1) (shiftUp ltInt b (k+1+1) dk)):=Qa (by rw [HPc.out,fixUp,if_pos (by omega)])
            clear HPc
            go_wp2
            go_loopw [10] (fun sj wr=>∃ (j:Nat) (du:Array Int),sj=.int .i64 j∧k+2≤j∧j≤b∧du.size=len∧Hid (R=partialIns ltInt a b s (k+1) (shiftUp ltInt b j du))∧Hid (Bs wr g cap du)∧Only g w wr)
             (fun sj _=>b+1-(intOf sj).toNat)
            case atStart=>exact ⟨k+1+1,dk,by simp,by omega,by omega,hdk,HV,Qa (by first | exact HK.out | exact HK.out.drewN _),(by first | exact hO | exact hO.drewN _ | exact (hO.drewN _).drewN _)⟩
            case round =>
             clear HK hO
             obtain ⟨j,du,rfl,hkj,hjb,hdu,HU,HK,hO⟩:=hrel
             have HVV:=HU
             clear HV HU
             clear hdk
             obtain ⟨dk,rfl⟩:∃ z,z=du:=⟨_,rfl⟩
             have hdk:=hdu
             clear hdu
             by_cases hj:(j:Int)<(b:Int)
             ·obtain ⟨m,rfl⟩:∃ m,j=m+1:=⟨j-1,by omega⟩
              have c1:=HK.out.cell (j:=m+1) (by omega)
              have c2:=HK.out.cell (j:=m) (by omega)
              obtain ⟨x1,hx1⟩:∃ x,Hid (dk[m+1]! = x):=⟨_,Qa rfl⟩
              obtain ⟨x2,hx2⟩:∃ x,Hid (dk[m]! = x):=⟨_,Qa rfl⟩
              rw [hx1.out] at c1
              rw [hx2.out] at c2
              go_wp2
              go_big_quiet ((go_at_call 209;first | exact Zg (Qv _ _ _) | exact QJ (Qv _ _ _)))
              cases hl:ltInt x1 x2
              ·have HL:Hid (ltInt dk[m+1]! dk[m]! = false):=Qa (by rw [hx1.out,hx2.out];exact hl)
               have HPu:Hid (R=partialIns ltInt a b s (k+1) dk):=Qa (by rw [HVV.out,VU HL.out])
               clear c1 c2
               go_wp2
               go_roundw
               case measure=>simp [intOf] <;> omega
               case rel=>exact ⟨k+1,t+1,dk,by simp,by simp,by omega,by omega,by omega,hdk,Qa (by rw [HPu.out,show 5-(t+1)=s by omega]),Qa (by first | exact HK.out | exact HK.out.drewN _),(by first | exact hO | exact hO.drewN _ | exact (hO.drewN _).drewN _)⟩
              ·have HL:Hid (ltInt dk[m+1]! dk[m]! = true):=Qa (by rw [hx1.out,hx2.out];exact hl)
               clear c1 c2
               have ci:=(HK.out).cell (j:=m+1) (by omega)
               have cj:=(HK.out).cell (j:=m) (by omega)
               have fi:=(HK.out).free (m+1)
               have fj:=(HK.out).free (m)
               obtain ⟨x,hx⟩:∃ x,Hid (dk[m+1]! = x):=⟨_,Qa rfl⟩
               obtain ⟨y,hy⟩:∃ x,Hid (dk[m]! = x):=⟨_,Qa rfl⟩
               have HW:=Qa (QL (HK.out.drewN nq) (a:=m+1) (p:=m) (by omega) (by omega) hx.out hy.out)
               rw [hx.out] at ci
               rw [hy.out] at cj
               obtain ⟨v',hv'⟩:=cell?_setCell_some (p:=⟨g,m+1,none⟩) (x:=.int .u8 y) cj
               have cw:=((HK.out.drewN nq)).cell (j:=m) (by omega)
               rw [hy.out] at cw
               obtain ⟨v2,hv2⟩:=cell?_setCell_some (p:=⟨g,m+1,none⟩) (x:=.int .u8 y) cw
               clear cw
               go_wp2
               go_region
               have HV2:Hid (R=partialIns ltInt a b s (k+1) (shiftUp ltInt b (m+1+1) (swp dk (m+1) m))):=Qa (by rw [HVV.out,VP (by omega) HL.out])
               go_wp2
               go_roundw
               case measure=>simp [intOf] <;> omega
               case rel=>exact ⟨m+1+1,swp dk (m+1) m,by simp,by omega,by omega,by rw [size_swp];exact hdk,HV2,Qa HW.out.1,(hO.drewN nq).trans HW.out.2⟩
             ·have HPu:Hid (R=partialIns ltInt a b s (k+1) dk):=Qa (by rw [HVV.out,qJ (by omega)])
              go_wp2
              go_roundw
              case measure=>simp [intOf] <;> omega
              case rel=>exact ⟨k+1,t+1,dk,by simp,by simp,by omega,by omega,by omega,hdk,Qa (by rw [HPu.out,show 5-(t+1)=s by omega]),Qa (by first | exact HK.out | exact HK.out.drewN _),(by first | exact hO | exact hO.drewN _ | exact (hO.drewN _).drewN _)⟩
           ·have HPu:Hid (R=partialIns ltInt a b s (k+1) dk):=Qa (by rw [HPc.out,fixUp,if_neg (by omega)])
            clear HPc
            go_wp2
            go_roundw
            case measure=>simp [intOf] <;> omega
            case rel=>exact ⟨k+1,t+1,dk,by simp,by simp,by omega,by omega,by omega,hdk,Qa (by rw [HPu.out,show 5-(t+1)=s by omega]),Qa (by first | exact HK.out | exact HK.out.drewN _),(by first | exact hO | exact hO.drewN _ | exact (hO.drewN _).drewN _)⟩
          ·have HL:Hid (ltInt dk[m+1]! dk[m]! = true):=Qa (by rw [hx1.out,hx2.out];exact hl)
           clear c1 c2
           have ci:=(HK.out).cell (j:=m+1) (by omega)
           have cj:=(HK.out).cell (j:=m) (by omega)
           have fi:=(HK.out).free (m+1)
           have fj:=(HK.out).free (m)
           obtain ⟨x,hx⟩:∃ x,Hid (dk[m+1]! = x):=⟨_,Qa rfl⟩
           obtain ⟨y,hy⟩:∃ x,Hid (dk[m]! = x):=⟨_,Qa rfl⟩
           have HW:=Qa (QL (HK.out.drewN nq) (a:=m+1) (p:=m) (by omega) (by omega) hx.out hy.out)
           rw [hx.out] at ci
           rw [hy.out] at cj
           obtain ⟨v',hv'⟩:=cell?_setCell_some (p:=⟨g,m+1,none⟩) (x:=.int .u8 y) cj
           have cw:=((HK.out.drewN nq)).cell (j:=m) (by omega)
           rw [hy.out] at cw
           obtain ⟨v2,hv2⟩:=cell?_setCell_some (p:=⟨g,m+1,none⟩) (x:=.int .u8 y) cw
           clear cw
           go_wp2
           go_region
           go_wp2
           go_roundw
           case measure=>simp [intOf] <;> omega
           case rel=>exact ⟨m,swp dk (m+1) m,by simp,by omega,by rw [size_swp];exact hdk,Qa (by rw [HV.out,AHt HL.out]),Qa HW.out.1,(hO.drewN nq).trans HW.out.2⟩
         ·obtain rfl:j=0:=by omega
          have HPc:Hid (R=partialIns ltInt a b s (k+1) (fixUp ltInt b (k+1) dk)):=Qa HV.out
          clear HV
          by_cases h3:(b:Int)-((k:Int)+1) ≥ 2
          ·have HV:Hid (R=partialIns ltInt a b s (k+1) (shiftUp ltInt b (k+1+1) dk)):=Qa (by rw [HPc.out,fixUp,if_pos (by omega)])
           clear HPc
           go_wp2
           go_loopw [10] (fun sj wr=>∃ (j:Nat) (du:Array Int),sj=.int .i64 j∧k+2≤j∧j≤b∧du.size=len∧Hid (R=partialIns ltInt a b s (k+1) (shiftUp ltInt b j du))∧Hid (Bs wr g cap du)∧Only g w wr)
            (fun sj _=>b+1-(intOf sj).toNat)
           case atStart=>exact ⟨k+1+1,dk,by simp,by omega,by omega,hdk,HV,Qa (by first | exact HK.out | exact HK.out.drewN _),(by first | exact hO | exact hO.drewN _ | exact (hO.drewN _).drewN _)⟩
           case round =>
            clear HK hO
            obtain ⟨j,du,rfl,hkj,hjb,hdu,HU,HK,hO⟩:=hrel
            have HVV:=HU
            clear HV HU
            clear hdk
            obtain ⟨dk,rfl⟩:∃ z,z=du:=⟨_,rfl⟩
            have hdk:=hdu
            clear hdu
            by_cases hj:(j:Int)<(b:Int)
            ·obtain ⟨m,rfl⟩:∃ m,j=m+1:=⟨j-1,by omega⟩
             have c1:=HK.out.cell (j:=m+1) (by omega)
             have c2:=HK.out.cell (j:=m) (by omega)
             obtain ⟨x1,hx1⟩:∃ x,Hid (dk[m+1]! = x):=⟨_,Qa rfl⟩
             obtain ⟨x2,hx2⟩:∃ x,Hid (dk[m]! = x):=⟨_,Qa rfl⟩
             rw [hx1.out] at c1
             rw [hx2.out] at c2
             go_wp2
             go_big_quiet ((go_at_call 209;first | exact Zg (Qv _ _ _) | exact QJ (Qv _ _ _)))
             cases hl:ltInt x1 x2
             ·have HL:Hid (ltInt dk[m+1]! dk[m]! = false):=Qa (by rw [hx1.out,hx2.out];exact hl)
              have HPu:Hid (R=partialIns ltInt a b s (k+1) dk):=Qa (by rw [HVV.out,VU HL.out])
              clear c1 c2
              go_wp2
              go_roundw
              case measure=>simp [intOf] <;> omega
              case rel=>exact ⟨k+1,t+1,dk,by simp,by simp,by omega,by omega,by omega,hdk,Qa (by rw [HPu.out,show 5-(t+1)=s by omega]),Qa (by first | exact HK.out | exact HK.out.drewN _),(by first | exact hO | exact hO.drewN _ | exact (hO.drewN _).drewN _)⟩
             ·have HL:Hid (ltInt dk[m+1]! dk[m]! = true):=Qa (by rw [hx1.out,hx2.out];exact hl)
              clear c1 c2
              have ci:=(HK.out).cell (j:=m+1) (by omega)
              have cj:=(HK.out).cell (j:=m) (by omega)
              have fi:=(HK.out).free (m+1)
              have fj:=(HK.out).free (m)
              obtain ⟨x,hx⟩:∃ x,Hid (dk[m+1]! = x):=⟨_,Qa rfl⟩
              obtain ⟨y,hy⟩:∃ x,Hid (dk[m]! = x):=⟨_,Qa rfl⟩
              have HW:=Qa (QL (HK.out.drewN nq) (a:=m+1) (p:=m) (by omega) (by omega) hx.out hy.out)
              rw [hx.out] at ci
              rw [hy.out] at cj
              obtain ⟨v',hv'⟩:=cell?_setCell_some (p:=⟨g,m+1,none⟩) (x:=.int .u8 y) cj
              have cw:=((HK.out.drewN nq)).cell (j:=m) (by omega)
              rw [hy.out] at cw
              obtain ⟨v2,hv2⟩:=cell?_setCell_some (p:=⟨g,m+1,none⟩) (x:=.int .u8 y) cw
              clear cw
              go_wp2
              go_region
              have HV2:Hid (R=partialIns ltInt a b s (k+1) (shiftUp ltInt b (m+1+1) (swp dk (m+1) m))):=Qa (by rw [HVV.out,VP (by omega) HL.out])
              go_wp2
              go_roundw
              case measure=>simp [intOf] <;> omega
              case rel=>exact ⟨m+1+1,swp dk (m+1) m,by simp,by omega,by omega,by rw [size_swp];exact hdk,HV2,Qa HW.out.1,(hO.drewN nq).trans HW.out.2⟩
            ·have HPu:Hid (R=partialIns ltInt a b s (k+1) dk):=Qa (by rw [HVV.out,qJ (by omega)])
             go_wp2
             go_roundw
             case measure=>simp [intOf] <;> omega
             case rel=>exact ⟨k+1,t+1,dk,by simp,by simp,by omega,by omega,by omega,hdk,Qa (by rw [HPu.out,show 5-(t+1)=s by omega]),Qa (by first | exact HK.out | exact HK.out.drewN _),(by first | exact hO | exact hO.drewN _ | exact (hO.drewN _).drewN _)⟩
          ·have HPu:Hid (R=partialIns ltInt a b s (k+1) dk):=Qa (by rw [HPc.out,fixUp,if_neg (by omega)])
           clear HPc
           go_wp2
           go_roundw
           case measure=>simp [intOf] <;> omega
           case rel=>exact ⟨k+1,t+1,dk,by simp,by simp,by omega,by omega,by omega,hdk,Qa (by rw [HPu.out,show 5-(t+1)=s by omega]),Qa (by first | exact HK.out | exact HK.out.drewN _),(by first | exact hO | exact hO.drewN _ | exact (hO.drewN _).drewN _)⟩
       ·have HPc:Hid (R=partialIns ltInt a b s (k+1) (fixUp ltInt b (k+1) dk)):=Qa (by rw [HPd.out,fixDown,if_neg (by omega)])
        clear HPd
        by_cases h3:(b:Int)-((k:Int)+1) ≥ 2
        ·have HV:Hid (R=partialIns ltInt a b s (k+1) (shiftUp ltInt b (k+1+1) dk)):=Qa (by rw [HPc.out,fixUp,if_pos (by omega)])
         clear HPc
         go_wp2
         go_loopw [10] (fun sj wr=>∃ (j:Nat) (du:Array Int),sj=.int .i64 j∧k+2≤j∧j≤b∧du.size=len∧Hid (R=partialIns ltInt a b s (k+1) (shiftUp ltInt b j du))∧Hid (Bs wr g cap du)∧Only g w wr)
          (fun sj _=>b+1-(intOf sj).toNat)
         case atStart=>exact ⟨k+1+1,dk,by simp,by omega,by omega,hdk,HV,Qa (by first | exact HK.out | exact HK.out.drewN _),(by first | exact hO | exact hO.drewN _ | exact (hO.drewN _).drewN _)⟩
         case round =>
          clear HK hO
          obtain ⟨j,du,rfl,hkj,hjb,hdu,HU,HK,hO⟩:=hrel
          have HVV:=HU
          clear HV HU
          clear hdk
          obtain ⟨dk,rfl⟩:∃ z,z=du:=⟨_,rfl⟩
          have hdk:=hdu
          clear hdu
          by_cases hj:(j:Int)<(b:Int)
          ·obtain ⟨m,rfl⟩:∃ m,j=m+1:=⟨j-1,by omega⟩
           have c1:=HK.out.cell (j:=m+1) (by omega)
           have c2:=HK.out.cell (j:=m) (by omega)
           obtain ⟨x1,hx1⟩:∃ x,Hid (dk[m+1]! = x):=⟨_,Qa rfl⟩
           obtain ⟨x2,hx2⟩:∃ x,Hid (dk[m]! = x):=⟨_,Qa rfl⟩
           rw [hx1.out] at c1
           rw [hx2.out] at c2
           go_wp2
           go_big_quiet ((go_at_call 209;first | exact Zg (Qv _ _ _) | exact QJ (Qv _ _ _)))
           cases hl:ltInt x1 x2
           ·have HL:Hid (ltInt dk[m+1]! dk[m]! = false):=Qa (by rw [hx1.out,hx2.out];exact hl)
            have HPu:Hid (R=partialIns ltInt a b s (k+1) dk):=Qa (by rw [HVV.out,VU HL.out])
            clear c1 c2
            go_wp2
            go_roundw
            case measure=>simp [intOf] <;> omega
            case rel=>exact ⟨k+1,t+1,dk,by simp,by simp,by omega,by omega,by omega,hdk,Qa (by rw [HPu.out,show 5-(t+1)=s by omega]),Qa (by first | exact HK.out | exact HK.out.drewN _),(by first | exact hO | exact hO.drewN _ | exact (hO.drewN _).drewN _)⟩
           ·have HL:Hid (ltInt dk[m+1]! dk[m]! = true):=Qa (by rw [hx1.out,hx2.out];exact hl)
            clear c1 c2
            have ci:=(HK.out).cell (j:=m+1) (by omega)
            have cj:=(HK.out).cell (j:=m) (by omega)
            have fi:=(HK.out).free (m+1)
            have fj:=(HK.out).free (m)
            obtain ⟨x,hx⟩:∃ x,Hid (dk[m+1]! = x):=⟨_,Qa rfl⟩
            obtain ⟨y,hy⟩:∃ x,Hid (dk[m]! = x):=⟨_,Qa rfl⟩
            have HW:=Qa (QL (HK.out.drewN nq) (a:=m+1) (p:=m) (by omega) (by omega) hx.out hy.out)
            rw [hx.out] at ci
            rw [hy.out] at cj
            obtain ⟨v',hv'⟩:=cell?_setCell_some (p:=⟨g,m+1,none⟩) (x:=.int .u8 y) cj
            have cw:=((HK.out.drewN nq)).cell (j:=m) (by omega)
            rw [hy.out] at cw
            obtain ⟨v2,hv2⟩:=cell?_setCell_some (p:=⟨g,m+1,none⟩) (x:=.int .u8 y) cw
            clear cw
            go_wp2
            go_region
            have HV2:Hid (R=partialIns ltInt a b s (k+1) (shiftUp ltInt b (m+1+1) (swp dk (m+1) m))):=Qa (by rw [HVV.out,VP (by omega) HL.out])
            go_wp2
            go_roundw
            case measure=>simp [intOf] <;> omega
            case rel=>exact ⟨m+1+1,swp dk (m+1) m,by simp,by omega,by omega,by rw [size_swp];exact hdk,HV2,Qa HW.out.1,(hO.drewN nq).trans HW.out.2⟩
          ·have HPu:Hid (R=partialIns ltInt a b s (k+1) dk):=Qa (by rw [HVV.out,qJ (by omega)])
           go_wp2
           go_roundw
           case measure=>simp [intOf] <;> omega
           case rel=>exact ⟨k+1,t+1,dk,by simp,by simp,by omega,by omega,by omega,hdk,Qa (by rw [HPu.out,show 5-(t+1)=s by omega]),Qa (by first | exact HK.out | exact HK.out.drewN _),(by first | exact hO | exact hO.drewN _ | exact (hO.drewN _).drewN _)⟩
        ·have HPu:Hid (R=partialIns ltInt a b s (k+1) dk):=Qa (by rw [HPc.out,fixUp,if_neg (by omega)])
         clear HPc
         go_wp2
         go_roundw
         case measure=>simp [intOf] <;> omega
         case rel=>exact ⟨k+1,t+1,dk,by simp,by simp,by omega,by omega,by omega,hdk,Qa (by rw [HPu.out,show 5-(t+1)=s by omega]),Qa (by first | exact HK.out | exact HK.out.drewN _),(by first | exact hO | exact hO.drewN _ | exact (hO.drewN _).drewN _)⟩
    ·have hg2:decide ((i2:Int)<(b:Int))=false:=by simp;omega
     have hg3:decide (i2<b)=false:=by simp;omega
     have hib2:i2=b:=by omega
     have e:R=(dk,true):=by rw [HP.out i2 (by rw [←HU.out];exact (AQt (by omega)).symm),if_pos hib2]
     subst e
     go_wp2
     go_big_quiet (fail)
     go_wp2
     go_ret
     exact ⟨rfl,(by first | exact HK.out | exact HK.out.drewN _),(by first | exact hO | exact hO.drewN _ | exact (hO.drewN _).drewN _)⟩
  ·obtain rfl:t=5:=by omega
   have e:R=(dk,false):=HR.out.symm
   subst e
   go_wp2
   go_ret
   exact ⟨rfl,HK.out,hO⟩
end Go.Proofs.YtembljihmnmmfaaGreat
