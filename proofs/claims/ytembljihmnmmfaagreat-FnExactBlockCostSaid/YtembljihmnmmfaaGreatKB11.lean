/- Texts of the proof, merged. -/
import Derived.Shelf.Abstract
import Derived.BigQuiet
import Derived.BigRegion
import Derived.Deep.QuietTactic
import Derived.Deep.RegionWith
import Derived.Test.YtembljihmnmmfaaGreatKB2
import Derived.Test.YtembljihmnmmfaaGreatKB3
namespace Go.Proofs.YtembljihmnmmfaaGreat
set_option maxHeartbeats 16000000
set_option maxRecDepth 100000
set_option linter.unusedVariables false
set_option linter.unusedSimpArgs false
open Go.RowKit
def Fs (w:World) (g n cap:Nat) (f:Nat→Nat):Prop:=n≤cap∧∃ cur:Array Value,Has w g 3 cur∧cur.size=cap∧∀ j,j<n→cur[j]? = some (.int .i64 (f j:Int))
theorem Fs.cell {w:World} {g n cap:Nat} {f:Nat→Nat} (h:Fs w g n cap f) {j:Nat} (hj:j<n):w.cell? ⟨g,j,none⟩=some (.int .i64 (f j:Int)):=by
 obtain ⟨_,cur,h1,_,h2⟩:=h
 rw [h1.cell,h2 j hj]
theorem Fs.free {w:World} {g n cap:Nat} {f:Nat→Nat} (h:Fs w g n cap f) (j:Nat):w.frozen? ⟨g,j,none⟩=false:=by
 obtain ⟨_,cur,h1,_,_⟩:=h
 exact h1.free j
theorem Fs.lt {w:World} {g n cap:Nat} {f:Nat→Nat} (h:Fs w g n cap f):g<w.heap.size:=by
 obtain ⟨_,cur,h1,_,_⟩:=h
 exact h1.lt
theorem Fs.drewN {w:World} {g n cap:Nat} {f:Nat→Nat} (h:Fs w g n cap f) (k:Nat):Fs (w.drewN k) g n cap f:=h
theorem Fs.drew {w:World} {g n cap:Nat} {f:Nat→Nat} (h:Fs w g n cap f):Fs w.drew g n cap f:=h
theorem Fs.sw {w:World} {g n cap:Nat} {f:Nat→Nat} (h:Fs w g n cap f) {i j:Nat} (hi:i<n) (hj:j<n) (hne:i≠j) :
 Fs ((w.setCell ⟨g,i,none⟩ (.int .i64 (f j:Int))).setCell ⟨g,j,none⟩ (.int .i64 (f i:Int))) g n cap (swF f i j):=by
 obtain ⟨h0,cur,h1,h2,h3⟩:=h
 refine ⟨h0,_,(h1.store i _).store j _,by simp [h2],fun k hk=>?_⟩
 rw [Array.getElem?_setIfInBounds,Array.getElem?_setIfInBounds]
 unfold swF
 by_cases h4:j=k
 ·subst h4
  rw [if_pos rfl,if_pos (by simp [h2];omega),if_neg (fun e=>hne e.symm),if_pos rfl]
 ·rw [if_neg h4]
  by_cases h5:i=k
  ·subst h5
   rw [if_pos rfl,if_pos (by omega),if_pos rfl]
  ·rw [if_neg h5,if_neg (fun e=>h5 e.symm),if_neg (fun e=>h4 e.symm)]
   exact h3 k hk
def CmpD (gf:Nat) (lb:Array Value) (cf:Nat→Nat→Int) (n g:Nat) (w0:World):Prop :=
 ∀ w,Only g w0 w→∀ x y:Nat,x<n→y<n→Calls Tryz.prog gf (#[.int .i64 (x:Int),.int .i64 (y:Int)]++lb) w fun e w'=>e=.returned (.int .i64 (cf x y))∧∃ q,w'=w.drewN q
theorem CmpD.only {gf:Nat} {lb:Array Value} {cf:Nat→Nat→Int} {n g:Nat} {w0 w:World} (h:CmpD gf lb cf n g w0) (ho:Only g w0 w):CmpD gf lb cf n g w:=fun w2 h2=>h w2 (ho.trans h2)
theorem Yr (f:Nat→Nat) (N g cap a b n:Nat) (fv:Value) (w:World) (hB:Fs w g N cap f) (hab:a+n≤b) (hb:b+n≤N) (hz:N<1099511627776) :
 Calls Tryz.prog 220 #[.slice (some ⟨g,0,none⟩) N cap,.int .i64 (a:Int),.int .i64 (b:Int),.int .i64 (n:Int),fv] w fun e w' =>
  e=.returned (.tuple #[])∧Fs w' g N cap (srF f a b n)∧Only g w w':=by
 have HB:=Qa hB
 clear hB
 go_enter Tryz.func220,Tryz.ntmps220
 go_wp2
 go_loopw [10] (fun si wr=>∃ (i:Nat),si=.int .i64 i∧i≤n∧Hid (Fs wr g N cap (srF f a b i))∧Only g w wr) (fun si _=>n-(intOf si).toNat)
 case atStart=>exact ⟨0,rfl,by omega,Qa (by rw [ARz];exact HB.out),Only.refl _ _⟩
 case round =>
  obtain ⟨i,rfl,hi,HK,hO⟩:=hrel
  by_cases hlt:(i:Int)<(n:Int)
  ·have ci:=HK.out.cell (j:=a+i) (by omega)
   have cj:=HK.out.cell (j:=b+i) (by omega)
   have fi:=HK.out.free (a+i)
   have fj:=HK.out.free (b+i)
   have HS:=Qa (HK.out.sw (i:=a+i) (j:=b+i) (by omega) (by omega) (by omega))
   rw [ATb f a b i (by omega)] at HS
   generalize srF f a b i (a+i)=x at ci HS
   generalize srF f a b i (b+i)=y at cj HS
   go_wp2
   go_region
   go_wp2
   go_roundw
   case measure=>simp [intOf];omega
   case rel=>exact ⟨i+1,by simp,by omega,HS,(((hO.store (.inl rfl) _).store (.inl rfl) _).drew)⟩
  ·obtain rfl:i=n:=by omega
   go_wp2
   go_end0
   exact ⟨rfl,HK.out,hO⟩
theorem yB (f:Nat→Nat) (N g cap a m b:Nat) (fv:Value) (w:World) (hB:Fs w g N cap f) (ham:a<m) (hmb:m<b) (hb:b≤N) (hz:N<1099511627776) :
 Calls Tryz.prog 213 #[.slice (some ⟨g,0,none⟩) N cap,.int .i64 (a:Int),.int .i64 (m:Int),.int .i64 (b:Int),fv] w fun e w' =>
  e=.returned (.tuple #[])∧Fs w' g N cap (roF f a m b)∧Only g w w':=by
 have HB:=Qa hB
 clear hB
 go_enter Tryz.func213,Tryz.ntmps213
 go_wp2
 go_loopw [10,11] (fun si sj wr=>∃ (i j:Nat) (fk:Nat→Nat),si=.int .i64 i∧sj=.int .i64 j∧0<i∧0<j∧i≤m∧m+j≤N∧Hid (roF fk (m-i) m (m+j)=roF f a m b)∧Hid (Fs wr g N cap fk)∧Only g w wr) (fun si sj _=>(intOf si).toNat+(intOf sj).toNat)
 case atStart=>exact ⟨m-a,b-m,f,by congr 1;omega,by congr 1;omega,by omega,by omega,by omega,by omega,Qa (by rw [show m-(m-a)=a by omega,show m+(b-m)=b by omega]),HB,Only.refl _ _⟩
 case round =>
  obtain ⟨i,j,fk,rfl,rfl,hi,hj,him,hjN,HR,HK,hO⟩:=hrel
  by_cases heq:i=j
  ·subst heq
   have KS:=Qa (fun W h=>Yr fk N g cap (m-i) m i fv W h (by omega) (by omega) hz)
   rw [ATg fk m i him |>.symm] at HR
   have e1:((m:Int)-(i:Int))=((m-i:Nat):Int):=by omega
   go_wp2_with fail
   refine (KS.out _ (by exact HK.out)).mono ?_
   rintro e w3 ⟨rfl,h3,o3⟩
   go_wp2
   go_end0
   exact ⟨rfl,by rw [←HR.out];exact h3,hO.trans o3⟩
  ·have hne:((i:Int) != (j:Int))=true:=by simp;omega
   by_cases hlt:(j:Int)<(i:Int)
   ·have KS:=Qa (fun W h=>Yr fk N g cap (m-i) m j fv W h (by omega) (by omega) hz)
    rw [(AUr fk m i j hj (by omega) him).symm] at HR
    have e1:((m:Int)-(i:Int))=((m-i:Nat):Int):=by omega
    go_wp2_with fail
    refine (KS.out _ (by exact HK.out)).mono ?_
    rintro e w3 ⟨rfl,h3,o3⟩
    have H3:=Qa h3
    clear h3 KS
    go_wp2
    go_roundw
    case measure=>simp [intOf];omega
    case rel=>exact ⟨i-j,j,_,by congr 1;omega,rfl,by omega,hj,by omega,hjN,HR,H3,hO.trans o3⟩
   ·have KS:=Qa (fun W h=>Yr fk N g cap (m-i) (m+j-i) i fv W h (by omega) (by omega) hz)
    rw [(AOu fk m i j hi (by omega) him).symm] at HR
    have e1:((m:Int)-(i:Int))=((m-i:Nat):Int):=by omega
    have e2:((m:Int)+(j:Int)-(i:Int))=((m+j-i:Nat):Int):=by omega
    go_wp2_with fail
    refine (KS.out _ (by exact HK.out)).mono ?_
    rintro e w3 ⟨rfl,h3,o3⟩
    have H3:=Qa h3
    clear h3 KS
    go_wp2
    go_roundw
    case measure=>simp [intOf];omega
    case rel=>exact ⟨i,j-i,_,rfl,by congr 1;omega,hi,by omega,him,by omega,HR,H3,hO.trans o3⟩
theorem AQc (f:Nat→Nat) (j i:Nat):dnF f j i j=f i:=by unfold dnF;rw [if_pos rfl]
theorem ABl (f:Nat→Nat) (j i k:Nat) (h:k<j):dnF f j i k=f k:=by unfold dnF;rw [if_neg (by omega),if_neg (by omega)]
theorem AAh (gf:Nat) (lb:Array Value) (cf:Nat→Nat→Int) (R:Nat→Nat→Prop) (M:Nat) (f:Nat→Nat) (N g cap a b:Nat) (w:World)
 (eg:∀ (args:Array Value) (W:World),(callFunc gf args).run Tryz.prog W=.ok (.enter gf args) W)
 (hB:Fs w g N cap f) (hC:CmpD gf lb cf M g w) (C:Cmp cf R M) (hasc:∀ x y,a≤x→x<y→y<b→f x<f y) (hlt:∀ k,a≤k→k<b→f k<M) (hab:a≤b) (hb:b≤N) (hz:N<1099511627776) :
 Calls Tryz.prog 200 #[.slice (some ⟨g,0,none⟩) N cap,.int .i64 (a:Int),.int .i64 (b:Int),.func (.func gf) #[] lb] w fun e w' =>
  e=.returned (.tuple #[])∧∃ f2,Fs w' g N cap f2∧So R f2 a b∧Trn a b f f2∧Only g w w':=by
 have HB:=Qa hB
 have HC:=Qa hC
 have HA:=Qa hasc
 have HL:=Qa hlt
 clear hB hC hasc hlt
 go_enter Tryz.func200,Tryz.ntmps200
 go_wp2
 go_loopw [8] (fun si wr=>∃ (i:Nat) (fk:Nat→Nat),si=.int .i64 i∧a<i∧(i≤b∨i=a+1)∧Hid (So R fk a i∧Trn a i f fk)∧Hid (Fs wr g N cap fk)∧Only g w wr) (fun si _=>b+1-(intOf si).toNat)
 case atStart=>exact ⟨a+1,f,by simp,by omega,.inr rfl,Qa ⟨So.short f (Nat.le_refl _),Trn.refl _ _ _⟩,HB,Only.refl _ _⟩
 case round =>
  obtain ⟨i,fk,rfl,hai,hib,HS,HK,hO⟩:=hrel
  by_cases hlt:(i:Int)<(b:Int)
  ·have HM:Hid (Mg cf R M fk a i (i+1)):=Qa (by
    obtain ⟨h1,h2⟩:=HS.out
    refine ⟨fun k c1 c2=>?_,h1,So.short fk (Nat.le_refl _),fun x y c1 c2 c3 c4=>?_⟩
    ·rcases Nat.lt_or_ge k i with d | d
     ·obtain ⟨t,e1,e2,e3⟩:=h2.mem c1 d
      rw [e3];exact HL.out t e1 (by omega)
     ·rw [h2.out (.inr d)];exact HL.out k c1 (by omega)
    ·obtain rfl:y=i:=by omega
     obtain ⟨t,e1,e2,e3⟩:=h2.mem c1 c2
     rw [e3,h2.out (.inr (Nat.le_refl _))]
     exact HA.out t y e1 e2 (by omega))
   go_wp2
   go_loopw [9] (fun sj wr2=>∃ (j:Nat),sj=.int .i64 j∧a≤j∧j≤i∧Hid (j=i∨cf (fk i) (fk j)<0)∧Hid (Fs wr2 g N cap (dnF fk j i))∧Only g w wr2) (fun sj _=>(intOf sj).toNat)
   case atStart=>exact ⟨i,rfl,by omega,Nat.le_refl _,Qa (.inl rfl),Qa (by rw [jM];exact HK.out),hO⟩
   case round =>
    clear hO HK
    obtain ⟨j,rfl,haj,hji,HJ,HK2,hO2⟩:=hrel
    have OUT:Hid ((j=a∨¬ cf (fk i) (fk (j-1))<0)→So R (dnF fk j i) a (i+1)∧Trn a (i+1) f (dnF fk j i)):=Qa (fun hs=>by
     have h:=AAs C HM.out haj hji hs HJ.out
     exact ⟨h.1,(HS.out.2.mono (Nat.le_refl _) (by omega)).trans h.2⟩)
    by_cases hja:a<j
    ·obtain ⟨j,rfl⟩:∃ k,j=k+1:=⟨j-1,by omega⟩
     have ci:=HK2.out.cell (j:=j) (by omega)
     have cj:=HK2.out.cell (j:=j+1) (by omega)
     have fi:=HK2.out.free j
     have fj:=HK2.out.free (j+1)
     have HW:=Qa (HK2.out.sw (i:=j+1) (j:=j) (by omega) (by omega) (by omega))
     rw [jE fk j i hji] at HW
     rw [AQc,ABl _ _ _ _ (by omega)] at HW
     rw [ABl _ _ _ _ (by omega)] at ci
     rw [AQc] at cj
     have HX:Hid (fk i<M):=Qa (HM.out.lt i (by omega) (by omega))
     have HY:Hid (fk j<M):=Qa (HM.out.lt j (by omega) (by omega))
     rw [Nat.add_sub_cancel] at OUT
     obtain ⟨v,hv⟩:∃ v,v=cf (fk i) (fk j):=⟨_,rfl⟩
     have hc:Hid (∀ n',Calls Tryz.prog gf (#[.int .i64 (fk i:Int),.int .i64 (fk j:Int)]++lb) (wr.drewN n') fun e w'=>e=.returned (.int .i64 v)∧∃ q,w'=(wr.drewN n').drewN q) :=
      Qa (fun n'=>by rw [hv];exact HC.out _ (hO2.drewN n') _ _ HX.out HY.out)
     have HV:=Qa hv
     clear hv HX HY
     generalize hxx:fk i=x at ci cj HW hc
     generalize hyy:fk j=y at ci cj HW hc
     have HXX:=Qa hxx
     have HYY:=Qa hyy
     clear hxx hyy
     have hg:(a:Int)<(j:Int)+1:=by omega
     go_wp2
     go_quiet ((go_at_fn gf;exact Calls.quiet_of (hc.out _)))
     by_cases hl:v<0
     ·go_wp2
      go_region
      go_wp2
      go_roundw
      case measure=>simp [intOf]
      case rel=>exact ⟨j,rfl,by omega,by omega,Qa (.inr (by rw [←HXX.out,←HV.out];exact hl)),HW,Only.store (Only.store (hO2.drewN _) (.inl rfl) _) (.inl rfl) _⟩
     ·go_wp2
      go_roundw
      case measure=>simp [intOf];omega
      case rel=>exact ⟨i+1,_,by simp,by omega,by omega,Qa (OUT.out (.inr (by first | (rw [←HV.out];omega) | (rw [HYY.out,←HV.out];omega)))),Qa (HK2.out.drewN _),hO2.drewN _⟩
    ·have hg:decide ((a:Int)<(j:Int))=false:=by simp;omega
     go_wp2
     go_quiet (fail)
     go_wp2
     go_roundw
     case measure=>simp [intOf];omega
     case rel=>exact ⟨i+1,_,by simp,by omega,by omega,Qa (OUT.out (.inl (by omega))),Qa (HK2.out.drewN _),hO2.drewN _⟩
  ·go_wp2
   go_end0
   have hs:=HS.out
   refine ⟨rfl,fk,HK.out,?_,?_,hO⟩
   ·rcases hib with h | h
    ·rw [show b=i by omega];exact hs.1
    ·exact hs.1.sub (Nat.le_refl _) (by omega)
   ·rcases hib with h | h
    ·rw [show b=i by omega];exact hs.2
    ·obtain ⟨s,c1,c2,c3,c4⟩:=hs.2
     by_cases hab2:a=b
     ·have e:fk=f:=by
       funext k
       rw [c1]
       by_cases hk:k=a
       ·have:=c3 k (by omega) (by omega);rw [show s k=k by omega]
       ·rw [c2 k (by omega)]
      rw [e];exact Trn.refl _ _ _
     ·rw [show b=i by omega];exact hs.2
def TwoI (P:Nat→Nat→Prop) (si sj:Value):Prop:=∃ i j:Nat,si=.int .i64 (i:Int)∧sj=.int .i64 (j:Int)∧P i j
theorem AHw (gf:Nat) (lb:Array Value) (cf:Nat→Nat→Int) (R:Nat→Nat→Prop) (M:Nat) (f:Nat→Nat) (N g cap a b:Nat) (w:World)
 (eg:∀ (args:Array Value) (W:World),(callFunc gf args).run Tryz.prog W=.ok (.enter gf args) W)
 (hB:Fs w g N cap f) (hC:CmpD gf lb cf M g w) (C:Cmp cf R M) (hM:Mg cf R M f a (a+1) b) (hab:a+1<b) (hb:b≤N) (hz:N<1099511627776) :
 Calls Tryz.prog 201 #[.slice (some ⟨g,0,none⟩) N cap,.int .i64 (a:Int),.int .i64 ((a+1:Nat):Int),.int .i64 (b:Int),.func (.func gf) #[] lb] w fun e w' =>
  e=.returned (.tuple #[])∧∃ f2,Fs w' g N cap f2∧So R f2 a b∧Trn a b f f2∧Only g w w':=by
 have HB:=Qa hB
 have HC:=Qa hC
 have HM:=Qa hM
 clear hB hC hM
 have e0:((a:Int)+1-(a:Int))=1:=by omega
 go_enter Tryz.func201,Tryz.ntmps201
 go_wp2
 go_loopw [10,11,12] (fun si sj _ wr=>TwoI (fun i j=>a+1≤i∧i≤j∧j≤b∧Hid (i=a+1∨cf (f (i-1)) (f a)<0)∧Hid (j=b∨0≤cf (f j) (f a))) si sj∧Hid (Fs wr g N cap f)∧Only g w wr) (fun si sj _ _=>(intOf sj).toNat-(intOf si).toNat)
 case atStart=>exact ⟨⟨a+1,b,by simp,rfl,Nat.le_refl _,by omega,Nat.le_refl _,Qa (.inl rfl),Qa (.inl rfl)⟩,HB,Only.refl _ _⟩
 case round =>
  obtain ⟨⟨i,j,rfl,rfl,hi,hij,hj,H1,H2⟩,HK,hO⟩:=hrel
  by_cases hlt:(i:Int)<(j:Int)
  ·obtain ⟨h,hh⟩:∃ h,(i+j) / 2=h:=⟨_,rfl⟩
   have ch:=HK.out.cell (j:=h) (by omega)
   have ca:=HK.out.cell (j:=a) (by omega)
   obtain ⟨v,hv⟩:∃ v,v=cf (f h) (f a):=⟨_,rfl⟩
   have hc:Hid (∀ n',Calls Tryz.prog gf (#[.int .i64 (f h:Int),.int .i64 (f a:Int)]++lb) (wr.drewN n') fun e w'=>e=.returned (.int .i64 v)∧∃ q,w'=(wr.drewN n').drewN q) :=
    Qa (fun n'=>by rw [hv];exact HC.out _ (hO.drewN n') _ _ (HM.out.lt h (by omega) (by omega)) (HM.out.lt a (by omega) (by omega)))
   have HV:=Qa hv
   clear hv
   obtain ⟨x,hx⟩:∃ x,f h=x:=⟨_,rfl⟩
   obtain ⟨y,hy⟩:∃ y,f a=y:=⟨_,rfl⟩
   rw [hx] at ch hc
   rw [hy] at ca hc
   clear hx hy
   go_wp2
   go_quiet ((go_at_fn gf;exact Calls.quiet_of (hc.out _)))
   by_cases hl:v<0
   ·go_wp2
    go_roundw
    case measure=>simp [intOf];omega
    case rel=>exact ⟨⟨h+1,j,by congr 1;omega,rfl,by omega,by omega,hj,Qa (.inr (by rw [Nat.add_sub_cancel];have e:=HV.out;rw [←e];first | exact hl | omega)),H2⟩,Qa (HK.out.drewN _),hO.drewN _⟩
   ·go_wp2
    go_roundw
    case measure=>simp [intOf];omega
    case rel=>exact ⟨⟨i,h,rfl,by congr 1;omega,by omega,by omega,by omega,H1,Qa (.inr (by have e:=HV.out;rw [←e];first | exact hl | omega))⟩,Qa (HK.out.drewN _),hO.drewN _⟩
  ·obtain rfl:i=j:=by omega
   have HR:=Qa (ATa C HM.out hi hj H1.out (H2.out.imp id Int.not_lt.2))
   go_wp2
   go_loopw [13] (fun sk wr=>∃ (k:Nat),sk=.int .i64 k∧a≤k∧k≤i-1∧Hid (Fs wr g N cap (upF f a k))∧Only g w wr) (fun sk _=>i-(intOf sk).toNat)
   case atStart=>exact ⟨a,rfl,Nat.le_refl _,by omega,Qa (by rw [AFj];exact HK.out),hO⟩
   case round =>
    clear HK hO
    obtain ⟨k,rfl,hak,hki,HK,hO⟩:=hrel
    by_cases hlt2:(k:Int)<(i:Int)-1
    ·have ci:=HK.out.cell (j:=k) (by omega)
     have cj:=HK.out.cell (j:=k+1) (by omega)
     have fi:=HK.out.free k
     have fj:=HK.out.free (k+1)
     have HS:=Qa (HK.out.sw (i:=k) (j:=k+1) (by omega) (by omega) (by omega))
     rw [AEx f a k hak] at HS
     generalize upF f a k k=x at ci HS
     generalize upF f a k (k+1)=y at cj HS
     go_wp2
     go_region
     go_wp2
     go_roundw
     case measure=>simp [intOf];omega
     case rel=>exact ⟨k+1,by simp,by omega,by omega,HS,(((hO.store (.inl rfl) _).store (.inl rfl) _).drew)⟩
    ·obtain rfl:k=i-1:=by omega
     go_wp2
     refine bodyPost_ret (results_none rfl _ _ _) rfl ?_
     exact ⟨rfl,_,HK.out,HR.out.1,HR.out.2,hO⟩
theorem ADk (gf:Nat) (lb:Array Value) (cf:Nat→Nat→Int) (R:Nat→Nat→Prop) (M:Nat) (f:Nat→Nat) (N g cap a m:Nat) (w:World)
 (eg:∀ (args:Array Value) (W:World),(callFunc gf args).run Tryz.prog W=.ok (.enter gf args) W)
 (hB:Fs w g N cap f) (hC:CmpD gf lb cf M g w) (C:Cmp cf R M) (hM:Mg cf R M f a m (m+1)) (ham:a+1<m) (hb:m+1≤N) (hz:N<1099511627776) :
 Calls Tryz.prog 201 #[.slice (some ⟨g,0,none⟩) N cap,.int .i64 (a:Int),.int .i64 (m:Int),.int .i64 ((m+1:Nat):Int),.func (.func gf) #[] lb] w fun e w' =>
  e=.returned (.tuple #[])∧∃ f2,Fs w' g N cap f2∧So R f2 a (m+1)∧Trn a (m+1) f f2∧Only g w w':=by
 have HB:=Qa hB
 have HC:=Qa hC
 have HM:=Qa hM
 clear hB hC hM
 have e0:((m:Int)+1-(m:Int))=1:=by omega
 have e1:¬ ((m:Int)-(a:Int))=1:=by omega
 have e2:decide (((m:Int)-(a:Int))=1)=false:=decide_eq_false e1
 go_enter Tryz.func201,Tryz.ntmps201
 go_wp2
 go_loopw [14,15,16] (fun si sj _ wr=>TwoI (fun i j=>a≤i∧i≤j∧j≤m∧Hid (i=a∨0≤cf (f m) (f (i-1)))∧Hid (j=m∨cf (f m) (f j)<0)) si sj∧Hid (Fs wr g N cap f)∧Only g w wr) (fun si sj _ _=>(intOf sj).toNat-(intOf si).toNat)
 case atStart=>exact ⟨⟨a,m,rfl,rfl,Nat.le_refl _,by omega,Nat.le_refl _,Qa (.inl rfl),Qa (.inl rfl)⟩,HB,Only.refl _ _⟩
 case round =>
  obtain ⟨⟨i,j,rfl,rfl,hi,hij,hj,H1,H2⟩,HK,hO⟩:=hrel
  by_cases hlt:(i:Int)<(j:Int)
  ·obtain ⟨h,hh⟩:∃ h,(i+j) / 2=h:=⟨_,rfl⟩
   have ch:=HK.out.cell (j:=h) (by omega)
   have cm:=HK.out.cell (j:=m) (by omega)
   obtain ⟨v,hv⟩:∃ v,v=cf (f m) (f h):=⟨_,rfl⟩
   have hc:Hid (∀ n',Calls Tryz.prog gf (#[.int .i64 (f m:Int),.int .i64 (f h:Int)]++lb) (wr.drewN n') fun e w'=>e=.returned (.int .i64 v)∧∃ q,w'=(wr.drewN n').drewN q) :=
    Qa (fun n'=>by rw [hv];exact HC.out _ (hO.drewN n') _ _ (HM.out.lt m (by omega) (by omega)) (HM.out.lt h (by omega) (by omega)))
   have HV:=Qa hv
   clear hv
   obtain ⟨x,hx⟩:∃ x,f h=x:=⟨_,rfl⟩
   obtain ⟨y,hy⟩:∃ y,f m=y:=⟨_,rfl⟩
   rw [hx] at ch hc
   rw [hy] at cm hc
   clear hx hy
   go_wp2
   go_quiet ((go_at_fn gf;exact Calls.quiet_of (hc.out _)))
   go_wp2
   ·rename_i hl0
    have hl:¬ v<0:=by simpa using hl0
    go_roundw
    case measure=>simp [intOf];omega
    case rel=>exact ⟨⟨h+1,j,by congr 1;omega,rfl,by omega,by omega,hj,Qa (.inr (by rw [Nat.add_sub_cancel];have e:=HV.out;rw [←e];omega)),H2⟩,Qa (HK.out.drewN _),hO.drewN _⟩
   ·rename_i hl0
    have hl:v<0:=by simpa using hl0
    go_roundw
    case measure=>simp [intOf];omega
    case rel=>exact ⟨⟨i,h,rfl,by congr 1;omega,by omega,by omega,by omega,H1,Qa (.inr (by have e:=HV.out;rw [←e];exact hl))⟩,Qa (HK.out.drewN _),hO.drewN _⟩
  ·obtain rfl:i=j:=by omega
   have HR:=Qa (AAs C HM.out hi hj (H1.out.imp id Int.not_lt.2) H2.out)
   go_wp2
   go_loopw [17] (fun sk wr=>∃ (k:Nat),sk=.int .i64 k∧i≤k∧k≤m∧Hid (Fs wr g N cap (dnF f k m))∧Only g w wr) (fun sk _=>(intOf sk).toNat)
   case atStart=>exact ⟨m,rfl,by omega,Nat.le_refl _,Qa (by rw [jM];exact HK.out),hO⟩
   case round =>
    clear HK hO
    obtain ⟨k,rfl,hik,hkm,HK,hO⟩:=hrel
    by_cases hlt2:(i:Int)<(k:Int)
    ·obtain ⟨k,rfl⟩:∃ k2,k=k2+1:=⟨k-1,by omega⟩
     have ci:=HK.out.cell (j:=k) (by omega)
     have cj:=HK.out.cell (j:=k+1) (by omega)
     have fi:=HK.out.free k
     have fj:=HK.out.free (k+1)
     have HS:=Qa (HK.out.sw (i:=k+1) (j:=k) (by omega) (by omega) (by omega))
     rw [jE f k m hkm] at HS
     generalize dnF f (k+1) m k=x at ci HS
     generalize dnF f (k+1) m (k+1)=y at cj HS
     have hg:(i:Int)<(k:Int)+1:=by omega
     go_wp2
     go_region
     go_wp2
     go_roundw
     case measure=>simp [intOf]
     case rel=>exact ⟨k,by simp,by omega,by omega,HS,(((hO.store (.inl rfl) _).store (.inl rfl) _).drew)⟩
    ·obtain rfl:k=i:=by omega
     go_wp2
     refine bodyPost_ret (results_none rfl _ _ _) rfl ?_
     exact ⟨rfl,_,HK.out,HR.out.1,HR.out.2,hO⟩
theorem Mg.of {cf:Nat→Nat→Int} {R:Nat→Nat→Prop} {n:Nat} {f g:Nat→Nat} {a m b:Nat} (h:Mg cf R n f a m b) (he:∀ k,a≤k→k<b→g k=f k) (ha:a≤m:=by omega) (hb:m≤b:=by omega):Mg cf R n g a m b :=
 ⟨fun k c1 c2=>by rw [he k c1 c2];exact h.lt k c1 c2,h.le.of fun k c1 c2=>he k c1 (by omega),h.ri.of fun k c1 c2=>he k (by omega) c2,fun i j c1 c2 c3 c4=>by
  rw [he i c1 (by omega),he j (by omega) c4];exact h.cr i j c1 c2 c3 c4⟩
theorem Mg.ri0 {cf:Nat→Nat→Int} {R:Nat→Nat→Prop} {n:Nat} {f:Nat→Nat} {a m b:Nat} (h:Mg cf R n f a m b) (h1:a=m∨m=b) (h2:a≤m):So R f a b:=by
 rcases h1 with h1 | h1
 ·rw [h1];exact h.ri
 ·rw [←h1];exact h.le
theorem AHk (gf:Nat) (lb:Array Value) (cf:Nat→Nat→Int) (R:Nat→Nat→Prop) (M:Nat) (f:Nat→Nat) (N g cap a m b mid s0 r0:Nat) (w:World)
 (eg:∀ (args:Array Value) (W:World),(callFunc gf args).run Tryz.prog W=.ok (.enter gf args) W)
 (hB:Fs w g N cap f) (hC:CmpD gf lb cf M g w) (C:Cmp cf R M) (hM:Mg cf R M f a m b) (ham:a+1<m) (hmb:m+1<b) (hb:b≤N) (hz:N<1099511627776)
 (hmid:(a+b) / 2=mid) (hgt:m≤mid) (hs0:s0=a) (hr0:r0=m)
 (ki:∀ (a2 m2 b2:Nat) (f2:Nat→Nat) (W:World),Only g w W→Fs W g N cap f2→Mg cf R M f2 a2 m2 b2→a2<m2→m2<b2→b2≤N→b2-a2<b-a →
   Calls Tryz.prog 201 #[.slice (some ⟨g,0,none⟩) N cap,.int .i64 (a2:Int),.int .i64 (m2:Int),.int .i64 (b2:Int),.func (.func gf) #[] lb] W fun e w' =>
    e=.returned (.tuple #[])∧∃ f3,Fs w' g N cap f3∧So R f3 a2 b2∧Trn a2 b2 f2 f3∧Only g W w') :
 Calls Tryz.prog 201 #[.slice (some ⟨g,0,none⟩) N cap,.int .i64 (a:Int),.int .i64 (m:Int),.int .i64 (b:Int),.func (.func gf) #[] lb] w fun e w' =>
  e=.returned (.tuple #[])∧∃ f2,Fs w' g N cap f2∧So R f2 a b∧Trn a b f f2∧Only g w w':=by
 have HB:=Qa hB
 have HC:=Qa hC
 have HM:=Qa hM
 have KI:=Qa ki
 have H0:Hid ((s0=a∧r0=m∧m≤mid)∨(s0+b=mid+m∧r0=mid∧mid<m)):=Qa (by omega)
 clear hB hC hM ki
 have e1:decide (((m:Int)-(a:Int))=1)=false:=decide_eq_false (by omega)
 have e2:decide (((b:Int)-(m:Int))=1)=false:=decide_eq_false (by omega)
 have e1':(((m:Int)-(a:Int)) == 1)=false:=by simp;omega
 have e2':(((b:Int)-(m:Int)) == 1)=false:=by simp;omega
 have em:((a:Int)+(b:Int)) / 2=(mid:Int):=by omega
 have hg:¬ (mid:Int)<(m:Int):=by omega
 have es:(a:Int)=(s0:Int):=by omega
 have er:(m:Int)=(r0:Int):=by omega
 clear es er
 go_enter Tryz.func201,Tryz.ntmps201
 go_wp2
 go_loopw [20,21,23] (fun si sj _ wr=>TwoI (fun s r=>s0≤s∧s≤r∧r≤r0∧Hid (s=s0∨0≤cf (f (mid+m-s)) (f (s-1)))∧Hid (r=r0∨cf (f (mid+m-1-r)) (f r)<0)) si sj∧Hid (Fs wr g N cap f)∧Only g w wr) (fun si sj _ _=>(intOf sj).toNat-(intOf si).toNat)
 case atStart=>exact ⟨⟨s0,r0,by rw [hs0],by rw [hr0],Nat.le_refl _,by omega,Nat.le_refl _,Qa (.inl rfl),Qa (.inl rfl)⟩,HB,Only.refl _ _⟩
 case round =>
  obtain ⟨⟨s,r,rfl,rfl,hs,hsr,hr,H1,H2⟩,HK,hO⟩:=hrel
  by_cases hlt:(s:Int)<(r:Int)
  ·obtain ⟨c,hcc⟩:∃ c,(s+r) / 2=c:=⟨_,rfl⟩
   obtain ⟨q,hq⟩:∃ q,mid+m-1-c=q:=⟨_,rfl⟩
   have ec:((s:Int)+(r:Int)) / 2=(c:Int):=by omega
   have eq1:(mid:Int)+(m:Int)-1-(c:Int)=(q:Int):=by omega
   have hcb:a≤c∧c<m∧m≤q∧q<b:=by omega
   have cq:=HK.out.cell (j:=q) (by omega)
   have c0:=HK.out.cell (j:=c) (by omega)
   obtain ⟨v,hv⟩:∃ v,v=cf (f q) (f c):=⟨_,rfl⟩
   have hcl:Hid (∀ n',Calls Tryz.prog gf (#[.int .i64 (f q:Int),.int .i64 (f c:Int)]++lb) (wr.drewN n') fun e w'=>e=.returned (.int .i64 v)∧∃ q,w'=(wr.drewN n').drewN q) :=
    Qa (fun n'=>by rw [hv];exact HC.out _ (hO.drewN n') _ _ (HM.out.lt q (by omega) (by omega)) (HM.out.lt c (by omega) (by omega)))
   have HV:=Qa hv
   clear hv
   obtain ⟨x,hx⟩:∃ x,f q=x:=⟨_,rfl⟩
   obtain ⟨y,hy⟩:∃ y,f c=y:=⟨_,rfl⟩
   rw [hx] at cq hcl
   rw [hy] at c0 hcl
   clear hx hy
   go_wp2
   go_quiet ((go_at_fn gf;exact Calls.quiet_of (hcl.out _)))
   go_wp2
   ·rename_i hl0
    have hl:¬ v<0:=by simpa using hl0
    go_roundw
    case measure=>simp [intOf];omega
    case rel=>exact ⟨⟨c+1,r,by simp,rfl,by omega,by omega,hr,Qa (.inr (by rw [Nat.add_sub_cancel,show mid+m-(c+1)=q by omega];have e:=HV.out;rw [←e];omega)),H2⟩,Qa (HK.out.drewN _),hO.drewN _⟩
   ·rename_i hl0
    have hl:v<0:=by simpa using hl0
    go_roundw
    case measure=>simp [intOf];omega
    case rel=>exact ⟨⟨s,c,rfl,rfl,by omega,by omega,by omega,H1,Qa (.inr (by rw [hq];have e:=HV.out;rw [←e];exact hl))⟩,Qa (HK.out.drewN _),hO.drewN _⟩
  ·obtain rfl:s=r:=by omega
   obtain ⟨e,he⟩:∃ e,mid+m-s=e:=⟨_,rfl⟩
   have ee:(mid:Int)+(m:Int)-(s:Int)=(e:Int):=by omega
   have HPP:=Qa (AAv C HM.out (by omega) (by omega) hmid.symm ⟨H0.out,hs,hr,H1.out.imp id Int.not_lt.2,H2.out⟩)
   have hb1:a≤s∧s≤m∧m≤e∧e≤b∧s≤mid∧mid≤e:=by have h:=HPP.out;rw [he] at h;omega
   have PP:Hid (Mg cf R M (roF f s m e) a s mid∧Mg cf R M (roF f s m e) mid e b∧∀ i j,a≤i→i<mid→mid≤j→j<b→R (roF f s m e i) (roF f s m e j)):=Qa (by have h:=HPP.out;rw [he] at h;exact h.2.2.2.2.2.2)
   have TR:Hid (Trn a b f (roF f s m e)):=Qa ((vO f (by omega) (by omega)).mono (by omega) (by omega))
   have KR:=Qa (fun W h=>yB f N g cap s m e (.func (.func gf) #[] lb) W h)
   have HI:Hid ((s=m∨m=e)→roF f s m e=f):=Qa (fun h=>ARn f s m e h (by omega) (by omega))
   obtain ⟨f1,hf1⟩:∃ f1,roF f s m e=f1:=⟨_,rfl⟩
   rw [hf1] at PP TR KR HI
   clear HPP H1 H2 hf1
   by_cases c1:(s:Int)<(m:Int)
   ·by_cases c2:(m:Int)<(e:Int)
    ·go_wp2_with fail
     refine (KR.out _ (by exact HK.out) (by omega) (by omega) (by omega) hz).mono ?_
     rintro ed w3 ⟨rfl,h3,o3⟩
     have H3:=Qa h3
     have O3:=hO.trans o3
     clear h3 o3 KR
     by_cases c3:(a:Int)<(s:Int)
     ·by_cases c4:(s:Int)<(mid:Int)
      ·go_wp2_with fail
       refine (KI.out a s mid _ _ (by exact O3) (by exact H3.out) (by exact PP.out.1) (by omega) (by omega) (by omega) (by omega)).mono ?_
       rintro ed w4 ⟨rfl,f2,h4,s4,t4,o4⟩
       have H4:=Qa h4
       have T4:=Qa t4
       have S4:=Qa s4
       have O4:=O3.trans o4
       clear h4 s4 t4 o4
       have HG:Hid (Mg cf R M f2 mid e b):=Qa (PP.out.2.1.of (fun k c1 c2=>T4.out.out (.inr c1)))
       by_cases c5:(mid:Int)<(e:Int)
       ·by_cases c6:(e:Int)<(b:Int)
        ·first
         | (exfalso;omega)
         | (go_wp2_with fail
            refine (KI.out mid e b f2 _ (by exact O4) (by exact H4.out) (by exact HG.out) (by omega) (by omega) (by omega) (by omega)).mono ?_
            rintro ed w5 ⟨rfl,f3,h5,s5,t5,o5⟩
            have H5:=Qa h5
            have T5:=Qa t5
            have S5:=Qa s5
            clear h5 s5 t5
            go_wp2
            go_end0
            exact ⟨rfl,f3,H5.out,(Qd (by omega) (by omega) PP.out.2.2 T4.out S4.out T5.out S5.out).1,TR.out.trans (Qd (by omega) (by omega) PP.out.2.2 T4.out S4.out T5.out S5.out).2,(O4.trans o5)⟩)
        ·first
         | (exfalso;omega)
         | (go_wp2
            go_end0
            exact ⟨rfl,f2,H4.out,(Qd (by omega) (by omega) PP.out.2.2 T4.out S4.out (Trn.refl _ _ _) (HG.out.ri0 (by omega) (by omega))).1,TR.out.trans (Qd (by omega) (by omega) PP.out.2.2 T4.out S4.out (Trn.refl _ _ _) (HG.out.ri0 (by omega) (by omega))).2,O4⟩)
       ·first
        | (exfalso;omega)
        | (go_wp2
           go_end0
           exact ⟨rfl,f2,H4.out,(Qd (by omega) (by omega) PP.out.2.2 T4.out S4.out (Trn.refl _ _ _) (HG.out.ri0 (by omega) (by omega))).1,TR.out.trans (Qd (by omega) (by omega) PP.out.2.2 T4.out S4.out (Trn.refl _ _ _) (HG.out.ri0 (by omega) (by omega))).2,O4⟩)
      ·have HT:Hid (Trn a mid f1 f1):=Qa (Trn.refl _ _ _)
       have HS:Hid (So R f1 a mid):=Qa (PP.out.1.le.sub (Nat.le_refl _) (by omega))
       have HG:Hid (Mg cf R M f1 mid e b):=Qa (PP.out.2.1.of (fun k c1 c2=>HT.out.out (.inr c1)))
       by_cases c5:(mid:Int)<(e:Int)
       ·by_cases c6:(e:Int)<(b:Int)
        ·first
         | (exfalso;omega)
         | (go_wp2_with fail
            refine (KI.out mid e b f1 _ (by exact O3) (by exact H3.out) (by exact HG.out) (by omega) (by omega) (by omega) (by omega)).mono ?_
            rintro ed w5 ⟨rfl,f3,h5,s5,t5,o5⟩
            have H5:=Qa h5
            have T5:=Qa t5
            have S5:=Qa s5
            clear h5 s5 t5
            go_wp2
            go_end0
            exact ⟨rfl,f3,H5.out,(Qd (by omega) (by omega) PP.out.2.2 HT.out HS.out T5.out S5.out).1,TR.out.trans (Qd (by omega) (by omega) PP.out.2.2 HT.out HS.out T5.out S5.out).2,(O3.trans o5)⟩)
        ·first
         | (exfalso;omega)
         | (go_wp2
            go_end0
            exact ⟨rfl,f1,H3.out,(Qd (by omega) (by omega) PP.out.2.2 HT.out HS.out (Trn.refl _ _ _) (HG.out.ri0 (by omega) (by omega))).1,TR.out.trans (Qd (by omega) (by omega) PP.out.2.2 HT.out HS.out (Trn.refl _ _ _) (HG.out.ri0 (by omega) (by omega))).2,O3⟩)
       ·first
        | (exfalso;omega)
        | (go_wp2
           go_end0
           exact ⟨rfl,f1,H3.out,(Qd (by omega) (by omega) PP.out.2.2 HT.out HS.out (Trn.refl _ _ _) (HG.out.ri0 (by omega) (by omega))).1,TR.out.trans (Qd (by omega) (by omega) PP.out.2.2 HT.out HS.out (Trn.refl _ _ _) (HG.out.ri0 (by omega) (by omega))).2,O3⟩)
     ·have HT:Hid (Trn a mid f1 f1):=Qa (Trn.refl _ _ _)
      have HS:Hid (So R f1 a mid):=Qa (PP.out.1.ri.sub (by omega) (Nat.le_refl _))
      have HG:Hid (Mg cf R M f1 mid e b):=Qa (PP.out.2.1.of (fun k c1 c2=>HT.out.out (.inr c1)))
      by_cases c5:(mid:Int)<(e:Int)
      ·by_cases c6:(e:Int)<(b:Int)
       ·first
        | (exfalso;omega)
        | (go_wp2_with fail
           refine (KI.out mid e b f1 _ (by exact O3) (by exact H3.out) (by exact HG.out) (by omega) (by omega) (by omega) (by omega)).mono ?_
           rintro ed w5 ⟨rfl,f3,h5,s5,t5,o5⟩
           have H5:=Qa h5
           have T5:=Qa t5
           have S5:=Qa s5
           clear h5 s5 t5
           go_wp2
           go_end0
           exact ⟨rfl,f3,H5.out,(Qd (by omega) (by omega) PP.out.2.2 HT.out HS.out T5.out S5.out).1,TR.out.trans (Qd (by omega) (by omega) PP.out.2.2 HT.out HS.out T5.out S5.out).2,(O3.trans o5)⟩)
       ·first
        | (exfalso;omega)
        | (go_wp2
           go_end0
           exact ⟨rfl,f1,H3.out,(Qd (by omega) (by omega) PP.out.2.2 HT.out HS.out (Trn.refl _ _ _) (HG.out.ri0 (by omega) (by omega))).1,TR.out.trans (Qd (by omega) (by omega) PP.out.2.2 HT.out HS.out (Trn.refl _ _ _) (HG.out.ri0 (by omega) (by omega))).2,O3⟩)
      ·first
       | (exfalso;omega)
       | (go_wp2
          go_end0
          exact ⟨rfl,f1,H3.out,(Qd (by omega) (by omega) PP.out.2.2 HT.out HS.out (Trn.refl _ _ _) (HG.out.ri0 (by omega) (by omega))).1,TR.out.trans (Qd (by omega) (by omega) PP.out.2.2 HT.out HS.out (Trn.refl _ _ _) (HG.out.ri0 (by omega) (by omega))).2,O3⟩)
    ·have HF:Hid (Fs wr g N cap f1):=Qa (by rw [HI.out (by omega)];exact HK.out)
     by_cases c3:(a:Int)<(s:Int)
     ·by_cases c4:(s:Int)<(mid:Int)
      ·go_wp2_with fail
       refine (KI.out a s mid _ _ (by exact hO) (by exact HF.out) (by exact PP.out.1) (by omega) (by omega) (by omega) (by omega)).mono ?_
       rintro ed w4 ⟨rfl,f2,h4,s4,t4,o4⟩
       have H4:=Qa h4
       have T4:=Qa t4
       have S4:=Qa s4
       have O4:=hO.trans o4
       clear h4 s4 t4 o4
       have HG:Hid (Mg cf R M f2 mid e b):=Qa (PP.out.2.1.of (fun k c1 c2=>T4.out.out (.inr c1)))
       by_cases c5:(mid:Int)<(e:Int)
       ·by_cases c6:(e:Int)<(b:Int)
        ·first
         | (exfalso;omega)
         | (go_wp2_with fail
            refine (KI.out mid e b f2 _ (by exact O4) (by exact H4.out) (by exact HG.out) (by omega) (by omega) (by omega) (by omega)).mono ?_
            rintro ed w5 ⟨rfl,f3,h5,s5,t5,o5⟩
            have H5:=Qa h5
            have T5:=Qa t5
            have S5:=Qa s5
            clear h5 s5 t5
            go_wp2
            go_end0
            exact ⟨rfl,f3,H5.out,(Qd (by omega) (by omega) PP.out.2.2 T4.out S4.out T5.out S5.out).1,TR.out.trans (Qd (by omega) (by omega) PP.out.2.2 T4.out S4.out T5.out S5.out).2,(O4.trans o5)⟩)
        ·first
         | (exfalso;omega)
         | (go_wp2
            go_end0
            exact ⟨rfl,f2,H4.out,(Qd (by omega) (by omega) PP.out.2.2 T4.out S4.out (Trn.refl _ _ _) (HG.out.ri0 (by omega) (by omega))).1,TR.out.trans (Qd (by omega) (by omega) PP.out.2.2 T4.out S4.out (Trn.refl _ _ _) (HG.out.ri0 (by omega) (by omega))).2,O4⟩)
       ·first
        | (exfalso;omega)
        | (go_wp2
           go_end0
           exact ⟨rfl,f2,H4.out,(Qd (by omega) (by omega) PP.out.2.2 T4.out S4.out (Trn.refl _ _ _) (HG.out.ri0 (by omega) (by omega))).1,TR.out.trans (Qd (by omega) (by omega) PP.out.2.2 T4.out S4.out (Trn.refl _ _ _) (HG.out.ri0 (by omega) (by omega))).2,O4⟩)
      ·have HT:Hid (Trn a mid f1 f1):=Qa (Trn.refl _ _ _)
       have HS:Hid (So R f1 a mid):=Qa (PP.out.1.le.sub (Nat.le_refl _) (by omega))
       have HG:Hid (Mg cf R M f1 mid e b):=Qa (PP.out.2.1.of (fun k c1 c2=>HT.out.out (.inr c1)))
       by_cases c5:(mid:Int)<(e:Int)
       ·by_cases c6:(e:Int)<(b:Int)
        ·first
         | (exfalso;omega)
         | (go_wp2_with fail
            refine (KI.out mid e b f1 _ (by exact hO) (by exact HF.out) (by exact HG.out) (by omega) (by omega) (by omega) (by omega)).mono ?_
            rintro ed w5 ⟨rfl,f3,h5,s5,t5,o5⟩
            have H5:=Qa h5
            have T5:=Qa t5
            have S5:=Qa s5
            clear h5 s5 t5
            go_wp2
            go_end0
            exact ⟨rfl,f3,H5.out,(Qd (by omega) (by omega) PP.out.2.2 HT.out HS.out T5.out S5.out).1,TR.out.trans (Qd (by omega) (by omega) PP.out.2.2 HT.out HS.out T5.out S5.out).2,(hO.trans o5)⟩)
        ·first
         | (exfalso;omega)
         | (go_wp2
            go_end0
            exact ⟨rfl,f1,HF.out,(Qd (by omega) (by omega) PP.out.2.2 HT.out HS.out (Trn.refl _ _ _) (HG.out.ri0 (by omega) (by omega))).1,TR.out.trans (Qd (by omega) (by omega) PP.out.2.2 HT.out HS.out (Trn.refl _ _ _) (HG.out.ri0 (by omega) (by omega))).2,hO⟩)
       ·first
        | (exfalso;omega)
        | (go_wp2
           go_end0
           exact ⟨rfl,f1,HF.out,(Qd (by omega) (by omega) PP.out.2.2 HT.out HS.out (Trn.refl _ _ _) (HG.out.ri0 (by omega) (by omega))).1,TR.out.trans (Qd (by omega) (by omega) PP.out.2.2 HT.out HS.out (Trn.refl _ _ _) (HG.out.ri0 (by omega) (by omega))).2,hO⟩)
     ·have HT:Hid (Trn a mid f1 f1):=Qa (Trn.refl _ _ _)
      have HS:Hid (So R f1 a mid):=Qa (PP.out.1.ri.sub (by omega) (Nat.le_refl _))
      have HG:Hid (Mg cf R M f1 mid e b):=Qa (PP.out.2.1.of (fun k c1 c2=>HT.out.out (.inr c1)))
      by_cases c5:(mid:Int)<(e:Int)
      ·by_cases c6:(e:Int)<(b:Int)
       ·first
        | (exfalso;omega)
        | (go_wp2_with fail
           refine (KI.out mid e b f1 _ (by exact hO) (by exact HF.out) (by exact HG.out) (by omega) (by omega) (by omega) (by omega)).mono ?_
           rintro ed w5 ⟨rfl,f3,h5,s5,t5,o5⟩
           have H5:=Qa h5
           have T5:=Qa t5
           have S5:=Qa s5
           clear h5 s5 t5
           go_wp2
           go_end0
           exact ⟨rfl,f3,H5.out,(Qd (by omega) (by omega) PP.out.2.2 HT.out HS.out T5.out S5.out).1,TR.out.trans (Qd (by omega) (by omega) PP.out.2.2 HT.out HS.out T5.out S5.out).2,(hO.trans o5)⟩)
       ·first
        | (exfalso;omega)
        | (go_wp2
           go_end0
           exact ⟨rfl,f1,HF.out,(Qd (by omega) (by omega) PP.out.2.2 HT.out HS.out (Trn.refl _ _ _) (HG.out.ri0 (by omega) (by omega))).1,TR.out.trans (Qd (by omega) (by omega) PP.out.2.2 HT.out HS.out (Trn.refl _ _ _) (HG.out.ri0 (by omega) (by omega))).2,hO⟩)
      ·first
       | (exfalso;omega)
       | (go_wp2
          go_end0
          exact ⟨rfl,f1,HF.out,(Qd (by omega) (by omega) PP.out.2.2 HT.out HS.out (Trn.refl _ _ _) (HG.out.ri0 (by omega) (by omega))).1,TR.out.trans (Qd (by omega) (by omega) PP.out.2.2 HT.out HS.out (Trn.refl _ _ _) (HG.out.ri0 (by omega) (by omega))).2,hO⟩)
   ·have HF:Hid (Fs wr g N cap f1):=Qa (by rw [HI.out (by omega)];exact HK.out)
    by_cases c3:(a:Int)<(s:Int)
    ·by_cases c4:(s:Int)<(mid:Int)
     ·go_wp2_with fail
      refine (KI.out a s mid _ _ (by exact hO) (by exact HF.out) (by exact PP.out.1) (by omega) (by omega) (by omega) (by omega)).mono ?_
      rintro ed w4 ⟨rfl,f2,h4,s4,t4,o4⟩
      have H4:=Qa h4
      have T4:=Qa t4
      have S4:=Qa s4
      have O4:=hO.trans o4
      clear h4 s4 t4 o4
      have HG:Hid (Mg cf R M f2 mid e b):=Qa (PP.out.2.1.of (fun k c1 c2=>T4.out.out (.inr c1)))
      by_cases c5:(mid:Int)<(e:Int)
      ·by_cases c6:(e:Int)<(b:Int)
       ·first
        | (exfalso;omega)
        | (go_wp2_with fail
           refine (KI.out mid e b f2 _ (by exact O4) (by exact H4.out) (by exact HG.out) (by omega) (by omega) (by omega) (by omega)).mono ?_
           rintro ed w5 ⟨rfl,f3,h5,s5,t5,o5⟩
           have H5:=Qa h5
           have T5:=Qa t5
           have S5:=Qa s5
           clear h5 s5 t5
           go_wp2
           go_end0
           exact ⟨rfl,f3,H5.out,(Qd (by omega) (by omega) PP.out.2.2 T4.out S4.out T5.out S5.out).1,TR.out.trans (Qd (by omega) (by omega) PP.out.2.2 T4.out S4.out T5.out S5.out).2,(O4.trans o5)⟩)
       ·first
        | (exfalso;omega)
        | (go_wp2
           go_end0
           exact ⟨rfl,f2,H4.out,(Qd (by omega) (by omega) PP.out.2.2 T4.out S4.out (Trn.refl _ _ _) (HG.out.ri0 (by omega) (by omega))).1,TR.out.trans (Qd (by omega) (by omega) PP.out.2.2 T4.out S4.out (Trn.refl _ _ _) (HG.out.ri0 (by omega) (by omega))).2,O4⟩)
      ·first
       | (exfalso;omega)
       | (go_wp2
          go_end0
          exact ⟨rfl,f2,H4.out,(Qd (by omega) (by omega) PP.out.2.2 T4.out S4.out (Trn.refl _ _ _) (HG.out.ri0 (by omega) (by omega))).1,TR.out.trans (Qd (by omega) (by omega) PP.out.2.2 T4.out S4.out (Trn.refl _ _ _) (HG.out.ri0 (by omega) (by omega))).2,O4⟩)
     ·have HT:Hid (Trn a mid f1 f1):=Qa (Trn.refl _ _ _)
      have HS:Hid (So R f1 a mid):=Qa (PP.out.1.le.sub (Nat.le_refl _) (by omega))
      have HG:Hid (Mg cf R M f1 mid e b):=Qa (PP.out.2.1.of (fun k c1 c2=>HT.out.out (.inr c1)))
      by_cases c5:(mid:Int)<(e:Int)
      ·by_cases c6:(e:Int)<(b:Int)
       ·first
        | (exfalso;omega)
        | (go_wp2_with fail
           refine (KI.out mid e b f1 _ (by exact hO) (by exact HF.out) (by exact HG.out) (by omega) (by omega) (by omega) (by omega)).mono ?_
           rintro ed w5 ⟨rfl,f3,h5,s5,t5,o5⟩
           have H5:=Qa h5
           have T5:=Qa t5
           have S5:=Qa s5
           clear h5 s5 t5
           go_wp2
           go_end0
           exact ⟨rfl,f3,H5.out,(Qd (by omega) (by omega) PP.out.2.2 HT.out HS.out T5.out S5.out).1,TR.out.trans (Qd (by omega) (by omega) PP.out.2.2 HT.out HS.out T5.out S5.out).2,(hO.trans o5)⟩)
       ·first
        | (exfalso;omega)
        | (go_wp2
           go_end0
           exact ⟨rfl,f1,HF.out,(Qd (by omega) (by omega) PP.out.2.2 HT.out HS.out (Trn.refl _ _ _) (HG.out.ri0 (by omega) (by omega))).1,TR.out.trans (Qd (by omega) (by omega) PP.out.2.2 HT.out HS.out (Trn.refl _ _ _) (HG.out.ri0 (by omega) (by omega))).2,hO⟩)
      ·first
       | (exfalso;omega)
       | (go_wp2
          go_end0
          exact ⟨rfl,f1,HF.out,(Qd (by omega) (by omega) PP.out.2.2 HT.out HS.out (Trn.refl _ _ _) (HG.out.ri0 (by omega) (by omega))).1,TR.out.trans (Qd (by omega) (by omega) PP.out.2.2 HT.out HS.out (Trn.refl _ _ _) (HG.out.ri0 (by omega) (by omega))).2,hO⟩)
    ·have HT:Hid (Trn a mid f1 f1):=Qa (Trn.refl _ _ _)
     have HS:Hid (So R f1 a mid):=Qa (PP.out.1.ri.sub (by omega) (Nat.le_refl _))
     have HG:Hid (Mg cf R M f1 mid e b):=Qa (PP.out.2.1.of (fun k c1 c2=>HT.out.out (.inr c1)))
     by_cases c5:(mid:Int)<(e:Int)
     ·by_cases c6:(e:Int)<(b:Int)
      ·first
       | (exfalso;omega)
       | (go_wp2_with fail
          refine (KI.out mid e b f1 _ (by exact hO) (by exact HF.out) (by exact HG.out) (by omega) (by omega) (by omega) (by omega)).mono ?_
          rintro ed w5 ⟨rfl,f3,h5,s5,t5,o5⟩
          have H5:=Qa h5
          have T5:=Qa t5
          have S5:=Qa s5
          clear h5 s5 t5
          go_wp2
          go_end0
          exact ⟨rfl,f3,H5.out,(Qd (by omega) (by omega) PP.out.2.2 HT.out HS.out T5.out S5.out).1,TR.out.trans (Qd (by omega) (by omega) PP.out.2.2 HT.out HS.out T5.out S5.out).2,(hO.trans o5)⟩)
      ·first
       | (exfalso;omega)
       | (go_wp2
          go_end0
          exact ⟨rfl,f1,HF.out,(Qd (by omega) (by omega) PP.out.2.2 HT.out HS.out (Trn.refl _ _ _) (HG.out.ri0 (by omega) (by omega))).1,TR.out.trans (Qd (by omega) (by omega) PP.out.2.2 HT.out HS.out (Trn.refl _ _ _) (HG.out.ri0 (by omega) (by omega))).2,hO⟩)
     ·first
      | (exfalso;omega)
      | (go_wp2
         go_end0
         exact ⟨rfl,f1,HF.out,(Qd (by omega) (by omega) PP.out.2.2 HT.out HS.out (Trn.refl _ _ _) (HG.out.ri0 (by omega) (by omega))).1,TR.out.trans (Qd (by omega) (by omega) PP.out.2.2 HT.out HS.out (Trn.refl _ _ _) (HG.out.ri0 (by omega) (by omega))).2,hO⟩)
theorem AHz (gf:Nat) (lb:Array Value) (cf:Nat→Nat→Int) (R:Nat→Nat→Prop) (M:Nat) (f:Nat→Nat) (N g cap a m b mid s0 r0:Nat) (w:World)
 (eg:∀ (args:Array Value) (W:World),(callFunc gf args).run Tryz.prog W=.ok (.enter gf args) W)
 (hB:Fs w g N cap f) (hC:CmpD gf lb cf M g w) (C:Cmp cf R M) (hM:Mg cf R M f a m b) (ham:a+1<m) (hmb:m+1<b) (hb:b≤N) (hz:N<1099511627776)
 (hmid:(a+b) / 2=mid) (hgt:mid<m) (hs0:s0+b=mid+m) (hr0:r0=mid)
 (ki:∀ (a2 m2 b2:Nat) (f2:Nat→Nat) (W:World),Only g w W→Fs W g N cap f2→Mg cf R M f2 a2 m2 b2→a2<m2→m2<b2→b2≤N→b2-a2<b-a →
   Calls Tryz.prog 201 #[.slice (some ⟨g,0,none⟩) N cap,.int .i64 (a2:Int),.int .i64 (m2:Int),.int .i64 (b2:Int),.func (.func gf) #[] lb] W fun e w' =>
    e=.returned (.tuple #[])∧∃ f3,Fs w' g N cap f3∧So R f3 a2 b2∧Trn a2 b2 f2 f3∧Only g W w') :
 Calls Tryz.prog 201 #[.slice (some ⟨g,0,none⟩) N cap,.int .i64 (a:Int),.int .i64 (m:Int),.int .i64 (b:Int),.func (.func gf) #[] lb] w fun e w' =>
  e=.returned (.tuple #[])∧∃ f2,Fs w' g N cap f2∧So R f2 a b∧Trn a b f f2∧Only g w w':=by
 have HB:=Qa hB
 have HC:=Qa hC
 have HM:=Qa hM
 have KI:=Qa ki
 have H0:Hid ((s0=a∧r0=m∧m≤mid)∨(s0+b=mid+m∧r0=mid∧mid<m)):=Qa (by omega)
 clear hB hC hM ki
 have e1:decide (((m:Int)-(a:Int))=1)=false:=decide_eq_false (by omega)
 have e2:decide (((b:Int)-(m:Int))=1)=false:=decide_eq_false (by omega)
 have e1':(((m:Int)-(a:Int)) == 1)=false:=by simp;omega
 have e2':(((b:Int)-(m:Int)) == 1)=false:=by simp;omega
 have em:((a:Int)+(b:Int)) / 2=(mid:Int):=by omega
 have hg:(mid:Int)<(m:Int):=by omega
 have es:(mid:Int)+(m:Int)-(b:Int)=(s0:Int):=by omega
 go_enter Tryz.func201,Tryz.ntmps201
 go_wp2
 go_loopw [20,21,23] (fun si sj _ wr=>TwoI (fun s r=>s0≤s∧s≤r∧r≤r0∧Hid (s=s0∨0≤cf (f (mid+m-s)) (f (s-1)))∧Hid (r=r0∨cf (f (mid+m-1-r)) (f r)<0)) si sj∧Hid (Fs wr g N cap f)∧Only g w wr) (fun si sj _ _=>(intOf sj).toNat-(intOf si).toNat)
 case atStart=>exact ⟨⟨s0,r0,rfl,by rw [hr0],Nat.le_refl _,by omega,Nat.le_refl _,Qa (.inl rfl),Qa (.inl rfl)⟩,HB,Only.refl _ _⟩
 case round =>
  obtain ⟨⟨s,r,rfl,rfl,hs,hsr,hr,H1,H2⟩,HK,hO⟩:=hrel
  by_cases hlt:(s:Int)<(r:Int)
  ·obtain ⟨c,hcc⟩:∃ c,(s+r) / 2=c:=⟨_,rfl⟩
   obtain ⟨q,hq⟩:∃ q,mid+m-1-c=q:=⟨_,rfl⟩
   have ec:((s:Int)+(r:Int)) / 2=(c:Int):=by omega
   have eq1:(mid:Int)+(m:Int)-1-(c:Int)=(q:Int):=by omega
   have hcb:a≤c∧c<m∧m≤q∧q<b:=by omega
   have cq:=HK.out.cell (j:=q) (by omega)
   have c0:=HK.out.cell (j:=c) (by omega)
   obtain ⟨v,hv⟩:∃ v,v=cf (f q) (f c):=⟨_,rfl⟩
   have hcl:Hid (∀ n',Calls Tryz.prog gf (#[.int .i64 (f q:Int),.int .i64 (f c:Int)]++lb) (wr.drewN n') fun e w'=>e=.returned (.int .i64 v)∧∃ q,w'=(wr.drewN n').drewN q) :=
    Qa (fun n'=>by rw [hv];exact HC.out _ (hO.drewN n') _ _ (HM.out.lt q (by omega) (by omega)) (HM.out.lt c (by omega) (by omega)))
   have HV:=Qa hv
   clear hv
   obtain ⟨x,hx⟩:∃ x,f q=x:=⟨_,rfl⟩
   obtain ⟨y,hy⟩:∃ y,f c=y:=⟨_,rfl⟩
   rw [hx] at cq hcl
   rw [hy] at c0 hcl
   clear hx hy
   go_wp2
   go_quiet ((go_at_fn gf;exact Calls.quiet_of (hcl.out _)))
   go_wp2
   ·rename_i hl0
    have hl:¬ v<0:=by simpa using hl0
    go_roundw
    case measure=>simp [intOf];omega
    case rel=>exact ⟨⟨c+1,r,by simp,rfl,by omega,by omega,hr,Qa (.inr (by rw [Nat.add_sub_cancel,show mid+m-(c+1)=q by omega];have e:=HV.out;rw [←e];omega)),H2⟩,Qa (HK.out.drewN _),hO.drewN _⟩
   ·rename_i hl0
    have hl:v<0:=by simpa using hl0
    go_roundw
    case measure=>simp [intOf];omega
    case rel=>exact ⟨⟨s,c,rfl,rfl,by omega,by omega,by omega,H1,Qa (.inr (by rw [hq];have e:=HV.out;rw [←e];exact hl))⟩,Qa (HK.out.drewN _),hO.drewN _⟩
  ·obtain rfl:s=r:=by omega
   obtain ⟨e,he⟩:∃ e,mid+m-s=e:=⟨_,rfl⟩
   have ee:(mid:Int)+(m:Int)-(s:Int)=(e:Int):=by omega
   have HPP:=Qa (AAv C HM.out (by omega) (by omega) hmid.symm ⟨H0.out,hs,hr,H1.out.imp id Int.not_lt.2,H2.out⟩)
   have hb1:a≤s∧s≤m∧m≤e∧e≤b∧s≤mid∧mid≤e:=by have h:=HPP.out;rw [he] at h;omega
   have PP:Hid (Mg cf R M (roF f s m e) a s mid∧Mg cf R M (roF f s m e) mid e b∧∀ i j,a≤i→i<mid→mid≤j→j<b→R (roF f s m e i) (roF f s m e j)):=Qa (by have h:=HPP.out;rw [he] at h;exact h.2.2.2.2.2.2)
   have TR:Hid (Trn a b f (roF f s m e)):=Qa ((vO f (by omega) (by omega)).mono (by omega) (by omega))
   have KR:=Qa (fun W h=>yB f N g cap s m e (.func (.func gf) #[] lb) W h)
   have HI:Hid ((s=m∨m=e)→roF f s m e=f):=Qa (fun h=>ARn f s m e h (by omega) (by omega))
   obtain ⟨f1,hf1⟩:∃ f1,roF f s m e=f1:=⟨_,rfl⟩
   rw [hf1] at PP TR KR HI
   clear HPP H1 H2 hf1
   by_cases c1:(s:Int)<(m:Int)
   ·by_cases c2:(m:Int)<(e:Int)
    ·go_wp2_with fail
     refine (KR.out _ (by exact HK.out) (by omega) (by omega) (by omega) hz).mono ?_
     rintro ed w3 ⟨rfl,h3,o3⟩
     have H3:=Qa h3
     have O3:=hO.trans o3
     clear h3 o3 KR
     by_cases c3:(a:Int)<(s:Int)
     ·by_cases c4:(s:Int)<(mid:Int)
      ·go_wp2_with fail
       refine (KI.out a s mid _ _ (by exact O3) (by exact H3.out) (by exact PP.out.1) (by omega) (by omega) (by omega) (by omega)).mono ?_
       rintro ed w4 ⟨rfl,f2,h4,s4,t4,o4⟩
       have H4:=Qa h4
       have T4:=Qa t4
       have S4:=Qa s4
       have O4:=O3.trans o4
       clear h4 s4 t4 o4
       have HG:Hid (Mg cf R M f2 mid e b):=Qa (PP.out.2.1.of (fun k c1 c2=>T4.out.out (.inr c1)))
       by_cases c5:(mid:Int)<(e:Int)
       ·by_cases c6:(e:Int)<(b:Int)
        ·first
         | (exfalso;omega)
         | (go_wp2_with fail
            refine (KI.out mid e b f2 _ (by exact O4) (by exact H4.out) (by exact HG.out) (by omega) (by omega) (by omega) (by omega)).mono ?_
            rintro ed w5 ⟨rfl,f3,h5,s5,t5,o5⟩
            have H5:=Qa h5
            have T5:=Qa t5
            have S5:=Qa s5
            clear h5 s5 t5
            go_wp2
            go_end0
            exact ⟨rfl,f3,H5.out,(Qd (by omega) (by omega) PP.out.2.2 T4.out S4.out T5.out S5.out).1,TR.out.trans (Qd (by omega) (by omega) PP.out.2.2 T4.out S4.out T5.out S5.out).2,(O4.trans o5)⟩)
        ·first
         | (exfalso;omega)
         | (go_wp2
            go_end0
            exact ⟨rfl,f2,H4.out,(Qd (by omega) (by omega) PP.out.2.2 T4.out S4.out (Trn.refl _ _ _) (HG.out.ri0 (by omega) (by omega))).1,TR.out.trans (Qd (by omega) (by omega) PP.out.2.2 T4.out S4.out (Trn.refl _ _ _) (HG.out.ri0 (by omega) (by omega))).2,O4⟩)
       ·first
        | (exfalso;omega)
        | (go_wp2
           go_end0
           exact ⟨rfl,f2,H4.out,(Qd (by omega) (by omega) PP.out.2.2 T4.out S4.out (Trn.refl _ _ _) (HG.out.ri0 (by omega) (by omega))).1,TR.out.trans (Qd (by omega) (by omega) PP.out.2.2 T4.out S4.out (Trn.refl _ _ _) (HG.out.ri0 (by omega) (by omega))).2,O4⟩)
      ·have HT:Hid (Trn a mid f1 f1):=Qa (Trn.refl _ _ _)
       have HS:Hid (So R f1 a mid):=Qa (PP.out.1.le.sub (Nat.le_refl _) (by omega))
       have HG:Hid (Mg cf R M f1 mid e b):=Qa (PP.out.2.1.of (fun k c1 c2=>HT.out.out (.inr c1)))
       by_cases c5:(mid:Int)<(e:Int)
       ·by_cases c6:(e:Int)<(b:Int)
        ·first
         | (exfalso;omega)
         | (go_wp2_with fail
            refine (KI.out mid e b f1 _ (by exact O3) (by exact H3.out) (by exact HG.out) (by omega) (by omega) (by omega) (by omega)).mono ?_
            rintro ed w5 ⟨rfl,f3,h5,s5,t5,o5⟩
            have H5:=Qa h5
            have T5:=Qa t5
            have S5:=Qa s5
            clear h5 s5 t5
            go_wp2
            go_end0
            exact ⟨rfl,f3,H5.out,(Qd (by omega) (by omega) PP.out.2.2 HT.out HS.out T5.out S5.out).1,TR.out.trans (Qd (by omega) (by omega) PP.out.2.2 HT.out HS.out T5.out S5.out).2,(O3.trans o5)⟩)
        ·first
         | (exfalso;omega)
         | (go_wp2
            go_end0
            exact ⟨rfl,f1,H3.out,(Qd (by omega) (by omega) PP.out.2.2 HT.out HS.out (Trn.refl _ _ _) (HG.out.ri0 (by omega) (by omega))).1,TR.out.trans (Qd (by omega) (by omega) PP.out.2.2 HT.out HS.out (Trn.refl _ _ _) (HG.out.ri0 (by omega) (by omega))).2,O3⟩)
       ·first
        | (exfalso;omega)
        | (go_wp2
           go_end0
           exact ⟨rfl,f1,H3.out,(Qd (by omega) (by omega) PP.out.2.2 HT.out HS.out (Trn.refl _ _ _) (HG.out.ri0 (by omega) (by omega))).1,TR.out.trans (Qd (by omega) (by omega) PP.out.2.2 HT.out HS.out (Trn.refl _ _ _) (HG.out.ri0 (by omega) (by omega))).2,O3⟩)
     ·have HT:Hid (Trn a mid f1 f1):=Qa (Trn.refl _ _ _)
      have HS:Hid (So R f1 a mid):=Qa (PP.out.1.ri.sub (by omega) (Nat.le_refl _))
      have HG:Hid (Mg cf R M f1 mid e b):=Qa (PP.out.2.1.of (fun k c1 c2=>HT.out.out (.inr c1)))
      by_cases c5:(mid:Int)<(e:Int)
      ·by_cases c6:(e:Int)<(b:Int)
       ·first
        | (exfalso;omega)
        | (go_wp2_with fail
           refine (KI.out mid e b f1 _ (by exact O3) (by exact H3.out) (by exact HG.out) (by omega) (by omega) (by omega) (by omega)).mono ?_
           rintro ed w5 ⟨rfl,f3,h5,s5,t5,o5⟩
           have H5:=Qa h5
           have T5:=Qa t5
           have S5:=Qa s5
           clear h5 s5 t5
           go_wp2
           go_end0
           exact ⟨rfl,f3,H5.out,(Qd (by omega) (by omega) PP.out.2.2 HT.out HS.out T5.out S5.out).1,TR.out.trans (Qd (by omega) (by omega) PP.out.2.2 HT.out HS.out T5.out S5.out).2,(O3.trans o5)⟩)
       ·first
        | (exfalso;omega)
        | (go_wp2
           go_end0
           exact ⟨rfl,f1,H3.out,(Qd (by omega) (by omega) PP.out.2.2 HT.out HS.out (Trn.refl _ _ _) (HG.out.ri0 (by omega) (by omega))).1,TR.out.trans (Qd (by omega) (by omega) PP.out.2.2 HT.out HS.out (Trn.refl _ _ _) (HG.out.ri0 (by omega) (by omega))).2,O3⟩)
      ·first
       | (exfalso;omega)
       | (go_wp2
          go_end0
          exact ⟨rfl,f1,H3.out,(Qd (by omega) (by omega) PP.out.2.2 HT.out HS.out (Trn.refl _ _ _) (HG.out.ri0 (by omega) (by omega))).1,TR.out.trans (Qd (by omega) (by omega) PP.out.2.2 HT.out HS.out (Trn.refl _ _ _) (HG.out.ri0 (by omega) (by omega))).2,O3⟩)
    ·have HF:Hid (Fs wr g N cap f1):=Qa (by rw [HI.out (by omega)];exact HK.out)
     by_cases c3:(a:Int)<(s:Int)
     ·by_cases c4:(s:Int)<(mid:Int)
      ·go_wp2_with fail
       refine (KI.out a s mid _ _ (by exact hO) (by exact HF.out) (by exact PP.out.1) (by omega) (by omega) (by omega) (by omega)).mono ?_
       rintro ed w4 ⟨rfl,f2,h4,s4,t4,o4⟩
       have H4:=Qa h4
       have T4:=Qa t4
       have S4:=Qa s4
       have O4:=hO.trans o4
       clear h4 s4 t4 o4
       have HG:Hid (Mg cf R M f2 mid e b):=Qa (PP.out.2.1.of (fun k c1 c2=>T4.out.out (.inr c1)))
       by_cases c5:(mid:Int)<(e:Int)
       ·by_cases c6:(e:Int)<(b:Int)
        ·first
         | (exfalso;omega)
         | (go_wp2_with fail
            refine (KI.out mid e b f2 _ (by exact O4) (by exact H4.out) (by exact HG.out) (by omega) (by omega) (by omega) (by omega)).mono ?_
            rintro ed w5 ⟨rfl,f3,h5,s5,t5,o5⟩
            have H5:=Qa h5
            have T5:=Qa t5
            have S5:=Qa s5
            clear h5 s5 t5
            go_wp2
            go_end0
            exact ⟨rfl,f3,H5.out,(Qd (by omega) (by omega) PP.out.2.2 T4.out S4.out T5.out S5.out).1,TR.out.trans (Qd (by omega) (by omega) PP.out.2.2 T4.out S4.out T5.out S5.out).2,(O4.trans o5)⟩)
        ·first
         | (exfalso;omega)
         | (go_wp2
            go_end0
            exact ⟨rfl,f2,H4.out,(Qd (by omega) (by omega) PP.out.2.2 T4.out S4.out (Trn.refl _ _ _) (HG.out.ri0 (by omega) (by omega))).1,TR.out.trans (Qd (by omega) (by omega) PP.out.2.2 T4.out S4.out (Trn.refl _ _ _) (HG.out.ri0 (by omega) (by omega))).2,O4⟩)
       ·first
        | (exfalso;omega)
        | (go_wp2
           go_end0
           exact ⟨rfl,f2,H4.out,(Qd (by omega) (by omega) PP.out.2.2 T4.out S4.out (Trn.refl _ _ _) (HG.out.ri0 (by omega) (by omega))).1,TR.out.trans (Qd (by omega) (by omega) PP.out.2.2 T4.out S4.out (Trn.refl _ _ _) (HG.out.ri0 (by omega) (by omega))).2,O4⟩)
      ·have HT:Hid (Trn a mid f1 f1):=Qa (Trn.refl _ _ _)
       have HS:Hid (So R f1 a mid):=Qa (PP.out.1.le.sub (Nat.le_refl _) (by omega))
       have HG:Hid (Mg cf R M f1 mid e b):=Qa (PP.out.2.1.of (fun k c1 c2=>HT.out.out (.inr c1)))
       by_cases c5:(mid:Int)<(e:Int)
       ·by_cases c6:(e:Int)<(b:Int)
        ·first
         | (exfalso;omega)
         | (go_wp2_with fail
            refine (KI.out mid e b f1 _ (by exact hO) (by exact HF.out) (by exact HG.out) (by omega) (by omega) (by omega) (by omega)).mono ?_
            rintro ed w5 ⟨rfl,f3,h5,s5,t5,o5⟩
            have H5:=Qa h5
            have T5:=Qa t5
            have S5:=Qa s5
            clear h5 s5 t5
            go_wp2
            go_end0
            exact ⟨rfl,f3,H5.out,(Qd (by omega) (by omega) PP.out.2.2 HT.out HS.out T5.out S5.out).1,TR.out.trans (Qd (by omega) (by omega) PP.out.2.2 HT.out HS.out T5.out S5.out).2,(hO.trans o5)⟩)
        ·first
         | (exfalso;omega)
         | (go_wp2
            go_end0
            exact ⟨rfl,f1,HF.out,(Qd (by omega) (by omega) PP.out.2.2 HT.out HS.out (Trn.refl _ _ _) (HG.out.ri0 (by omega) (by omega))).1,TR.out.trans (Qd (by omega) (by omega) PP.out.2.2 HT.out HS.out (Trn.refl _ _ _) (HG.out.ri0 (by omega) (by omega))).2,hO⟩)
       ·first
        | (exfalso;omega)
        | (go_wp2
           go_end0
           exact ⟨rfl,f1,HF.out,(Qd (by omega) (by omega) PP.out.2.2 HT.out HS.out (Trn.refl _ _ _) (HG.out.ri0 (by omega) (by omega))).1,TR.out.trans (Qd (by omega) (by omega) PP.out.2.2 HT.out HS.out (Trn.refl _ _ _) (HG.out.ri0 (by omega) (by omega))).2,hO⟩)
     ·have HT:Hid (Trn a mid f1 f1):=Qa (Trn.refl _ _ _)
      have HS:Hid (So R f1 a mid):=Qa (PP.out.1.ri.sub (by omega) (Nat.le_refl _))
      have HG:Hid (Mg cf R M f1 mid e b):=Qa (PP.out.2.1.of (fun k c1 c2=>HT.out.out (.inr c1)))
      by_cases c5:(mid:Int)<(e:Int)
      ·by_cases c6:(e:Int)<(b:Int)
       ·first
        | (exfalso;omega)
        | (go_wp2_with fail
           refine (KI.out mid e b f1 _ (by exact hO) (by exact HF.out) (by exact HG.out) (by omega) (by omega) (by omega) (by omega)).mono ?_
           rintro ed w5 ⟨rfl,f3,h5,s5,t5,o5⟩
           have H5:=Qa h5
           have T5:=Qa t5
           have S5:=Qa s5
           clear h5 s5 t5
           go_wp2
           go_end0
           exact ⟨rfl,f3,H5.out,(Qd (by omega) (by omega) PP.out.2.2 HT.out HS.out T5.out S5.out).1,TR.out.trans (Qd (by omega) (by omega) PP.out.2.2 HT.out HS.out T5.out S5.out).2,(hO.trans o5)⟩)
       ·first
        | (exfalso;omega)
        | (go_wp2
           go_end0
           exact ⟨rfl,f1,HF.out,(Qd (by omega) (by omega) PP.out.2.2 HT.out HS.out (Trn.refl _ _ _) (HG.out.ri0 (by omega) (by omega))).1,TR.out.trans (Qd (by omega) (by omega) PP.out.2.2 HT.out HS.out (Trn.refl _ _ _) (HG.out.ri0 (by omega) (by omega))).2,hO⟩)
      ·first
       | (exfalso;omega)
       | (go_wp2
          go_end0
          exact ⟨rfl,f1,HF.out,(Qd (by omega) (by omega) PP.out.2.2 HT.out HS.out (Trn.refl _ _ _) (HG.out.ri0 (by omega) (by omega))).1,TR.out.trans (Qd (by omega) (by omega) PP.out.2.2 HT.out HS.out (Trn.refl _ _ _) (HG.out.ri0 (by omega) (by omega))).2,hO⟩)
   ·have HF:Hid (Fs wr g N cap f1):=Qa (by rw [HI.out (by omega)];exact HK.out)
    by_cases c3:(a:Int)<(s:Int)
    ·by_cases c4:(s:Int)<(mid:Int)
     ·go_wp2_with fail
      refine (KI.out a s mid _ _ (by exact hO) (by exact HF.out) (by exact PP.out.1) (by omega) (by omega) (by omega) (by omega)).mono ?_
      rintro ed w4 ⟨rfl,f2,h4,s4,t4,o4⟩
      have H4:=Qa h4
      have T4:=Qa t4
      have S4:=Qa s4
      have O4:=hO.trans o4
      clear h4 s4 t4 o4
      have HG:Hid (Mg cf R M f2 mid e b):=Qa (PP.out.2.1.of (fun k c1 c2=>T4.out.out (.inr c1)))
      by_cases c5:(mid:Int)<(e:Int)
      ·by_cases c6:(e:Int)<(b:Int)
       ·first
        | (exfalso;omega)
        | (go_wp2_with fail
           refine (KI.out mid e b f2 _ (by exact O4) (by exact H4.out) (by exact HG.out) (by omega) (by omega) (by omega) (by omega)).mono ?_
           rintro ed w5 ⟨rfl,f3,h5,s5,t5,o5⟩
           have H5:=Qa h5
           have T5:=Qa t5
           have S5:=Qa s5
           clear h5 s5 t5
           go_wp2
           go_end0
           exact ⟨rfl,f3,H5.out,(Qd (by omega) (by omega) PP.out.2.2 T4.out S4.out T5.out S5.out).1,TR.out.trans (Qd (by omega) (by omega) PP.out.2.2 T4.out S4.out T5.out S5.out).2,(O4.trans o5)⟩)
       ·first
        | (exfalso;omega)
        | (go_wp2
           go_end0
           exact ⟨rfl,f2,H4.out,(Qd (by omega) (by omega) PP.out.2.2 T4.out S4.out (Trn.refl _ _ _) (HG.out.ri0 (by omega) (by omega))).1,TR.out.trans (Qd (by omega) (by omega) PP.out.2.2 T4.out S4.out (Trn.refl _ _ _) (HG.out.ri0 (by omega) (by omega))).2,O4⟩)
      ·first
       | (exfalso;omega)
       | (go_wp2
          go_end0
          exact ⟨rfl,f2,H4.out,(Qd (by omega) (by omega) PP.out.2.2 T4.out S4.out (Trn.refl _ _ _) (HG.out.ri0 (by omega) (by omega))).1,TR.out.trans (Qd (by omega) (by omega) PP.out.2.2 T4.out S4.out (Trn.refl _ _ _) (HG.out.ri0 (by omega) (by omega))).2,O4⟩)
     ·have HT:Hid (Trn a mid f1 f1):=Qa (Trn.refl _ _ _)
      have HS:Hid (So R f1 a mid):=Qa (PP.out.1.le.sub (Nat.le_refl _) (by omega))
      have HG:Hid (Mg cf R M f1 mid e b):=Qa (PP.out.2.1.of (fun k c1 c2=>HT.out.out (.inr c1)))
      by_cases c5:(mid:Int)<(e:Int)
      ·by_cases c6:(e:Int)<(b:Int)
       ·first
        | (exfalso;omega)
        | (go_wp2_with fail
           refine (KI.out mid e b f1 _ (by exact hO) (by exact HF.out) (by exact HG.out) (by omega) (by omega) (by omega) (by omega)).mono ?_
           rintro ed w5 ⟨rfl,f3,h5,s5,t5,o5⟩
           have H5:=Qa h5
           have T5:=Qa t5
           have S5:=Qa s5
           clear h5 s5 t5
           go_wp2
           go_end0
           exact ⟨rfl,f3,H5.out,(Qd (by omega) (by omega) PP.out.2.2 HT.out HS.out T5.out S5.out).1,TR.out.trans (Qd (by omega) (by omega) PP.out.2.2 HT.out HS.out T5.out S5.out).2,(hO.trans o5)⟩)
       ·first
        | (exfalso;omega)
        | (go_wp2
           go_end0
           exact ⟨rfl,f1,HF.out,(Qd (by omega) (by omega) PP.out.2.2 HT.out HS.out (Trn.refl _ _ _) (HG.out.ri0 (by omega) (by omega))).1,TR.out.trans (Qd (by omega) (by omega) PP.out.2.2 HT.out HS.out (Trn.refl _ _ _) (HG.out.ri0 (by omega) (by omega))).2,hO⟩)
      ·first
       | (exfalso;omega)
       | (go_wp2
          go_end0
          exact ⟨rfl,f1,HF.out,(Qd (by omega) (by omega) PP.out.2.2 HT.out HS.out (Trn.refl _ _ _) (HG.out.ri0 (by omega) (by omega))).1,TR.out.trans (Qd (by omega) (by omega) PP.out.2.2 HT.out HS.out (Trn.refl _ _ _) (HG.out.ri0 (by omega) (by omega))).2,hO⟩)
    ·have HT:Hid (Trn a mid f1 f1):=Qa (Trn.refl _ _ _)
     have HS:Hid (So R f1 a mid):=Qa (PP.out.1.ri.sub (by omega) (Nat.le_refl _))
     have HG:Hid (Mg cf R M f1 mid e b):=Qa (PP.out.2.1.of (fun k c1 c2=>HT.out.out (.inr c1)))
     by_cases c5:(mid:Int)<(e:Int)
     ·by_cases c6:(e:Int)<(b:Int)
      ·first
       | (exfalso;omega)
       | (go_wp2_with fail
          refine (KI.out mid e b f1 _ (by exact hO) (by exact HF.out) (by exact HG.out) (by omega) (by omega) (by omega) (by omega)).mono ?_
          rintro ed w5 ⟨rfl,f3,h5,s5,t5,o5⟩
          have H5:=Qa h5
          have T5:=Qa t5
          have S5:=Qa s5
          clear h5 s5 t5
          go_wp2
          go_end0
          exact ⟨rfl,f3,H5.out,(Qd (by omega) (by omega) PP.out.2.2 HT.out HS.out T5.out S5.out).1,TR.out.trans (Qd (by omega) (by omega) PP.out.2.2 HT.out HS.out T5.out S5.out).2,(hO.trans o5)⟩)
      ·first
       | (exfalso;omega)
       | (go_wp2
          go_end0
          exact ⟨rfl,f1,HF.out,(Qd (by omega) (by omega) PP.out.2.2 HT.out HS.out (Trn.refl _ _ _) (HG.out.ri0 (by omega) (by omega))).1,TR.out.trans (Qd (by omega) (by omega) PP.out.2.2 HT.out HS.out (Trn.refl _ _ _) (HG.out.ri0 (by omega) (by omega))).2,hO⟩)
     ·first
      | (exfalso;omega)
      | (go_wp2
         go_end0
         exact ⟨rfl,f1,HF.out,(Qd (by omega) (by omega) PP.out.2.2 HT.out HS.out (Trn.refl _ _ _) (HG.out.ri0 (by omega) (by omega))).1,TR.out.trans (Qd (by omega) (by omega) PP.out.2.2 HT.out HS.out (Trn.refl _ _ _) (HG.out.ri0 (by omega) (by omega))).2,hO⟩)
theorem AFv (gf:Nat) (lb:Array Value) (cf:Nat→Nat→Int) (R:Nat→Nat→Prop) (M N g cap:Nat)
 (eg:∀ (args:Array Value) (W:World),(callFunc gf args).run Tryz.prog W=.ok (.enter gf args) W) (C:Cmp cf R M) (hz:N<1099511627776) :
 ∀ (n a m b:Nat) (f:Nat→Nat) (w:World),b-a≤n→Fs w g N cap f→CmpD gf lb cf M g w→Mg cf R M f a m b→a<m→m<b→b≤N →
 Calls Tryz.prog 201 #[.slice (some ⟨g,0,none⟩) N cap,.int .i64 (a:Int),.int .i64 (m:Int),.int .i64 (b:Int),.func (.func gf) #[] lb] w fun e w' =>
  e=.returned (.tuple #[])∧∃ f2,Fs w' g N cap f2∧So R f2 a b∧Trn a b f f2∧Only g w w':=by
 intro n
 induction n with
 | zero=>intro a m b f w h _ _ _ h1 h2;omega
 | succ n ih =>
   intro a m b f w hn hB hC hM ham hmb hb
   by_cases h1:m=a+1
   ·subst h1
    exact AHw gf lb cf R M f N g cap a b w eg hB hC C hM hmb hb hz
   ·by_cases h2:b=m+1
    ·subst h2
     exact ADk gf lb cf R M f N g cap a m w eg hB hC C hM (by omega) hb hz
    ·have ki:=fun (a2 m2 b2:Nat) (f2:Nat→Nat) (W:World) (ho:Only g w W) (hf:Fs W g N cap f2) (hg:Mg cf R M f2 a2 m2 b2) (k1:a2<m2) (k2:m2<b2) (k3:b2≤N) (k4:b2-a2<b-a) =>
      ih a2 m2 b2 f2 W (by omega) hf (hC.only ho) hg k1 k2 k3
     by_cases h3:m≤(a+b) / 2
     ·exact AHk gf lb cf R M f N g cap a m b _ a m w eg hB hC C hM (by omega) (by omega) hb hz rfl h3 rfl rfl ki
     ·exact AHz gf lb cf R M f N g cap a m b _ ((a+b) / 2+m-b) _ w eg hB hC C hM (by omega) (by omega) hb hz rfl (by omega) (by omega) rfl ki
theorem Bk.fresh {R:Nat→Nat→Prop} {f f2:Nat→Nat} {a b:Nat} (h:Trn 0 a idF f) (s:So R f2 a b) (t:Trn a b f f2):Bk R f2 a b :=
 ⟨s,fun k c1 c2=>by
  obtain ⟨i,d1,d2,d3⟩:=t.mem c1 c2
  rw [d3,h.out (.inr d1)]
  exact ⟨d1,d2⟩⟩
theorem Bls.second {R:Nat→Nat→Prop} {f:Nat→Nat} {bs n a:Nat} (h:Bls R f bs n a) (ha:a+bs<n):Bk R f a (a+bs)∧Bk R f (a+bs) (min (a+bs+bs) n):=by
 have h1:=h.first (by omega)
 rw [Nat.min_eq_left (by omega)] at h1
 exact ⟨h1,h.cut.first ha⟩
theorem Bls.last {R:Nat→Nat→Prop} {f:Nat→Nat} {bs n a:Nat} (h:Bls R f bs n a) (ha:a≤n) (hn:n≤a+bs):Bk R f a n:=by
 rcases Nat.lt_or_ge a n with c | c
 ·have h1:=h.first c
  rwa [Nat.min_eq_right hn] at h1
 ·exact ⟨So.short f (by omega),fun k c1 c2=>by omega⟩
theorem Bls.two {R:Nat→Nat→Prop} {f g:Nat→Nat} {bs n a b:Nat} (h:Bls R f bs n a) (t:Trn a b f g) (hb:b=a+2*bs):Bls R g bs n b:=by
 have h2:=h.cut.cut
 rw [show a+bs+bs=b by omega] at h2
 exact h2.trn t (Nat.le_refl b)
theorem ALc (gf:Nat) (lb:Array Value) (cf:Nat→Nat→Int) (R:Nat→Nat→Prop) (N g cap:Nat) (w:World)
 (eg:∀ (args:Array Value) (W:World),(callFunc gf args).run Tryz.prog W=.ok (.enter gf args) W) (C:Cmp cf R N) (hz:N<1099511627776)
 (hB:Fs w g N cap idF) (hC:CmpD gf lb cf N g w) :
 Calls Tryz.prog 190 #[.slice (some ⟨g,0,none⟩) N cap,.int .i64 (N:Int),.func (.func gf) #[] lb] w fun e w' =>
  e=.returned (.tuple #[])∧∃ f2,Fs w' g N cap f2∧So R f2 0 N∧Trn 0 N idF f2∧Only g w w':=by
 have HB:=Qa hB
 have HC:=Qa hC
 clear hB hC
 have KIN:=Qa (fun (f:Nat→Nat) (a b:Nat) (W:World) (ho:Only g w W) (hF:Fs W g N cap f) (ht:Trn 0 a idF f) (h1:a≤b) (h2:b≤N) =>
  AAh gf lb cf R N f N g cap a b W eg hF (HC.out.only ho) C (fun x y c1 c2 c3=>by rw [ht.out (.inr c1),ht.out (.inr (by omega))];exact c2) (fun k c1 c2=>by rw [ht.out (.inr c1)];show k<N;omega) h1 h2 hz)
 have KSM:=Qa (fun (f:Nat→Nat) (a m b:Nat) (W:World) (ho:Only g w W) (hF:Fs W g N cap f) (hM:Mg cf R N f a m b) (h1:a<m) (h2:m<b) (h3:b≤N) =>
  AFv gf lb cf R N N g cap eg C hz (b-a) a m b f W (Nat.le_refl _) hF (HC.out.only ho) hM h1 h2 h3)
 go_enter Tryz.func190,Tryz.ntmps190
 go_wp2
 go_loopw [7,8] (fun sa sb wr=>∃ (a c:Nat) (f:Nat→Nat),sa=.int .i64 a∧sb=.int .i64 ((a+20:Nat):Int)∧a≤N∧Hid (a=c*20)∧Hid (Blw R f 20 c∧Trn 0 a idF f)∧Hid (Fs wr g N cap f)∧Only g w wr) (fun sa _ _=>N+1-(intOf sa).toNat)
 case atStart=>exact ⟨0,0,idF,rfl,rfl,by omega,Qa rfl,Qa ⟨fun q hq=>by omega,Trn.refl _ _ _⟩,HB,Only.refl _ _⟩
 case round =>
  obtain ⟨a,c,f,rfl,rfl,ha,HA,HP,HK,hO⟩:=hrel
  by_cases hlt:((a+20:Nat):Int)≤(N:Int)
  ·have hlt2:(a:Int)+20≤(N:Int):=by omega
   have K1:=Qa (KIN.out f a (a+20) wr hO HK.out HP.out.2 (by omega) (by omega))
   go_wp2_with fail
   refine K1.out.mono ?_
   rintro ed w3 ⟨rfl,f2,h3,s3,t3,o3⟩
   have H3:=Qa h3
   have HP2:Hid (Blw R f2 20 (c+1)∧Trn 0 (a+20) idF f2):=Qa ⟨HP.out.1.more HA.out t3 (Bk.fresh HP.out.2 s3 t3),(HP.out.2.mono (Nat.le_refl 0) (by omega)).trans (t3.mono (by omega) (Nat.le_refl _))⟩
   clear h3 s3 t3 K1
   go_wp2
   go_roundw
   case measure=>simp [intOf];omega
   case rel=>exact ⟨a+20,c+1,f2,by simp,by first | (simp;done) | (simp;omega),by omega,Qa (by rw [HA.out];omega),HP2,H3,hO.trans o3⟩
  ·have hlt2:¬ (a:Int)+20≤(N:Int):=by omega
   have K1:=Qa (KIN.out f a N wr hO HK.out HP.out.2 ha (Nat.le_refl N))
   go_wp2_with fail
   refine K1.out.mono ?_
   rintro ed w3 ⟨rfl,f2,h3,s3,t3,o3⟩
   have H3:=Qa h3
   have HP2:Hid (Bls R f2 20 N 0∧Trn 0 N idF f2):=Qa ⟨Blw.all (by omega) (fun q hq=>(HP.out.1 q hq).of fun k _ c2=>t3.out (.inl (by
    have h1:=HA.out
    have:(q+1)*20≤c*20:=Nat.mul_le_mul_right 20 hq
    omega))) HA.out ha (by omega) (Bk.fresh HP.out.2 s3 t3),(HP.out.2.mono (Nat.le_refl 0) ha).trans (t3.mono (by omega) (Nat.le_refl _))⟩
   have O3:=hO.trans o3
   clear h3 s3 t3 K1 HK hO o3 HP HA
   go_wp2
   go_loopw [6,7,8,9] (fun s6 _ _ _ wr=>∃ (bs:Nat) (f:Nat→Nat),s6=.int .i64 bs∧0<bs∧bs≤2*N+20∧Hid (Bls R f bs N 0∧Trn 0 N idF f)∧Hid (Fs wr g N cap f)∧Only g w wr) (fun s6 _ _ _ _=>N-(intOf s6).toNat)
   case atStart=>exact ⟨20,f2,rfl,by omega,by omega,HP2,H3,O3⟩
   case round =>
    clear O3 H3 HP2
    obtain ⟨bs,f,rfl,hbs,hbs2,HP,HK,hO⟩:=hrel
    by_cases hlt3:(bs:Int)<(N:Int)
    ·go_wp2
     go_loopw [7,8] (fun sa sb wr=>∃ (a c:Nat) (f:Nat→Nat),sa=.int .i64 a∧sb=.int .i64 ((a+2*bs:Nat):Int)∧a≤N∧Hid (a=c*(2*bs))∧Hid (Blw R f (2*bs) c∧Bls R f bs N a∧Trn 0 N idF f)∧Hid (Fs wr g N cap f)∧Only g w wr) (fun sa _ _=>N+1-(intOf sa).toNat)
     case atStart=>exact ⟨0,0,f,rfl,by simp,by omega,Qa (by omega),Qa ⟨fun q hq=>by omega,HP.out.1,HP.out.2⟩,HK,hO⟩
     case round =>
      clear hO HK HP
      obtain ⟨a,c,f,rfl,rfl,ha,HA,HP,HK,hO⟩:=hrel
      by_cases hlt4:((a+2*bs:Nat):Int)≤(N:Int)
      ·have hlt5:(a:Int)+2*(bs:Int)≤(N:Int):=by omega
       have HBB:Hid (Bk R f a (a+bs)∧Bk R f (a+bs) (a+2*bs)):=Qa (by
        have h:=HP.out.2.1.second (by omega)
        rw [Nat.min_eq_left (by omega)] at h
        exact ⟨h.1,by rw [show a+2*bs=a+bs+bs by omega];exact h.2⟩)
       have K1:=Qa (KSM.out f a (a+bs) (a+2*bs) wr hO HK.out (HBB.out.1.merge HBB.out.2 (by omega) (by omega)) (by omega) (by omega) (by omega))
       go_wp2_with fail
       refine K1.out.mono ?_
       rintro ed w3 ⟨rfl,f2,h3,s3,t3,o3⟩
       have H3:=Qa h3
       have HP2:Hid (Blw R f2 (2*bs) (c+1)∧Bls R f2 bs N (a+2*bs)∧Trn 0 N idF f2):=Qa ⟨HP.out.1.more HA.out t3 (HBB.out.1.merged HBB.out.2 (by omega) (by omega) s3 t3),HP.out.2.1.two t3 rfl,HP.out.2.2.trans (t3.mono (by omega) (by omega))⟩
       clear h3 s3 t3 K1
       go_wp2
       go_roundw
       case measure=>simp [intOf];omega
       case rel=>exact ⟨a+2*bs,c+1,f2,by simp,by simp,by omega,Qa (by rw [HA.out,Nat.add_mul,Nat.one_mul]),HP2,H3,hO.trans o3⟩
      ·have hlt5:¬ (a:Int)+2*(bs:Int)≤(N:Int):=by omega
       by_cases hlt6:(a:Int)+(bs:Int)<(N:Int)
       ·have HBB:Hid (Bk R f a (a+bs)∧Bk R f (a+bs) N):=Qa (by
         have h:=HP.out.2.1.second (by omega)
         rw [Nat.min_eq_right (by omega)] at h
         exact h)
        have K1:=Qa (KSM.out f a (a+bs) N wr hO HK.out (HBB.out.1.merge HBB.out.2 (by omega) (by omega)) (by omega) (by omega) (by omega))
        go_wp2_with fail
        refine K1.out.mono ?_
        rintro ed w3 ⟨rfl,f2,h3,s3,t3,o3⟩
        have H3:=Qa h3
        have HP2:Hid (Bls R f2 (2*bs) N 0∧Trn 0 N idF f2):=Qa ⟨Blw.all (by omega) (fun q hq=>(HP.out.1 q hq).of fun k _ c2=>t3.out (.inl (by
         have h1:=HA.out
         have:(q+1)*(2*bs)≤c*(2*bs):=Nat.mul_le_mul_right (2*bs) hq
         rw [Nat.add_mul,Nat.one_mul] at this
         omega))) HA.out ha (by omega) (HBB.out.1.merged HBB.out.2 (by omega) (by omega) s3 t3),HP.out.2.2.trans (t3.mono (by omega) (by omega))⟩
        clear h3 s3 t3 K1
        go_wp2
        go_roundw
        case measure=>simp [intOf];omega
        case rel=>exact ⟨2*bs,f2,by simp;omega,by omega,by omega,HP2,H3,hO.trans o3⟩
       ·have HP2:Hid (Bls R f (2*bs) N 0∧Trn 0 N idF f):=Qa ⟨Blw.all (by omega) HP.out.1 HA.out ha (by omega) (HP.out.2.1.last ha (by omega)),HP.out.2.2⟩
        go_wp2
        go_roundw
        case measure=>simp [intOf];omega
        case rel=>exact ⟨2*bs,f,by simp;omega,by omega,by omega,HP2,HK,hO⟩
    ·go_wp2
     go_end0
     refine ⟨rfl,f,HK.out,(HP.out.1.last (by omega) (by omega)).1,HP.out.2,hO⟩
theorem vy (gf:Nat) (lb:Array Value) (cf:Nat→Nat→Int) (R:Nat→Nat→Prop) (N g cap:Nat) (w:World)
 (eg:∀ (args:Array Value) (W:World),(callFunc gf args).run Tryz.prog W=.ok (.enter gf args) W) (C:Cmp cf R N) (hz:N<1099511627776)
 (hB:Fs w g N cap idF) (hC:CmpD gf lb cf N g w) :
 Calls Tryz.prog 170 #[.slice (some ⟨g,0,none⟩) N cap,.func (.func gf) #[] lb] w fun e w' =>
  e=.returned (.tuple #[])∧∃ f2,Fs w' g N cap f2∧So R f2 0 N∧Trn 0 N idF f2∧Only g w w':=by
 have K:=Qa (ALc gf lb cf R N g cap w eg C hz hB hC)
 clear hB hC
 go_enter Tryz.func170,Tryz.ntmps170
 go_wp2_with fail
 refine K.out.mono ?_
 rintro ed w3 ⟨rfl,f2,h3,s3,t3,o3⟩
 go_wp2
 go_end0
 exact ⟨rfl,f2,h3,s3,t3,o3⟩
end Go.Proofs.YtembljihmnmmfaaGreat
