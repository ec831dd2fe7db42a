/- Texts of the proof, merged. -/
import Derived.WalkLawsBesides
import Derived.Lib.MinMax
import Derived.Test.YtembljihmnmmfaaGreatKB20
import Derived.Test.YtembljihmnmmfaaGreatKB13
namespace Go.Proofs.YtembljihmnmmfaaGreat
set_option maxHeartbeats 4000000
set_option maxRecDepth 100000
set_option linter.unusedVariables false
set_option linter.unusedSimpArgs false
open Go.RowKit
theorem vw (zs:List Int) (n:Nat):Qe (wl zs n)=nats n (fun s=>wgt (zs.getD s 0)):=by simp [Qe,wl,nats]
theorem Ints.lies {w:World} {B:Nat} {a:Option Addr} {zs:List Int} (h:Ints w B a zs) (h0:∀ k,k<zs.length→0≤zs.getD k 0):Lies w B a (Qe (zs.map Int.toNat)):=fun hp=>by
 rw [ZF,List.length_map] at hp
 obtain ⟨b,off,e,hb,hc⟩:=h.2.2 hp
 refine ⟨b,off,e,hb,fun i hi=>?_⟩
 rw [ZF,List.length_map] at hi
 have hx:=h0 i hi
 have e2:zs.getD i 0=zs[i]:=by simp [List.getD_eq_getElem?_getD,hi]
 rw [hc i hi,zq _ i (by simpa using hi),List.getElem_map,e2]
 rw [e2] at hx
 rw [Int.toNat_of_nonneg hx]
theorem ACo (a:Option Addr) (cap B:Nat) (zs:List Int) (w:World) (hz:Ints w B a zs) (hB:B≤w.heap.size) (hlen:zs.length≤260) (hr:∀ k,k<zs.length→0≤zs.getD k 0∧zs.getD k 0≤1000000) :
 Calls Tryz.prog 198 #[.slice a zs.length cap] w fun e w'=>∃ v,e=.returned v∧w'.ownsRow w.heap.size 3 1 v zs.length (Qe (wl zs zs.length))∧Below w.heap.size w w':=by
 have KD:=Qa (yf a cap B (zs.map Int.toNat) w (hz.lies fun k hk=>(hr k hk).1) hB (by simp;omega))
 rw [List.length_map] at KD
 obtain ⟨n,hn⟩:∃ n,zs.length=n:=⟨_,rfl⟩
 have HN:=Qa hn
 have HR:=Qa hr
 rw [hn] at hlen KD ⊢
 have HE:Hid (Qe (zs.map Int.toNat)=nats n (fun s=>(zs.getD s 0).toNat)):=Qa (by
  rw [ZC,List.length_map,hn]
  refine Qu fun s hs=>?_
  have:s<zs.length:=by omega
  simp [List.getD_eq_getElem?_getD,this])
 clear hn hz hr
 go_enter Tryz.func198,Tryz.ntmps198
 go_wp2_with fail
 refine KD.out.mono ?_
 rintro e w1 ⟨v,rfl,hown,hbl⟩
 rw [HE.out] at hown
 rcases Nat.eq_zero_or_pos n with h0 | h0
 ·subst h0
  obtain ⟨a3,c3,rfl⟩:=Qq hown
  go_wp2
  go_loopw [9] (fun si wr=>si=.int .i64 0∧wr=w1) (fun _ _=>0)
  case atStart=>exact ⟨rfl,rfl⟩
  case round =>
   obtain ⟨rfl,rfl⟩:=hrel
   go_wp2
   go_ret
   exact ⟨_,rfl,by rw [vw];exact hown,hbl⟩
 ·obtain ⟨g,c,hv⟩:=Joins.ownsRow_form hown h0
  subst hv
  have hg:=(hown.lt g rfl).1
  go_wp2
  go_loopw [9] (fun si wr=>∃ k:Nat,k≤n∧si=.int .i64 k∧wr.ownsRow w.heap.size 3 1 (.slice (some ⟨g,0,none⟩) n c) n (nats n fun s=>if s<k then wgt (zs.getD s 0) else (zs.getD s 0).toNat)∧Below w.heap.size w wr) (fun si _=>n-(intOf si).toNat)
  case atStart=>exact ⟨0,Nat.zero_le _,rfl,by rw [Qu (g:=fun s=>(zs.getD s 0).toNat) fun s hs=>by rw [if_neg (by omega)]];exact hown,hbl⟩
  case round =>
   obtain ⟨k,hk,rfl,hownD,hblD⟩:=hrel
   by_cases hlt:k<n
   ·have hxr:=HR.out k (by rw [HN.out];exact hlt)
    have d0:=hownD.cellAt k (by omega)
    rw [Qw _ _ k hlt,if_neg (Nat.lt_irrefl _)] at d0
    have f0:=hownD.frozenAt k
    obtain ⟨x,hx⟩:∃ x,(zs.getD k 0).toNat=x:=⟨_,rfl⟩
    rw [hx] at d0
    obtain ⟨W,hW⟩:∃ W,wgt (zs.getD k 0)=W:=⟨_,rfl⟩
    have HST:Hid ((nats n fun s=>if s<k then wgt (zs.getD s 0) else (zs.getD s 0).toNat).set k (.int .i64 (W:Int))=nats n fun s=>if s<k+1 then wgt (zs.getD s 0) else (zs.getD s 0).toNat):=Qa (by
     rw [Zb]
     refine Qu fun s hs=>?_
     by_cases e:s=k
     ·subst e;rw [if_pos rfl,if_pos (by omega),hW]
     ·rw [if_neg e]
      by_cases h:s<k
      ·rw [if_pos h,if_pos (by omega)]
      ·rw [if_neg h,if_neg (by omega)])
    have hW1:max (x:Int) 1=(W:Int):=by
     rw [←hW,←hx]
     unfold wgt
     by_cases h:zs.getD k 0=0
     ·rw [if_pos h,h];decide
     ·rw [if_neg h];omega
    have HW1:=Qa hW1
    clear hx hW hxr hW1
    go_wp2
    go_roundw
    case rel=>exact ⟨k+1,by omega,by go_num,by
     have:=(hownD.stored k (.int .i64 (W:Int))).1
     rw [HST.out] at this
     rw [HW1.out]
     simpa using this,hblD.setCell hg _⟩
    case measure=>simp [intOf];omega
   ·have hkn:k=n:=by omega
    subst hkn
    go_wp2
    go_ret
    exact ⟨_,rfl,by rw [vw,Qu (f:=fun s=>wgt (zs.getD s 0)) (g:=fun s=>if s<k then wgt (zs.getD s 0) else (zs.getD s 0).toNat) fun s hs=>by rw [if_pos hs]];exact hownD,hblD⟩
theorem yM (n:Nat):(madeCells #[Value.int .i64 0,Value.int .i64 0] (n*2)).toList=Qi (List.replicate n ((0,0):Item)):=by
 have hl:(Qi (List.replicate n ((0,0):Item))).length=n*2:=by rw [ZD,List.length_replicate]
 apply List.ext_getElem
 ·rw [hl];simp [madeCells]
 ·intro i h1 h2
  have hall:∀ (m:Nat),∀ u∈Qi (List.replicate m ((0,0):Item)),u=Value.int .i64 0:=by
   intro m
   induction m with
   | zero=>intro u hu;simp [Qi] at hu
   | succ m ih =>
     intro u hu
     simp only [List.replicate_succ,Qi,List.mem_cons] at hu
     rcases hu with rfl | rfl | hu
     ·rfl
     ·rfl
     ·exact ih u hu
  rw [hall n _ (List.getElem_mem h2)]
  have:i % 2=0∨i % 2=1:=by omega
  rcases this with h | h <;> simp [madeCells,h]
theorem ADn {α:Type} (X:List α) (z x:α) (k n:Nat) (hX:X.length=k) (hk:k<n):(X++List.replicate (n-k) z).set k x=X++[x]++List.replicate (n-(k+1)) z:=by
 rw [List.set_append_right _ _ (by omega),hX,Nat.sub_self,show n-k=(n-(k+1))+1 by omega,List.replicate_succ,List.set_cons_zero]
 simp
theorem ACh (a:Option Addr) (cap B:Nat) (zs:List Int) (w:World) (hz:Ints w B a zs) (hB:B≤w.heap.size) (hlen:zs.length≤260) (hr:∀ k,k<zs.length→0≤zs.getD k 0∧zs.getD k 0≤1000000) :
 Calls Tryz.prog 185 #[.slice a zs.length cap] w fun e w'=>∃ v,e=.returned v∧w'.ownsRow w.heap.size 199 2 v zs.length (Qi (ZW zs))∧Below w.heap.size w w':=by
 obtain ⟨j0,ji,jz0,jz1,jz2⟩:=info_parts Tryz.infoIt
 have KW:=Qa (fun (W:World) (hW:Below w.heap.size w W)=>ACo a cap B zs W (hz.below (hW.mono hB)) (Nat.le_trans hB hW.size) hlen hr)
 obtain ⟨n,hn⟩:∃ n,zs.length=n:=⟨_,rfl⟩
 have HN:=Qa hn
 have HL:Hid (srt ltI (Qz zs n)=ZW zs):=Qa (by rw [←hn];exact AQb zs)
 have KS:Hid (∀ (W:World) (v:Value) (base:Nat),W.ownsRow base 199 2 v n (Qi (Qz zs n))→Calls Tryz.prog 199 #[v,.func (.func 197) #[] #[]] W fun e w'=>∃ v,e=.returned v∧w'.ownsRow W.heap.size 199 2 v n (Qi (srt ltI (Qz zs n)))∧Below W.heap.size W w'):=Qa (fun W v base h=>by
  obtain ⟨a3,c3,rfl,h1,h2⟩:=Vk h
  exact AHp n a3 c3 W.heap.size (Qz zs n) W (XY zs n) (Lies.own h) (Nat.le_refl _) h1 h2 (by omega))
 rw [HL.out] at KS
 rw [hn] at hlen KW ⊢
 clear hn hz hr
 go_enter Tryz.func185,Tryz.ntmps185
 go_wp2_with (at_make;refine wpList_make_full _ rfl _ _ 192 rfl w.heap.size 199 j0 (.agg #[.int .i64 0,.int .i64 0]) 2 Tryz.underlying192 ji jz0 jz1 .i64 .i64 _ _ n rfl rfl rfl rfl ?cb1 ?cb2 ?cb3 ?_)
 case cb1=>rw [jz2];omega
 case cb2=>unfold maxLen;omega
 case cb3=>exact Nat.le_refl _
 intro w1 hown1 hgrow
 have hbl1:Below w.heap.size w w1:=⟨hgrow.os,hgrow.tape,hgrow.output,hgrow.size,fun i hi=>hgrow.block i hi (by simp)⟩
 have hown1':w1.ownsRow w.heap.size 199 2 (.slice (some ⟨w.heap.size,0,none⟩) n n) n (Qi (List.replicate n ((0,0):Item))):=by rw [←yM];exact hown1
 clear hgrow hown1
 go_wp2_with fail
 refine (KW.out _ hbl1).mono ?_
 rintro e w2 ⟨v,rfl,hown,hb2⟩
 have hI:=Ql hown1' hb2
 have hI1:=hown1'
 have hbl2:Below w.heap.size w w2:=Qc hb2 hbl1.size hbl1
 have hsz1:=hbl1.size
 clear hown1' hb2 hbl1
 rcases Nat.eq_zero_or_pos n with h0 | h0
 ·subst h0
  obtain ⟨a3,c3,rfl⟩:=Qq hown
  go_wp2
  go_loopw [12] (fun si wr=>si=.int .i64 0∧wr=w2) (fun _ _=>0)
  case atStart=>exact ⟨rfl,rfl⟩
  case round =>
   obtain ⟨rfl,rfl⟩:=hrel
   go_wp2_with fail
   refine (KS.out _ _ _ (by simpa [Qz,Qi] using hI)).mono ?_
   rintro e w3 ⟨v3,rfl,hown3,hb3⟩
   go_wp2
   go_ret
   exact ⟨_,rfl,Joins.ownsRow_le hown3 hbl2.size,Qc hb3 hbl2.size hbl2⟩
 ·obtain ⟨g,c,hv⟩:=Joins.ownsRow_form hown h0
  subst hv
  have hg:=(hown.lt g rfl)
  have hl1:=(hI1.lt w.heap.size rfl).2
  go_wp2
  go_loopw [12] (fun si wr=>∃ k:Nat,k≤n∧si=.int .i64 k∧wr.ownsRow w.heap.size 199 2 (.slice (some ⟨w.heap.size,0,none⟩) n n) n (Qi (Qz zs k++List.replicate (n-k) ((0,0):Item)))∧wr.ownsRow w1.heap.size 3 1 (.slice (some ⟨g,0,none⟩) n c) n (Qe (wl zs n))∧Below w.heap.size w wr) (fun si _=>n-(intOf si).toNat)
  case atStart=>exact ⟨0,Nat.zero_le _,rfl,hI,hown,hbl2⟩
  case round =>
   obtain ⟨k,hk,rfl,hD,hW,hb⟩:=hrel
   by_cases hlt:k<n
   ·have d0:=hW.cellAt k (by omega)
    rw [vw,Qw _ _ k hlt] at d0
    obtain ⟨W,hWe⟩:∃ W,wgt (zs.getD k 0)=W:=⟨_,rfl⟩
    rw [hWe] at d0
    have f0:=hD.frozenAt (k*2)
    have f1:=hD.frozenAt (k*2+1)
    have c0:=hD.cellAt (k*2) (by omega)
    have c1:=hD.cellAt (k*2+1) (by omega)
    have hLl:(Qz zs k++List.replicate (n-k) ((0,0):Item)).length=n:=by rw [List.length_append,XY,List.length_replicate];omega
    obtain ⟨q0,hq0⟩:∃ y,(Qz zs k++List.replicate (n-k) ((0,0):Item))[k]'(by omega)=y:=⟨_,rfl⟩
    rw [ZJ _ k (by omega),hq0] at c0
    rw [XB _ k (by omega),hq0] at c1
    have HE:Hid ((Qz zs k++List.replicate (n-k) ((0,0):Item)).set k (W,(k:Int))=Qz zs (k+1)++List.replicate (n-(k+1)) ((0,0):Item)):=Qa (by rw [ADn _ _ _ _ _ (XY zs k) hlt,yF,hWe])
    clear hq0 hWe hLl
    go_wp2
    go_roundw
    case rel=>exact ⟨k+1,by omega,by go_num,by rw [←HE.out];exact Vq hD 0 k (W,(k:Int)),Zm (Zm hW (p:=⟨w.heap.size,k*2,none⟩) hl1 _) (p:=⟨w.heap.size,k*2+1,none⟩) hl1 _,(hb.setCell (Nat.le_refl _) _).setCell (Nat.le_refl _) _⟩
    case measure=>simp [intOf];omega
   ·have hkn:k=n:=by omega
    subst hkn
    have hD2:wr.ownsRow w.heap.size 199 2 (.slice (some ⟨w.heap.size,0,none⟩) k k) k (Qi (Qz zs k)):=by simpa using hD
    have hszr:=hb.size
    go_wp2_with fail
    refine (KS.out _ _ _ hD2).mono ?_
    rintro e w3 ⟨v3,rfl,hown3,hb3⟩
    go_wp2
    go_ret
    exact ⟨_,rfl,Joins.ownsRow_le hown3 hszr,Qc hb3 hszr hb⟩
theorem ARb {w:World} {base g n cap:Nat} {E:TypeId} {D:List Item} (h:w.ownsRow base E 2 (.slice (some ⟨g,0,none⟩) n cap) n (Qi D)) (q:Nat) (x:Item) :
 ((w.setCell ⟨g,q*2,none⟩ (.int .i64 (x.1:Int))).setCell ⟨g,q*2+1,none⟩ (.int .i64 x.2)).ownsRow base E 2 (.slice (some ⟨g,0,none⟩) n cap) n (Qi (D.set q x)):=Vq h 0 q x
theorem vF (v:Value) (base r:Nat) (R:List Item) (w:World) (h:w.ownsRow base 199 2 v r (Qi R)) (hr:R.length=r) (hr2:r≤520) (hw:∀ x∈R,x.1≤1099511627776) :
 Calls Tryz.prog 196 #[v] w fun e w'=>∃ v,e=.returned v∧w'.ownsRow w.heap.size 199 2 v (r / 2) (Qi (pks R))∧Below w.heap.size w w':=by
 obtain ⟨j0,ji,jz0,jz1,jz2⟩:=info_parts Tryz.infoIt
 obtain ⟨a,c,rfl,hrc,hnone⟩:=Vk h
 obtain ⟨n,hn⟩:∃ n,r / 2=n:=⟨_,rfl⟩
 have hq:(r:Int).tdiv 2=(n:Int):=by rw [Int.tdiv_eq_ediv_of_nonneg (by omega)];omega
 have HL:=Lies.own h
 have HLn:=Qa hr
 have HP:Hid ((pks R).length=n):=Qa (by rw [vV,hr,hn])
 have HW:=Qa hw
 have H2:=Qa h
 rw [hn]
 have hn2:2*n≤r:=by omega
 clear hr hw h hn
 go_enter Tryz.func196,Tryz.ntmps196
 go_wp2_with (at_make;refine wpList_make_full _ rfl _ _ 192 rfl w.heap.size 199 j0 (.agg #[.int .i64 0,.int .i64 0]) 2 Tryz.underlying192 ji jz0 jz1 .i64 .i64 _ _ n rfl rfl (by first | rfl | assumption) (by first | rfl | assumption) ?cb1 ?cb2 ?cb3 ?_)
 case cb1=>rw [jz2];omega
 case cb2=>unfold maxLen;omega
 case cb3=>exact Nat.le_refl _
 intro w1 hown1 hgrow
 have hbl1:Below w.heap.size w w1:=⟨hgrow.os,hgrow.tape,hgrow.output,hgrow.size,fun i hi=>hgrow.block i hi (by simp)⟩
 have hown1':w1.ownsRow w.heap.size 199 2 (.slice (some ⟨w.heap.size,0,none⟩) n n) n (Qi (List.replicate n ((0,0):Item))):=by rw [←yM];exact hown1
 clear hgrow hown1
 go_wp2
 go_loopw [11] (fun si wr=>∃ k:Nat,k≤n∧si=.int .i64 k∧wr.ownsRow w.heap.size 199 2 (.slice (some ⟨w.heap.size,0,none⟩) n n) n (Qi ((pks R).take k++List.replicate (n-k) ((0,0):Item)))∧Below w.heap.size w wr) (fun si _=>n-(intOf si).toNat)
 case atStart=>exact ⟨0,Nat.zero_le _,rfl,hown1',hbl1⟩
 case round =>
  obtain ⟨k,hk,rfl,hD,hb⟩:=hrel
  by_cases hlt:k<n
  ·obtain ⟨b,c2,hv⟩:=Joins.ownsRow_form H2.out (by omega)
   simp only [Value.slice.injEq] at hv
   obtain ⟨rfl,_,rfl⟩:=hv
   have hbw:=(H2.out.lt b rfl).2
   have hR:=Ql H2.out hb
   obtain ⟨x,hx⟩:∃ x,R[2*k]'(by rw [HLn.out];omega)=x:=⟨_,rfl⟩
   obtain ⟨y,hy⟩:∃ y,R[2*k+1]'(by rw [HLn.out];omega)=y:=⟨_,rfl⟩
   have c0:=hR.cellAt (2*k*2) (by omega)
   have c1:=hR.cellAt ((2*k+1)*2) (by omega)
   rw [ZJ R (2*k) (by rw [HLn.out];omega),hx] at c0
   rw [ZJ R (2*k+1) (by rw [HLn.out];omega),hy] at c1
   have hxm:=HW.out x (by rw [←hx];exact List.getElem_mem _)
   have hym:=HW.out y (by rw [←hy];exact List.getElem_mem _)
   have f0:=hD.frozenAt (k*2)
   have f1:=hD.frozenAt (k*2+1)
   have d0:=hD.cellAt (k*2) (by omega)
   have d1:=hD.cellAt (k*2+1) (by omega)
   have hLl:((pks R).take k++List.replicate (n-k) ((0,0):Item)).length=n:=by rw [List.length_append,List.length_take,HP.out,List.length_replicate];omega
   obtain ⟨q0,hq0⟩:∃ y,((pks R).take k++List.replicate (n-k) ((0,0):Item))[k]'(by omega)=y:=⟨_,rfl⟩
   rw [ZJ _ k (by omega),hq0] at d0
   rw [XB _ k (by omega),hq0] at d1
   have hpk:=AYu R k (by rw [HLn.out];omega)
   rw [hx,hy] at hpk
   have HE:Hid (((pks R).take k++List.replicate (n-k) ((0,0):Item)).set k (x.1+y.1,-1)=(pks R).take (k+1)++List.replicate (n-(k+1)) ((0,0):Item)):=Qa (by
    rw [ADn _ _ _ _ _ (by rw [List.length_take,HP.out];omega) hlt,List.take_succ_eq_append_getElem (by rw [HP.out];exact hlt),hpk])
   obtain ⟨x1,x2⟩:=x
   obtain ⟨y1,y2⟩:=y
   simp only at c0 c1 hxm hym HE
   clear hq0 hLl hx hy hpk hR
   have n1:¬ b=w.heap.size:=by omega
   have n2:¬ w.heap.size=b:=by omega
   obtain ⟨p0,hp0⟩:∃ p0:Nat,x1+y1=p0:=⟨_,rfl⟩
   have hp0I:(x1:Int)+(y1:Int)=(p0:Int):=by omega
   rw [hp0] at HE
   have hp0b:p0≤2199023255552:=by omega
   have i1:(k:Int)<(n:Int):=by omega
   have i2:2*(k:Int)<(r:Int):=by omega
   have i3:2*(k:Int)+1<(r:Int):=by omega
   have i4:(0:Int)≤2*(k:Int):=by omega
   have i5:(0:Int)≤2*(k:Int)+1:=by omega
   have i6:(0:Int)≤(k:Int):=by omega
   have i7:IntKind.i64.wrap (2*(k:Int))=2*(k:Int):=IntWalk.i64_in _ (by omega)
   have i8:IntKind.i64.wrap (2*(k:Int)+1)=2*(k:Int)+1:=IntWalk.i64_in _ (by omega)
   have i9:IntKind.i64.wrap ((x1:Int)+(y1:Int))=(p0:Int):=by rw [hp0I];exact IntWalk.i64_in _ (by omega)
   have i10:(2*(k:Int)).toNat=2*k:=by omega
   have i11:(2*(k:Int)+1).toNat=2*k+1:=by omega
   clear hp0 hp0I hxm hym
   go_wp2
   go_region_held3 (fun w'=>w'.cell? ⟨b,2*k*2,none⟩=some (.int .i64 (x1:Int))∧w'.cell? ⟨b,(2*k+1)*2,none⟩=some (.int .i64 (y1:Int))) (go_keep) (fail)
   all_goals
    go_wp2
    exact ⟨⟨k+1,by omega,by go_num,by rw [←HE.out];exact ARb hD k (p0,-1),((hb.setCell (Nat.le_refl _) _).setCell (Nat.le_refl _) _).drew⟩,by simp [intOf];omega⟩
  ·have hkn:k=n:=by omega
   subst hkn
   go_wp2
   go_ret
   refine ⟨_,rfl,?_,hb⟩
   rw [List.take_of_length_le (by rw [HP.out];exact Nat.le_refl _)] at hD
   simpa using hD
theorem Tryz.infoRowI:(Tryz.prog.info? 192).map (fun i=>(i.zero,i.size,i.bytes))=some (some (.slice none 0 0),1,24):=by kernel_rfl
theorem AUa (L:List Item) (k:Nat):mrg ltI L (pks (rowM L k))=rowM L (k+1):=AYh L _
theorem AHq (v:Value) (base n lim:Nat) (L:List Item) (w:World) (h:w.ownsRow base 199 2 v n (Qi L)) (hbase:base≤w.heap.size) (hn:L.length=n) (hn1:1≤n) (hn2:n≤260) (h1:1≤lim) (h2:lim≤20) (hbd:∀ k,k≤19→∀ x∈rowM L k,x.1≤1099511627776) :
 Calls Tryz.prog 184 #[v,.int .i64 lim] w fun e w'=>∃ vr Vs,e=.returned vr∧w'.ownsRow w.heap.size 192 1 vr lim Vs∧Vs.length=lim∧(∀ i,(h:i<Vs.length)→w'.ownsRow base 199 2 Vs[i] (rowM L i).length (Qi (rowM L i)))∧Below w.heap.size w w':=by
 obtain ⟨i0,hi,hz0,hz1,hz2⟩:=info_parts Tryz.infoRowI
 obtain ⟨g,c,hv⟩:=Joins.ownsRow_form h hn1
 subst hv
 have HLn:=Qa hn
 have HBD:=Qa hbd
 have HL:=Qa h
 have hg:=(h.lt g rfl).2
 have HRow:Hid (∀ k,n≤(rowM L k).length∧(rowM L k).length≤2*n):=Qa fun k=>by
  have:=qT L k
  rw [hn] at this
  refine ⟨?_,this⟩
  cases k with
  | zero=>show n≤L.length;omega
  | succ k=>rw [Jp,hn];omega
 have KP:=Qa (fun (W:World) (V:Value) (k:Nat) (hk:k≤19) (hV:W.ownsRow base 199 2 V (rowM L k).length (Qi (rowM L k)))=>vF V base _ (rowM L k) W hV rfl (by have:=(HRow.out k).2;omega) (HBD.out k hk))
 have KM:Hid (∀ (W:World) (P:Value) (k b2:Nat),Below w.heap.size w W→W.ownsRow b2 199 2 P ((rowM L k).length / 2) (Qi (pks (rowM L k)))→Calls Tryz.prog 195 #[.slice (some ⟨g,0,none⟩) n c,P,.func (.func 197) #[] #[]] W fun e w'=>∃ v,e=.returned v∧w'.ownsRow W.heap.size 199 2 v (rowM L (k+1)).length (Qi (rowM L (k+1)))∧Below W.heap.size W w'):=Qa (fun W P k b2 hW hP=>by
  have:=jg (.slice (some ⟨g,0,none⟩) n c) P base b2 n _ L (pks (rowM L k)) W (Ql HL.out hW) hP HLn.out (vV _) (by omega) (by have:=(HRow.out k).2;omega)
  rw [AUa] at this
  rw [Jp,HLn.out]
  exact this)
 clear h hn hbd
 have hl1:(0:Int)≤(lim:Int)-1:=by omega
 go_enter Tryz.func184,Tryz.ntmps184
 go_wp2
 go_loopw [5,6,12] (fun sl sr si wr=>∃ (k:Nat) (Vs:List Value),k+1≤lim∧si=.int .i64 k∧Hid (Vs.length=k+1)∧wr.ownsRow w.heap.size 192 1 sr (k+1) Vs∧Hid (∀ i,(h:i<Vs.length)→wr.ownsRow base 199 2 Vs[i] (rowM L i).length (Qi (rowM L i)))∧Hid (∀ u∈Vs,u.oneCell'=true)∧Hid (wr.ownsRow base 199 2 sl (rowM L k).length (Qi (rowM L k)))∧Below w.heap.size w wr) (fun _ _ si _=>lim-(intOf si).toNat)
 case atStart=>exact ⟨0,[.slice (some ⟨g,0,none⟩) n c],by omega,rfl,Qa rfl,World.ownsRow_lit _ _ _ (Nat.le_refl _) (by decide) rfl,Qa (fun i hi=>by
  have:i=0:=by simpa using hi
  subst this
  show World.ownsRow _ _ _ _ _ L.length _
  rw [HLn.out]
  exact HL.out.alloc _),Qa (by simp [Value.oneCell']),Qa (by
   show World.ownsRow _ _ _ _ _ L.length _
   rw [HLn.out]
   exact HL.out.alloc _),(Below.refl _ _).alloc (Nat.le_refl _) _⟩
 case round =>
  obtain ⟨k,Vs,hk,rfl,HV,hrows,HVs,HV1,HC,hbl⟩:=hrel
  have hsz:=hbl.size
  obtain ⟨gr,cr,hvr⟩:=Joins.ownsRow_form hrows (by omega)
  subst hvr
  by_cases hlt:k+1<lim
  ·have hltI:(k:Int)<(lim:Int)-1:=by omega
   go_wp2_with fail
   refine (KP.out _ _ k (by omega) HC.out).mono ?_
   rintro e w3 ⟨P,rfl,hP,b3⟩
   have bl3:Below w.heap.size w w3:=Qc b3 hsz hbl
   have hrows3:=Ql hrows b3
   have HVs3:Hid (∀ i,(h:i<Vs.length)→w3.ownsRow base 199 2 Vs[i] (rowM L i).length (Qi (rowM L i))):=Qa (fun i h=>Ql (HVs.out i h) b3)
   clear HVs hbl HC hrows
   go_wp2_with fail
   refine (KM.out _ _ k _ bl3 hP).mono ?_
   rintro e w4 ⟨v4,rfl,hown4,b4⟩
   have hsz3:=bl3.size
   have bl4:Below w.heap.size w w4:=Qc b4 hsz3 bl3
   replace hrows3:=Ql hrows3 b4
   replace HVs3:Hid (∀ i,(h:i<Vs.length)→w4.ownsRow base 199 2 Vs[i] (rowM L i).length (Qi (rowM L i))):=Qa (fun i h=>Ql (HVs3.out i h) b4)
   have hown4':=Joins.ownsRow_le hown4 (Nat.le_trans hbase hsz3)
   have hlen4:n≤(rowM L (k+1)).length:=(HRow.out (k+1)).1
   obtain ⟨r4,hr4⟩:∃ r,(rowM L (k+1)).length=r:=⟨_,rfl⟩
   rw [hr4] at hown4' hlen4
   obtain ⟨g4,c4,hv4⟩:=Joins.ownsRow_form hown4' (by omega)
   subst hv4
   have HR4:=Qa hr4
   have hsz4:=bl4.size
   clear b3 b4 bl3 hP hown4 hr4
   go_wp2_with (at_builtin;refine wpList_append_own_at _ rfl _ _ 190 rfl w.heap.size 192 i0 (.slice none 0 0) 1 24 Tryz.underlying190 hi hz0 hz1 hz2 rfl (by decide) _ _ _ rfl (hrows3.alloc _) ⟨w4.heap.size,0,none⟩ 1 1 [.slice (some ⟨g4,0,none⟩) r4 c4] rfl rfl ?ca2 ?ca3 ?ca4 ?ca5 ?ca6 ?_)
   case ca2=>exact JY _ _ _
   case ca3=>exact fun u hu=>by simp at hu;subst hu;rfl
   case ca4=>unfold maxLen;omega
   case ca5=>omega
   case ca6=>simp;omega
   intro v5 w5 hown5 hgrow _ _
   have hbl5:Below w.heap.size w w5:=(bl4.alloc (by omega) _).grown hgrow (by simp;omega) (fun b hb=>(hrows3.lt b hb).1)
   have HC4:w5.ownsRow base 199 2 (.slice (some ⟨g4,0,none⟩) r4 c4) r4 (Qi (rowM L (k+1))):=(hown4'.alloc _).kept hgrow (.inr (XZ hrows3 hown4' (by decide) rfl))
   have HVn:Hid (∀ i,(h:i<(Vs++[Value.slice (some ⟨g4,0,none⟩) r4 c4]).length)→w5.ownsRow base 199 2 ((Vs++[Value.slice (some ⟨g4,0,none⟩) r4 c4])[i]'h) (rowM L i).length (Qi (rowM L i))):=Qa (by
    intro i h
    rcases Nat.lt_or_ge i Vs.length with hi | hi
    ·rw [List.getElem_append_left hi]
     have o1:=HVs3.out i hi
     exact (o1.alloc _).kept hgrow (.inr (XZ hrows3 o1 (by decide) rfl))
    ·have e:i=Vs.length:=by simp at h;omega
     subst e
     rw [List.getElem_append_right (Nat.le_refl _)]
     simp only [Nat.sub_self,List.getElem_cons_zero]
     rw [HV.out,HR4.out]
     exact HC4)
   have HV1n:Hid (∀ u∈Vs++[Value.slice (some ⟨g4,0,none⟩) r4 c4],u.oneCell'=true):=Qa (by
    intro u hu
    rcases List.mem_append.1 hu with h | h
    ·exact HV1.out u h
    ·simp at h;subst h;rfl)
   go_wp2
   go_roundw
   case rel=>exact ⟨k+1,Vs++[.slice (some ⟨g4,0,none⟩) r4 c4],by omega,by go_num,Qa (by simp [HV.out]),hown5,HVn,HV1n,Qa (by rw [HR4.out];exact HC4),hbl5⟩
   case measure=>simp [intOf];omega
  ·have hltI:¬ (k:Int)<(lim:Int)-1:=by omega
   have e:k+1=lim:=by omega
   go_wp2
   go_ret
   refine ⟨_,rfl,Vs,?_,by rw [HV.out,e],HVs.out,hbl⟩
   first | exact hrows | (rw [e] at hrows;exact hrows)
theorem ADm (vr:Value) (base b1 n lim:Nat) (zs:List Int) (L:List Item) (Vs:List Value) (w:World) (hrows:w.ownsRow b1 192 1 vr lim Vs) (hV:Vs.length=lim) (hVs:∀ i,(h:i<Vs.length)→w.ownsRow base 199 2 Vs[i] (rowM L i).length (Qi (rowM L i)))
 (hP:L.Perm (Qz zs n)) (h1:1≤lim) (h2:lim≤20) (hn2:2≤n) (hn260:n≤260) (hpow:n≤2^lim) :
 Calls Tryz.prog 183 #[vr,.int .i64 n,.int .i64 ((2*n-2:Nat):Int)] w fun e w'=>∃ v,e=.returned v∧w'.ownsRow w.heap.size 3 1 v n (nats n fun s=>lenJ L (lim-1) (2*n-2) (pos L s))∧Below w.heap.size w w':=by
 obtain ⟨j0,ji,jz0,jz1,jz2⟩:=info_parts Tryz.infoInt
 obtain ⟨gr,cr,hvr⟩:=Joins.ownsRow_form hrows (by omega)
 subst hvr
 have hLl:L.length=n:=by rw [hP.length_eq,XY]
 have HLeaf:=Qa (Yf hP)
 have HP:=Qa hP
 have HV:=Qa hV
 have HLl:=Qa hLl
 have HPOW:=Qa hpow
 have HROWS:=Qa hrows
 have HVs:=Qa hVs
 have hgr:=(hrows.lt gr rfl).2
 have HRow:Hid (∀ k,n≤(rowM L k).length∧(rowM L k).length≤2*n):=Qa fun k=>by
  have:=qT L k
  rw [hLl] at this
  refine ⟨?_,this⟩
  cases k with
  | zero=>show n≤L.length;omega
  | succ k=>rw [Jp,hLl];omega
 have HM0:Hid (2*n-2≤(rowM L (lim-1)).length):=Qa (by
  have:=xL L (lim-1) (by rw [hLl,show lim-1+1=lim by omega];exact hpow)
  rw [hLl] at this;exact this)
 obtain ⟨m0,hm0⟩:∃ m,2*n-2=m:=⟨_,rfl⟩
 rw [hm0] at HM0 ⊢
 have hm0n:m0≤2*n:=by omega
 clear hrows hV hVs hP hpow hLl hm0
 go_enter Tryz.func183,Tryz.ntmps183
 go_wp2_with (at_make;refine wpList_make_full _ rfl _ _ 24 rfl w.heap.size 3 j0 (.int .i64 0) 1 Tryz.underlying24 ji jz0 jz1 .i64 .i64 _ _ n rfl rfl rfl rfl ?cb1 ?cb2 ?cb3 ?_)
 case cb1=>rw [jz2];omega
 case cb2=>unfold maxLen;omega
 case cb3=>omega
 intro w5 hown5 hgrow5
 have hb5:Below w.heap.size w w5:=⟨hgrow5.os,hgrow5.tape,hgrow5.output,hgrow5.size,fun i hi=>hgrow5.block i hi (by simp)⟩
 rw [Zl] at hown5
 clear hgrow5
 obtain ⟨go,hgo⟩:∃ go,w.heap.size=go:=⟨_,rfl⟩
 rw [hgo] at hown5 ⊢
 have HGO:=Qa hgo
 have hgrg:gr<go:=by rw [←hgo];exact hgr
 clear hgo
 go_wp2
 go_loopw [2,8] (fun sm sk wx=>∃ (q m:Nat) (O:Nat→Nat),q≤lim∧sk=.int .i64 ((q:Int)-1)∧sm=.int .i64 m∧m≤2*n ∧
  Hid (∀ s,s<n→O s+(if q=0 then 0 else lenJ L (q-1) m (pos L s))=lenJ L (lim-1) m0 (pos L s))∧Hid (0<q→m≤(rowM L (q-1)).length)∧Hid (∀ s,s<n→O s≤40) ∧
  wx.ownsRow go 3 1 (.slice (some ⟨go,0,none⟩) n n) n (nats n O)∧Below go w wx) (fun _ sk _=>(intOf sk+1).toNat)
 case atStart=>exact ⟨lim,m0,fun _=>0,Nat.le_refl _,rfl,rfl,hm0n,Qa (fun s hs=>by show 0+(if lim=0 then 0 else _)=_;rw [if_neg (by omega),Nat.zero_add]),Qa (fun _=>HM0.out),Qa (fun _ _=>Nat.zero_le _),hown5,by rw [←HGO.out];exact hb5⟩
 case round =>
  obtain ⟨q,m,O,hq,rfl,rfl,hm,HO,Hm,HO40,hownO,hblx⟩:=hrel
  clear hown5 hb5
  by_cases hq0:q=0
  ·subst hq0
   have HO2:=HO
   go_wp2
   go_ret
   refine ⟨_,rfl,?_,by rw [HGO.out];exact hblx⟩
   rw [HGO.out,←Qu (f:=O) fun s hs=>by have:=HO.out s hs;simpa using this];exact hownO
  ·obtain ⟨p,rfl⟩:∃ p,q=p+1:=⟨q-1,by omega⟩
   have hpk:p<lim:=by omega
   have hmr:m≤(rowM L p).length:=Hm.out (by omega)
   have hVp:p<Vs.length:=by rw [HV.out];omega
   obtain ⟨V,hVe⟩:∃ V,Vs[p]=V:=⟨_,rfl⟩
   have hV:=HVs.out p hVp
   rw [hVe] at hV
   obtain ⟨r,hr⟩:∃ r,(rowM L p).length=r:=⟨_,rfl⟩
   have hrr:=HRow.out p
   rw [hr] at hrr hV hmr
   obtain ⟨gv,cv,hv⟩:=Joins.ownsRow_form hV (by omega)
   subst hv
   have hgv:=(hV.lt gv rfl).2
   rw [HGO.out] at hgv
   have hrcv:r≤cv:=by
    obtain ⟨a',c',e,h,_⟩:=Vk hV
    simp only [Value.slice.injEq] at e
    omega
   have crow0:=(Ql HROWS.out (by rw [HGO.out];exact hblx)).cellAt p (by omega)
   rw [List.getElem?_eq_getElem hVp,hVe] at crow0
   have HVV:=Qa hV
   have HVE:=Qa hVe
   have HRR:=Qa hr
   have j1:(m:Int)≤(cv:Int):=by omega
   have j2:(0:Int)≤(m:Int):=by omega
   clear hV hVe hr hq0
   go_wp2
   go_loopw [9,28] (fun sp si wy=>∃ (i c:Nat),i≤m∧c≤i∧Hid (c=cntL (rowM L p) i)∧si=.int .i64 i∧sp=.int .i64 ((i-c:Nat):Int) ∧
    wy.ownsRow go 3 1 (.slice (some ⟨go,0,none⟩) n n) n (nats n fun s=>O s+if pos L s<c then 1 else 0)∧Below go w wy) (fun _ si _=>m-(intOf si).toNat)
   case atStart=>exact ⟨0,0,Nat.zero_le _,Nat.le_refl _,Qa rfl,rfl,rfl,by rw [Qu (g:=O) fun s hs=>by rw [if_neg (by omega)];rfl];exact hownO,hblx⟩
   case round =>
    obtain ⟨i,c,hi3,hc3,HC,rfl,rfl,hownY,hblY⟩:=hrel
    have hVY:=Ql HVV.out (by rw [HGO.out];exact hblY)
    have hszY:go≤wr.heap.size:=by have:=hblY.size;rw [HGO.out] at this;exact this
    have hgoY:=(hownY.lt go rfl).2
    by_cases him:i<m
    ·have hir:i<(rowM L p).length:=by rw [HRR.out];omega
     obtain ⟨x,hx⟩:∃ x,(rowM L p)[i]'hir=x:=⟨_,rfl⟩
     have c0:=hVY.cellAt (i*2) (by omega)
     have c1:=hVY.cellAt (i*2+1) (by omega)
     rw [ZJ (rowM L p) i hir,hx] at c0
     rw [XB (rowM L p) i hir,hx] at c1
     have hcs:=zT (rowM L p) i hir
     rw [hx,←HC.out] at hcs
     obtain ⟨x1,x2⟩:=x
     simp only at c0 c1
     by_cases hlf:QR (x1,x2)=true
     ·obtain ⟨hcl,hxe⟩:=AGb L HLeaf.out p i hir (by rw [hx];exact hlf)
      have hxL:(x1,x2)∈L:=by rw [←hx,hxe];exact List.getElem_mem _
      have hxs:=Yo zs n (x1,x2) (HP.out.mem_iff.1 hxL)
      obtain ⟨t,ht⟩:∃ t:Nat,x2=t:=⟨x2.toNat,by have:=hxs.1;simp only at this;omega⟩
      subst ht
      have htn:t<n:=by have:=hxs.2;simp only at this;omega
      have hpos:pos L t=c:=by rw [AEl HP.out _ hcl t (by rw [←hxe,hx]),HC.out]
      rw [if_pos hlf] at hcs
      have d0:=hownY.cellAt t (by omega)
      rw [Qw _ _ _ htn] at d0
      obtain ⟨y,hy⟩:∃ y,O t+(if pos L t<c then 1 else 0)=y:=⟨_,rfl⟩
      have hy2:y=O t:=by rw [←hy,hpos,if_neg (Nat.lt_irrefl _)];rfl
      have hy40:y≤40:=by rw [hy2];exact HO40.out t htn
      rw [hy] at d0
      have f0:=hownY.frozenAt t
      have HCS:=Qa hcs
      have HST:Hid ((nats n fun s=>O s+if pos L s<c then 1 else 0).set t (.int .i64 ((y+1:Nat):Int))=nats n fun s=>O s+if pos L s<c+1 then 1 else 0):=Qa (by
       rw [Zb]
       refine Qu fun s hs=>?_
       by_cases e:s=t
       ·subst e;rw [if_pos rfl,if_pos (by omega),hy2]
       ·rw [if_neg e]
        have hne:pos L s≠c:=by
         intro hc
         have h1:=qo HP.out s hs
         have h2:=qo HP.out t htn
         simp only [hc] at h1
         simp only [hpos] at h2
         rw [h1] at h2
         exact e (by exact_mod_cast h2)
        congr 1
        by_cases h:pos L s<c
        ·rw [if_pos h,if_pos (by omega)]
        ·rw [if_neg h,if_neg (by omega)])
      have k1:((t:Int) == -1)=false:=by rw [beq_eq_false_iff_ne];omega
      clear hx hxe hxL hxs hpos hcs hy hy2 hlf hcl hir
      go_wp2
      go_roundw
      case rel=>exact ⟨i+1,c+1,by omega,by omega,Qa (by rw [HCS.out]),by go_num,by rw [Nat.add_sub_add_right],by
       have:=(hownY.stored t (.int .i64 ((y+1:Nat):Int))).1
       rw [HST.out] at this
       exact (by simpa using this:World.ownsRow _ _ _ _ _ _ _).alloc _,(hblY.setCell (Nat.le_refl _) _).alloc (by simpa using hszY) _⟩
      case measure=>simp [intOf];omega
     ·have hx2:x2=-1:=by
       rcases ABy L p (x1,x2) (by rw [←hx];exact List.getElem_mem _) with h | h
       ·exact h
       ·exact absurd (HLeaf.out _ h) hlf
      rw [if_neg hlf] at hcs
      subst hx2
      have HCS:=Qa hcs
      clear hx hcs hlf hir
      go_wp2
      go_roundw
      case rel=>exact ⟨i+1,c,by omega,by omega,Qa HCS.out.symm,by go_num,by rw [show ((i+1-c:Nat):Int)=((i-c:Nat):Int)+1 by omega],hownY.alloc _,hblY.alloc hszY _⟩
      case measure=>simp [intOf];omega
    ·have hime:i=m:=by omega
     subst hime
     have HN2:Hid (∀ s,s<n→(O s+if pos L s<c then 1 else 0)+(if p=0 then 0 else lenJ L (p-1) (2*(i-c)) (pos L s))=lenJ L (lim-1) m0 (pos L s)):=Qa (by
      intro s hs
      have:=HO.out s hs
      rw [if_neg (by omega),Nat.add_sub_cancel,AFm,←HC.out] at this
      omega)
     have HM2':Hid (0<p→2*(i-c)≤(rowM L (p-1)).length):=Qa (by
      intro hp
      obtain ⟨p',rfl⟩:∃ p',p=p'+1:=⟨p-1,by omega⟩
      rw [HC.out]
      exact YO L HLeaf.out p' i (by rw [HRR.out];exact hmr))
     have H40:Hid (∀ s,s<n→(O s+if pos L s<c then 1 else 0)≤40):=Qa (by
      intro s hs
      have:=HN2.out s hs
      have h2:=vS L (lim-1) m0 (pos L s)
      omega)
     have H2n:Hid (2*(i-c)≤2*n):=Qa (by
      rcases Nat.eq_zero_or_pos p with h0 | h0
      ·subst h0
       have:cntL (rowM L 0) i=i:=Jr L HLeaf.out i (by have h9:=HRR.out;rw [show (rowM L 0).length=L.length from rfl] at h9;omega)
       rw [HC.out,this];omega
      ·have h8:=HM2'.out h0
       have h9:=(HRow.out (p-1)).2
       omega)
     go_wp2
     refine ⟨⟨p,2*(i-c),_,by omega,rfl,?_,H2n.out,HN2,HM2',H40,hownY,hblY⟩,?_⟩
     ·rw [Int.natCast_mul];rfl
     ·show ((p:Int)-1+1).toNat<(((p+1:Nat):Int)-1+1).toNat
      omega
theorem AEu (a:Option Addr) (cap B lim:Nat) (zs:List Int) (w:World) (hz:Ints w B a zs) (hB:B≤w.heap.size) (hf:fOk zs=true) (h1:1≤lim) (h2:lim≤20) (hn2:2≤zs.length) (hpow:zs.length≤2^lim) :
 Calls Tryz.prog 160 #[.slice a zs.length cap,.int .i64 lim] w fun e w'=>∃ v,e=.returned (.tuple #[v,.bool true]) ∧
  w'.ownsRow w.heap.size 3 1 v zs.length (Qo (Zj zs lim))∧Below w.heap.size w w':=by
 have hfr:=(Xs zs).1 hf
 have HEQ:=Qa (va (XE zs) (Yj zs) hn2 lim)
 have hLp:=XE zs
 obtain ⟨n,hn⟩:∃ n,zs.length=n:=⟨_,rfl⟩
 have hn260:n≤260:=by rw [←hn];exact hfr.2.1
 have K1:=Qa (VK a cap B zs w hz)
 have K2:=Qa (ACh a cap B zs w hz hB hfr.2.1 hfr.2.2)
 rw [hf] at K1
 rw [hn] at hn2 hpow hLp K1 K2 HEQ ⊢
 have hLl:(ZW zs).length=n:=by rw [hLp.length_eq,XY]
 have hLb:∀ x∈ZW zs,x.1≤1000000:=by
  intro x hx
  have:=hLp.mem_iff.1 hx
  simp only [Qz,List.mem_map,List.mem_range] at this
  obtain ⟨i,hi2,rfl⟩:=this
  have hr:=hfr.2.2 i (by rw [hn];exact hi2)
  rcases AGq (zs.getD i 0) hr.2 with h | h
  ·exact h.2
  ·omega
 have hbd:∀ k,k≤19→∀ x∈rowM (ZW zs) k,x.1≤1099511627776:=by
  intro k hk x hx
  have:=ACa (ZW zs) hLb k x hx
  have h19:2^k≤2^19:=Nat.pow_le_pow_right (by omega) hk
  have:1000000*2^k≤1000000*2^19:=Nat.mul_le_mul_left _ h19
  omega
 have K3:=Qa (fun (W:World) (v:Value) (h:W.ownsRow w.heap.size 199 2 v n (Qi (ZW zs))) (hb:w.heap.size≤W.heap.size)=>AHq v w.heap.size n lim (ZW zs) W h hb hLl (by omega) hn260 h1 h2 hbd)
 have K4:=Qa (fun (W:World) (vr:Value) (b1:Nat) (Vs:List Value) (h:W.ownsRow b1 192 1 vr lim Vs) (hV:Vs.length=lim) (hVs:∀ i,(h:i<Vs.length)→W.ownsRow w.heap.size 199 2 Vs[i] (rowM (ZW zs) i).length (Qi (rowM (ZW zs) i)))=>ADm vr w.heap.size b1 n lim zs (ZW zs) Vs W h hV hVs hLp h1 h2 hn2 hn260 hpow)
 have H2n:Hid ((2:Int)*(n:Int)-2=((2*n-2:Nat):Int)):=Qa (by omega)
 rw [HEQ.out] at K4
 have hM:2^lim≤2^20:=Nat.pow_le_pow_right (by omega) h2
 obtain ⟨M,hMe⟩:∃ M,2^lim=M:=⟨_,rfl⟩
 have hMI:wrap64 (2^lim)=(M:Int):=by rw [show ((2:Int)^lim)=((2^lim:Nat):Int) by simp,hMe];exact QT _ (by omega)
 rw [hMe] at hpow hM
 clear hf hfr hn hz hMe hLp hLl hLb hbd
 have g1:¬ (M:Int)<(n:Int):=by omega
 have g2:((n:Int) == 1)=false:=by rw [beq_eq_false_iff_ne];omega
 go_enter Tryz.func160,Tryz.ntmps160
 go_wp2_with fail
 refine K1.out.mono ?_
 rintro e w' ⟨rfl,rfl⟩
 go_wp2_with fail
 refine K2.out.mono ?_
 rintro e w1 ⟨vL,rfl,own1,b1⟩
 clear hMI hM hpow g1
 go_wp2_with fail
 refine (K3.out _ _ own1 b1.size).mono ?_
 rintro e w2 ⟨vr,Vs,rfl,own2,hVl,hVs,b2⟩
 have bb2:=Qc b2 b1.size b1
 have HVl:=Qa hVl
 have HVs:=Qa hVs
 clear hVl hVs own1 b1 b2
 go_wp2_with fail
 rw [H2n.out]
 refine (K4.out _ _ _ _ own2 HVl.out HVs.out).mono ?_
 rintro e w3 ⟨v3,rfl,own3,b3⟩
 have bb3:=Qc b3 bb2.size bb2
 have own3':=Joins.ownsRow_le own3 bb2.size
 clear own2 own3 b3
 go_wp2
 refine bodyPost_ret (v:=.tuple #[v3,.bool true]) (by simp [results,Tryz.results160,go_sem]) rfl ⟨_,rfl,own3',bb3⟩
theorem AGf (a:Option Addr) (cap B lim:Nat) (zs:List Int) (w:World) (hz:Ints w B a zs) (hB:B≤w.heap.size) (hf:fOk zs=true) (h1:1≤lim) (h2:lim≤20) (hn1:zs.length=1) :
 Calls Tryz.prog 160 #[.slice a zs.length cap,.int .i64 lim] w fun e w'=>e=.returned (.tuple #[.slice (some ⟨w.heap.size,0,none⟩) 1 1,.bool true])∧w'=w.alloc (.cells #[.int .i64 1] 3):=by
 have K1:=Qa (VK a cap B zs w hz)
 rw [hf] at K1
 have hM:2^lim≤2^20:=Nat.pow_le_pow_right (by omega) h2
 have hM0:2^1≤2^lim:=Nat.pow_le_pow_right (by omega) h1
 obtain ⟨M,hMe⟩:∃ M,2^lim=M:=⟨_,rfl⟩
 have hMI:wrap64 (2^lim)=(M:Int):=by rw [show ((2:Int)^lim)=((2^lim:Nat):Int) by simp,hMe];exact QT _ (by omega)
 rw [hMe] at hM hM0
 rw [hn1] at K1 ⊢
 clear hz hf hMe hn1
 go_enter Tryz.func160,Tryz.ntmps160
 go_wp2_with fail
 refine K1.out.mono ?_
 rintro e w' ⟨rfl,rfl⟩
 go_wp2
 refine bodyPost_ret (v:=.tuple #[.slice (some ⟨w'.heap.size,0,none⟩) 1 1,.bool true]) (by simp [results,Tryz.results160,go_sem]) rfl ⟨rfl,rfl⟩
theorem AXs:AYd:=fun a cap B lim zs w hz hB h=>by
 obtain ⟨hf,h1,h20,hp⟩:=h
 rw [Int.toNat_natCast] at hp
 have hn:=(Xs zs).1 hf
 by_cases e1:zs.length=1
 ·refine (AGf a cap B lim zs w hz hB hf (by omega) (by omega) e1).mono ?_
  rintro e w' ⟨rfl,rfl⟩
  refine ⟨_,rfl,?_,(Below.refl _ _).alloc (Nat.le_refl _) _⟩
  have e2:Zj zs lim=[1]:=by unfold Zj;rw [if_pos e1]
  rw [e2,e1]
  exact World.ownsRow_lit w #[.int .i64 1] 1 (Nat.le_refl _) (by decide) rfl
 ·exact AEu a cap B lim zs w hz hB hf (by omega) (by omega) (by omega) hp
end Go.Proofs.YtembljihmnmmfaaGreat
