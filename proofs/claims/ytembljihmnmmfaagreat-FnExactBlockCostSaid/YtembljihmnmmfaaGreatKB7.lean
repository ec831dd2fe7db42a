/- Texts of the proof, merged. -/
import Derived.WalkLawsBesides
import Derived.Test.YtembljihmnmmfaaGreatKB3
import Derived.Test.YtembljihmnmmfaaGreatKB6
import Derived.Maps.AppendAt
import Derived.Test.YtembljihmnmmfaaGreatKB2
import Derived.Test.YtembljihmnmmfaaGreatKB1
set_option maxHeartbeats 4000000
set_option maxRecDepth 100000
namespace Go.Proofs.YtembljihmnmmfaaGreat
set_option linter.unusedVariables false
set_option linter.unusedSimpArgs false
open Go.RowKit
theorem Tryz.infoItem:(Tryz.prog.info? 187).map (fun i=>(i.zero,i.size,i.bytes))=some (some (.agg #[.int .i64 0,.int .i64 0]),2,16):=by kernel_rfl
theorem JX {w:World} {g:Nat} {T:TypeId} {x y:Value} (h:Has w g T #[x,y]):∀ (j:Nat) (u:Value),[x,y][j]? = some u→w.cell? ((⟨g,0,none⟩:Addr).add j)=some u:=by
 intro j u hu
 have e:(⟨g,0,none⟩:Addr).add j=⟨g,j,none⟩:=by unfold Addr.add;split <;> simp_all
 rw [e,h.cell j]
 simpa using hu
theorem YM (x y:Int):∀ u∈[Value.int .i64 x,Value.int .i64 y],u.oneCell'=true:=by
 intro u hu
 simp only [List.mem_cons,List.not_mem_nil,or_false] at hu
 rcases hu with rfl | rfl <;> rfl
theorem Vq {w:World} {base g n cap:Nat} {E:TypeId} {D:List Item} (h:w.ownsRow base E 2 (.slice (some ⟨g,0,none⟩) n cap) n (Qi D)) (nq q:Nat) (x:Item) :
 (((w.drewN nq).setCell ⟨g,q*2,none⟩ (.int .i64 (x.1:Int))).setCell ⟨g,q*2+1,none⟩ (.int .i64 x.2)).ownsRow base E 2 (.slice (some ⟨g,0,none⟩) n cap) n (Qi (D.set q x)):=by
 rw [ANd]
 have h':(w.drewN nq).ownsRow base E 2 (.slice (some ⟨g,0,none⟩) n cap) n (Qi D):=h
 exact ((h'.stored _ _).1.stored _ _).1
theorem AAp {D L:List Item} {q:Nat} (x:Item) (hq:q<D.length) (h1:D.take q=L.take q) (h2:D.drop (q+1)=L.drop q):D.set q x=L.take q++x::L.drop q:=by
 rw [List.set_eq_take_append_cons_drop,if_pos hq,h1,h2]
theorem AYt {D L:List Item} {p W:Nat} (hq:p+1<D.length) (h1:D.take (p+1)=L.take (p+1)) (h2:D.drop (p+1+1)=L.drop (p+1)) (h3:∀ x∈L.drop (p+1),W<x.1) (hpL:p<L.length) (hW:W<(D[p]'(by omega)).1) :
 (D.set (p+1) (D[p]'(by omega))).take p=L.take p∧(D.set (p+1) (D[p]'(by omega))).drop (p+1)=L.drop p∧∀ x∈L.drop p,W<x.1:=by
 have e:D[p]'(by omega)=L[p]:=by
  have g1:(D.take (p+1))[p]'(by rw [List.length_take];omega)=D[p]'(by omega):=List.getElem_take
  have g2:(L.take (p+1))[p]'(by rw [List.length_take];omega)=L[p]:=List.getElem_take
  rw [←g1,←g2];congr 1
 have e2:L.drop p=L[p]::L.drop (p+1):=(List.getElem_cons_drop (h:=hpL)).symm
 refine ⟨?_,?_,?_⟩
 ·rw [List.take_set_of_le (by omega)]
  have:=congrArg (List.take p) h1
  rwa [List.take_take,List.take_take,Nat.min_eq_left (by omega)] at this
 ·rw [List.set_eq_take_append_cons_drop,if_pos hq,List.drop_append_of_le_length (by rw [List.length_take];omega),List.drop_eq_nil_of_le (by rw [List.length_take];omega),List.nil_append,h2,e,e2]
 ·rw [e2]
  intro x hx
  rcases List.mem_cons.1 hx with rfl | hx
  ·rw [←e];exact hW
  ·exact h3 x hx
theorem APz (R:List Item) (hs:Sorted (wts R)) (h:0<R.length):∀ z∈R,z.1≤(R[R.length-1]'(by omega)).1:=by
 intro z hz
 obtain ⟨i,hi,rfl⟩:=List.getElem_of_mem hz
 rcases Nat.lt_or_ge i (R.length-1) with hlt | hge
 ·unfold Sorted wts at hs
  rw [List.pairwise_map] at hs
  exact List.pairwise_iff_getElem.1 hs i (R.length-1) hi (by omega) hlt
 ·have:i=R.length-1:=by omega
  subst this;exact Nat.le_refl _
theorem AGu (x:Int) (w:World) (h0:0≤x) (h1:x≤1000000) :
 Calls Tryz.prog 194 #[.int .i64 x] w fun e w'=>e=.returned (.int .i64 (wgt x))∧w'=w:=by
 by_cases h:x=0
 ·subst h
  go_enter Tryz.func194,Tryz.ntmps194
  go_wp2
  go_ret
  exact ⟨rfl,rfl⟩
 ·have hb:(x == 0)=false:=by simp [h]
  have HW:Hid ((wgt x:Int)=x):=Qa (by unfold wgt;rw [if_neg h];omega)
  clear h
  go_enter Tryz.func194,Tryz.ntmps194
  go_wp2
  go_ret
  exact ⟨QN HW.out.symm,rfl⟩
theorem AGq (x:Int) (h1:x≤1000000):1≤wgt x∧wgt x≤1000000∨x<0:=by
 unfold wgt
 by_cases h:x=0
 ·rw [if_pos h];omega
 ·rw [if_neg h];omega
theorem AEz (a:Option Addr) (cap B:Nat) (zs:List Int) (w:World) (hz:Ints w B a zs) (hB:B≤w.heap.size) (hlen:zs.length≤260) (hr:∀ k,k<zs.length→0≤zs.getD k 0∧zs.getD k 0≤1000000) :
 Calls Tryz.prog 178 #[.slice a zs.length cap] w fun e w'=>∃ v L,e=.returned v∧L.Perm (Qz zs zs.length)∧LexS L∧w'.ownsRow w.heap.size 187 2 v zs.length (Qi L)∧Below w.heap.size w w':=by
 obtain ⟨i0,hi,hz0,hz1,hz2⟩:=info_parts Tryz.infoItem
 obtain ⟨n,hn⟩:∃ n,zs.length=n:=⟨_,rfl⟩
 have HN:=Qa hn
 have HR:=Qa hr
 have hzz:=Qa hz
 rw [hn] at hlen ⊢
 clear hn hr hz
 go_enter Tryz.func178,Tryz.ntmps178
 go_wp2
 go_loopw [3,4] (fun v i wr=>∃ (k:Nat) (L:List Item),k≤n∧i=.int .i64 k∧Hid (L.Perm (Qz zs k))∧Hid (LexS L)∧Hid (L.length=k)∧wr.ownsRow w.heap.size 187 2 v k (Qi L)∧Below w.heap.size w wr) (fun _ i _=>n-(intOf i).toNat)
 case atStart=>exact ⟨0,[],Nat.zero_le _,rfl,Qa (List.Perm.refl _),Qa List.Pairwise.nil,Qa rfl,World.ownsRow_nil _ _ _ _,Below.refl _ _⟩
 case round =>
  obtain ⟨k,L,hk,rfl,HP,HS,HL,hown,hbl⟩:=hrel
  have hsz:=hbl.size
  have hlen3:∀ W:World,(Builtin.len_ #[182] 3 #[u3]).run Tryz.prog W=.ok (.int .i64 (k:Int)) W:=fun W=>by
   obtain ⟨a3,c3,rfl⟩:=Qq hown
   simp [go_sem,Builtin.len_]
  by_cases hlt:k<n
  ·have hzr:=hzz.out.below (hbl.mono hB)
   obtain ⟨b,off,rfl,hb,hc⟩:=hzr.2.2 (by rw [HN.out];omega)
   have ck:=hc k (by rw [HN.out];exact hlt)
   have hxr:=HR.out k (by rw [HN.out];exact hlt)
   obtain ⟨x,hx⟩:∃ x,zs.getD k 0=x:=⟨_,rfl⟩
   rw [hx] at ck hxr
   have HX:=Qa hx
   obtain ⟨W,hW⟩:∃ W,wgt x=W:=⟨_,rfl⟩
   have hW2:1≤W∧W≤1000000:=by rcases AGq x hxr.2 with h | h <;> omega
   have HW:=Qa hW
   clear hx hzr hc
   go_wp2_with fail
   refine (AGu x _ hxr.1 hxr.2).mono ?_
   rintro e w' ⟨rfl,rfl⟩
   rw [hW]
   have hX:=(Has.fresh w' 187 #[.int .i64 (W:Int),.int .i64 (k:Int)]).alloc (.cells #[.int .i64 (W:Int),.int .i64 (k:Int)] 187)
   go_wp2_with (at_builtin;(refine wpList_append_own_at _ rfl _ _ 182 rfl w.heap.size 187 i0 (.agg #[.int .i64 0,.int .i64 0]) 2 16 Tryz.underlying182 hi hz0 hz1 hz2 rfl (by decide) _ _ _ rfl ((hown.alloc _).alloc _) ⟨w'.heap.size+1,0,none⟩ 1 1 [.int .i64 (W:Int),.int .i64 (k:Int)] rfl rfl ?c1 ?c2 ?c3 ?c4 ?c5 ?_))
   case c1=>exact JX (g:=w'.heap.size+1) (Has.freshAt (w:=w'.alloc (.cells #[.int .i64 (W:Int),.int .i64 (k:Int)] 187)) (g:=w'.heap.size+1) (by simp) _ _)
   case c2=>exact YM _ _
   case c3=>unfold maxLen;omega
   case c4=>omega
   case c5=>simp;omega
   intro v' w3 hown' hgrow _ hat
   have hown3:w3.ownsRow w.heap.size 187 2 v' (k+1) (Qi (L++[(W,(k:Int))])):=by rw [QQ];exact hown'
   have hneX:u3.ownBlock≠some w'.heap.size:=fun e=>by have:=(hown.lt _ e).2;omega
   have hX3:=hX.grown hgrow (fun e=>hneX e.symm)
   have hbl3:Below w.heap.size w w3:=((hbl.alloc (by omega) _).alloc (by simp;omega) _).grown hgrow (by simp;omega) (fun b hb=>(hown.lt b hb).1)
   obtain ⟨gd,cp,hv'⟩:=Joins.ownsRow_form hown3 (by omega)
   subst hv'
   have hgd:=hown3.lt gd rfl
   have hgdX:gd≠w'.heap.size:=by
    rcases hat with h | h
    ·intro e;subst e;exact hneX h.symm
    ·have h2:gd=w'.heap.size+1+1:=by simpa [Value.ownBlock] using h
     omega
   clear hown' hgrow hX hlen3 hown ck hbl
   go_wp2
   go_loopw [6] (fun s6 wx=>∃ (q:Nat) (D:List Item),q≤k∧s6=.int .i64 q∧Hid (D.length=k+1)∧Hid (D.take q=L.take q∧D.drop (q+1)=L.drop q∧∀ x∈L.drop q,W<x.1)∧wx.ownsRow w.heap.size 187 2 (.slice (some ⟨gd,0,none⟩) (k+1) cp) (k+1) (Qi D)∧Has wx w'.heap.size 187 #[.int .i64 (W:Int),.int .i64 (k:Int)]∧Below w.heap.size w wx) (fun s6 _=>(intOf s6).toNat)
   case atStart=>exact ⟨k,L++[(W,(k:Int))],Nat.le_refl _,rfl,Qa (by simp [HL.out]),Qa ⟨by rw [←HL.out];simp,by rw [←HL.out];simp,by rw [←HL.out];simp⟩,hown3,hX3,hbl3⟩
   case round =>
    obtain ⟨q,D,hq,rfl,HDl,HD,hownD,hXD,hblD⟩:=hrel
    have x0:=hXD.cell 0
    have x1:=hXD.cell 1
    simp at x0 x1
    obtain ⟨q0,hq0⟩:∃ y,D[q]'(by rw [HDl.out];omega)=y:=⟨_,rfl⟩
    have d0:=hownD.cellAt (q*2) (by omega)
    have d1:=hownD.cellAt (q*2+1) (by omega)
    rw [ZJ D q (by rw [HDl.out];omega),hq0] at d0
    rw [XB D q (by rw [HDl.out];omega),hq0] at d1
    have f0:=hownD.frozenAt (q*2)
    have f1:=hownD.frozenAt (q*2+1)
    have HQ0:=Qa hq0
    clear hq0
    by_cases hz0:q=0
    ·subst hz0
     go_wp2
     go_quiet (fail)
     go_wp2
     have hs:=AAp (q:=0) (W,(k:Int)) (by rw [HDl.out];omega) HD.out.1 HD.out.2.1
     have hin:=AKg (zs:=zs) (k:=k) HP.out HS.out 0 (Nat.zero_le _) (by simp) (by rw [HX.out,HW.out];exact HD.out.2.2)
     rw [HX.out,HW.out,←hs] at hin
     refine ⟨⟨k+1,D.set 0 (W,(k:Int)),by omega,by go_num,Qa hin.1,Qa hin.2,Qa (by rw [List.length_set,HDl.out]),?_,?_⟩,by simp [intOf];omega⟩
     ·simpa using Vq hownD nq 0 (W,(k:Int))
     ·exact (Below.setCell (Below.setCell (Zy hblD nq) hgd.1 _) hgd.1 _)
    ·obtain ⟨p,rfl⟩:∃ p,q=p+1:=⟨q-1,by omega⟩
     obtain ⟨y,hy⟩:∃ y,D[p]'(by rw [HDl.out];omega)=y:=⟨_,rfl⟩
     have e0:=hownD.cellAt (p*2) (by omega)
     have e1:=hownD.cellAt (p*2+1) (by omega)
     rw [ZJ D p (by rw [HDl.out];omega),hy] at e0
     rw [XB D p (by rw [HDl.out];omega),hy] at e1
     have HY:=Qa hy
     obtain ⟨y1,y2⟩:=y
     simp only at e0 e1
     clear hy hz0
     by_cases hgt:W<y1
     ·go_wp2
      go_quiet (fail)
      go_wp2
      have hmv:=AYt (W:=W) (by rw [HDl.out];omega) HD.out.1 HD.out.2.1 HD.out.2.2 (by rw [HL.out];omega) (by rw [HY.out];exact hgt)
      rw [HY.out] at hmv
      refine ⟨⟨p,D.set (p+1) (y1,y2),by omega,rfl,Qa (by rw [List.length_set,HDl.out]),Qa hmv,Vq hownD nq (p+1) (y1,y2),?_,?_⟩,by simp [intOf]⟩
      ·exact (((hXD.drewN nq).storeAway (p:=⟨gd,(p+1)*2,none⟩) (fun e=>hgdX e.symm) _).storeAway (p:=⟨gd,(p+1)*2+1,none⟩) (fun e=>hgdX e.symm) _)
      ·exact (Below.setCell (Below.setCell (Zy hblD nq) hgd.1 _) hgd.1 _)
     ·go_wp2
      go_quiet (fail)
      go_wp2
      have hs:=AAp (q:=p+1) (W,(k:Int)) (by rw [HDl.out];omega) HD.out.1 HD.out.2.1
      have hle:∀ z∈L.take (p+1),z.1≤W:=by
       rw [←HD.out.1]
       have hsrt:Sorted (wts (D.take (p+1))):=by rw [HD.out.1,ATp];exact List.Pairwise.sublist (List.take_sublist _ _) HS.out.sorted
       intro z hz
       have:=APz (D.take (p+1)) hsrt (by rw [List.length_take,HDl.out];omega) z hz
       have e:(D.take (p+1))[p]'(by rw [List.length_take,HDl.out];omega)=(y1,y2):=by rw [List.getElem_take];exact HY.out
       have hl2:(D.take (p+1)).length=p+1:=by rw [List.length_take,HDl.out];omega
       simp only [hl2,Nat.add_sub_cancel] at this
       rw [e] at this
       simp only at this
       omega
      have hin:=AKg (zs:=zs) (k:=k) HP.out HS.out (p+1) (by rw [HL.out];omega) (by rw [HX.out,HW.out];exact hle) (by rw [HX.out,HW.out];exact HD.out.2.2)
      rw [HX.out,HW.out,←hs] at hin
      refine ⟨⟨k+1,D.set (p+1) (W,(k:Int)),by omega,by go_num,Qa hin.1,Qa hin.2,Qa (by rw [List.length_set,HDl.out]),Vq hownD nq (p+1) (W,(k:Int)),?_⟩,by simp [intOf];omega⟩
      exact (Below.setCell (Below.setCell (Zy hblD nq) hgd.1 _) hgd.1 _)
  ·go_wp2
   go_ret
   have e:k=n:=by omega
   subst e
   exact ⟨_,L,rfl,HP.out,HS.out,hown,hbl⟩
theorem ABx (R:List Item) (p:Nat) (h:2*p+1<R.length):(packs R).drop p=(R[2*p].1+R[2*p+1].1)::(packs R).drop (p+1):=by
 induction R using packs.induct generalizing p with
 | case1 a b r ih =>
   cases p with
   | zero=>simp [packs]
   | succ p =>
     have:=ih p (by simp only [List.length_cons] at h;omega)
     simp only [packs,List.drop_succ_cons]
     rw [this]
     have e1:(a::b::r)[2*(p+1)]=r[2*p]'(by simp only [List.length_cons] at h;omega):=by
      simp only [show 2*(p+1)=2*p+1+1 by omega,List.getElem_cons_succ]
     have e2:(a::b::r)[2*(p+1)+1]=r[2*p+1]'(by simp only [List.length_cons] at h;omega):=by
      simp only [show 2*(p+1)+1=2*p+1+1+1 by omega,List.getElem_cons_succ]
     rw [e1,e2]
 | case2 r h2=>cases r with
   | nil=>simp at h
   | cons a r=>cases r with
     | nil=>simp at h
     | cons b r=>exact absurd rfl (h2 a b r)
theorem AOf (R:List Item) (p:Nat) (h:R.length≤2*p+1):(packs R).drop p=[]:=List.drop_eq_nil_of_le (by rw [Jt];omega)
theorem AMj (L:List Item) (k p0:Nat) (P:List Nat) (hk:k<L.length) (h:L[k].1≤p0):Qn (L.drop k) (p0::P)=L[k]::Qn (L.drop (k+1)) (p0::P):=by
 rw [←List.getElem_cons_drop (h:=hk),Qn,if_pos h]
theorem yq (L:List Item) (k p0:Nat) (P:List Nat) (h:∀ hk:k<L.length,p0<L[k].1):Qn (L.drop k) (p0::P)=(p0,-1)::Qn (L.drop k) P:=by
 rcases Nat.lt_or_ge k L.length with hk | hk
 ·rw [←List.getElem_cons_drop (h:=hk),Qn,if_neg (by have:=h hk;omega)]
 ·rw [List.drop_eq_nil_of_le hk,Qn]
theorem APb (L:List Item):Qn L []=L:=by cases L <;> rw [Qn]
theorem js (L:List Item) (k:Nat):Qi (L.drop k)=(Qi L).drop (k*2):=by
 induction k generalizing L with
 | zero=>rfl
 | succ k ih=>cases L with
   | nil=>simp [Qi]
   | cons x L=>rw [show (k+1)*2=k*2+1+1 by omega];simp only [List.drop_succ_cons,Qi];exact ih L
theorem ARq {w:World} {base g n c:Nat} {E:TypeId} {L:List Item} (h:w.ownsRow base E 2 (.slice (some ⟨g,0,none⟩) n c) n (Qi L)) (k:Nat):∀ (j:Nat) (u:Value),(Qi (L.drop k))[j]? = some u→w.cell? ((⟨g,k*2,none⟩:Addr).add j)=some u:=by
 intro j u hu
 have e:(⟨g,k*2,none⟩:Addr).add j=⟨g,k*2+j,none⟩:=by unfold Addr.add;split <;> simp_all
 rw [js,List.getElem?_drop] at hu
 have hl:=h.1
 have hj:k*2+j<n*2:=by
  rw [←hl];exact (List.getElem?_eq_some_iff.1 hu).1
 rw [e,h.cellAt _ hj,hu]
theorem ALo (v1 v2:Value) (base n r:Nat) (L R:List Item) (w:World) (hn:L.length=n) (hr:R.length=r) (h1:w.ownsRow base 187 2 v1 n (Qi L)) (h2:w.ownsRow base 187 2 v2 r (Qi R))
 (hn0:0<n) (hr0:0<r) (hn2:n≤260) (hr2:r≤520) (hw:∀ x∈R,x.1≤1099511627776) (hwL:∀ x∈L,x.1≤1099511627776) :
 Calls Tryz.prog 179 #[v1,v2] w fun e w'=>∃ v,e=.returned v∧w'.ownsRow w.heap.size 187 2 v (n+r / 2) (Qi (Qn L (packs R)))∧Below w.heap.size w w':=by
 obtain ⟨i0,hi,hz0,hz1,hz2⟩:=info_parts Tryz.infoItem
 obtain ⟨g1,c1,hv1⟩:=Joins.ownsRow_form h1 hn0
 obtain ⟨g2,c2,hv2⟩:=Joins.ownsRow_form h2 hr0
 subst hv1 hv2
 have H1:=Qa h1
 have H2:=Qa h2
 have hg1:=(h1.lt g1 rfl).2
 have hc1:n≤c1:=by
  rcases h1.2 with ⟨h,_⟩ | ⟨g,cap,cur,h,_,_,h5,_⟩
  ·cases h
  ·simp only [Value.slice.injEq] at h;omega
 have HNL:=Qa hn
 have HRL:=Qa hr
 have HW:=Qa hw
 have HWL:=Qa hwL
 clear hn hr hw hwL h1 h2
 go_enter Tryz.func179,Tryz.ntmps179
 go_wp2
 go_loopw [5,6,7] (fun vo sk si wr=>∃ (p k:Nat) (O:List Item),2*p≤r∧k≤n∧si=.int .i64 (2*(p:Int))∧sk=.int .i64 k∧Hid (O++Qn (L.drop k) ((packs R).drop p)=Qn L (packs R))∧Hid (O.length=k+p)∧wr.ownsRow w.heap.size 187 2 vo (k+p) (Qi O)∧Below w.heap.size w wr) (fun _ _ si _=>r-(intOf si).toNat)
 case atStart=>exact ⟨0,0,[],by omega,by omega,rfl,rfl,Qa (by simp),Qa rfl,World.ownsRow_nil _ _ _ _,Below.refl _ _⟩
 case round =>
  obtain ⟨p,k,O,hp,hk,rfl,rfl,HO,HOl,hown,hbl⟩:=hrel
  have hsz:=hbl.size
  have hR:=Ql H2.out hbl
  have hL:=Ql H1.out hbl
  by_cases hlt:2*p+1<r
  ·obtain ⟨x,hx⟩:∃ x,R[2*p]'(by rw [HRL.out];omega)=x:=⟨_,rfl⟩
   obtain ⟨y,hy⟩:∃ y,R[2*p+1]'(by rw [HRL.out];omega)=y:=⟨_,rfl⟩
   have c0:=hR.cellAt (2*p*2) (by omega)
   have c1':=hR.cellAt ((2*p+1)*2) (by omega)
   rw [ZJ R (2*p) (by rw [HRL.out];omega),hx] at c0
   rw [ZJ R (2*p+1) (by rw [HRL.out];omega),hy] at c1'
   have hxm:=HW.out x (by rw [←hx];exact List.getElem_mem _)
   have hym:=HW.out y (by rw [←hy];exact List.getElem_mem _)
   have HP:Hid ((packs R).drop p=(x.1+y.1)::(packs R).drop (p+1)):=Qa (by rw [ABx R p (by rw [HRL.out];exact hlt),hx,hy])
   obtain ⟨x1,x2⟩:=x
   obtain ⟨y1,y2⟩:=y
   simp only at c0 c1' hxm hym HP
   clear hx hy
   have hltI:2*(p:Int)+1<(r:Int):=by omega
   go_wp2
   go_quiet (fail)
   go_wp2
   have hbl2:=Zy hbl nq
   have hown2:(wr.drewN nq).ownsRow w.heap.size 187 2 u5 (k+p) (Qi O):=hown
   rw [HP.out] at HO
   obtain ⟨p0,hp0⟩:∃ p0:Nat,x1+y1=p0:=⟨_,rfl⟩
   have hp0I:(x1:Int)+(y1:Int)=(p0:Int):=by omega
   rw [hp0] at HO
   rw [hp0I]
   have hp0b:p0≤2199023255552:=by omega
   clear hR hL c0 c1' hown hbl hp0 hp0I HP hxm hym
   generalize wr.drewN nq=ws at hbl2 hown2 ⊢
   go_loopw [5,6] (fun vo sk wx=>∃ (k':Nat) (O':List Item),k≤k'∧k'≤n∧sk=.int .i64 k'∧Hid (O'++Qn (L.drop k') (p0::(packs R).drop (p+1))=Qn L (packs R))∧Hid (O'.length=k'+p)∧wx.ownsRow w.heap.size 187 2 vo (k'+p) (Qi O')∧Below w.heap.size w wx) (fun _ sk _=>n-(intOf sk).toNat)
   case atStart=>exact ⟨k,O,Nat.le_refl _,hk,rfl,HO,HOl,hown2,hbl2⟩
   case round =>
    obtain ⟨k',O',hkk,hk',rfl,HO',HOl',hown',hbl'⟩:=hrel
    have hL:=Ql H1.out hbl'
    have hsz':=hbl'.size
    by_cases hin:k'<n
    ·obtain ⟨z,hz⟩:∃ z,L[k']'(by rw [HNL.out];exact hin)=z:=⟨_,rfl⟩
     have a0:=hL.cellAt (k'*2) (by omega)
     have a1:=hL.cellAt (k'*2+1) (by omega)
     rw [ZJ L k' (by rw [HNL.out];exact hin),hz] at a0
     rw [XB L k' (by rw [HNL.out];exact hin),hz] at a1
     have HZ:=Qa hz
     obtain ⟨z1,z2⟩:=z
     simp only at a0 a1
     clear hz
     by_cases hle:z1≤p0
     ·have HM:Hid ((O'++[(z1,z2)])++Qn (L.drop (k'+1)) (p0::(packs R).drop (p+1))=Qn L (packs R)):=Qa (by
       rw [←HO'.out,AMj L k' p0 _ (by rw [HNL.out];exact hin) (by rw [HZ.out];exact hle),HZ.out,List.append_assoc];rfl)
      go_wp2_with (at_builtin;refine wpList_append_own_at _ rfl _ _ 182 rfl w.heap.size 187 i0 (.agg #[.int .i64 0,.int .i64 0]) 2 16 Tryz.underlying182 hi hz0 hz1 hz2 rfl (by decide) _ _ _ rfl (hown'.alloc _) ⟨wr.heap.size,0,none⟩ 1 _ [.int .i64 (z1:Int),.int .i64 z2] rfl ?da1 ?da2 ?da3 ?da4 ?da5 ?da6 ?_)
      case da1=>exact rfl
      case da2=>exact JX (g:=wr.heap.size) (Has.fresh wr _ _)
      case da3=>exact YM _ _
      case da4=>unfold maxLen;omega
      case da5=>omega
      case da6=>simp;omega
      intro v3 w3 hown3 hgrow _ _
      have hownN:w3.ownsRow w.heap.size 187 2 v3 (k'+p+1) (Qi (O'++[(z1,z2)])):=by rw [QQ];exact hown3
      have hblN:Below w.heap.size w w3:=(hbl'.alloc (by omega) _).grown hgrow (by simp;omega) (fun b hb=>(hown'.lt b hb).1)
      clear hown3 hgrow hL hown' hbl'
      go_wp2
      go_roundw
      case rel=>exact ⟨k'+1,O'++[(z1,z2)],by omega,by omega,by go_num,HM,Qa (by rw [List.length_append,HOl'.out];simp;omega),by rw [show k'+1+p=k'+p+1 by omega];exact hownN,hblN⟩
      case measure=>simp [intOf];omega
     ·have HM:Hid ((O'++[(p0,-1)])++Qn (L.drop k') ((packs R).drop (p+1))=Qn L (packs R)):=Qa (by
       rw [←HO'.out,yq L k' p0 _ (fun hk2=>by rw [HZ.out];show p0<z1;omega),List.append_assoc];rfl)
      go_wp2_with (at_builtin;refine wpList_append_own_at _ rfl _ _ 182 rfl w.heap.size 187 i0 (.agg #[.int .i64 0,.int .i64 0]) 2 16 Tryz.underlying182 hi hz0 hz1 hz2 rfl (by decide) _ _ _ rfl (hown'.alloc _) ⟨wr.heap.size,0,none⟩ 1 _ [.int .i64 (p0:Int),.int .i64 (-1)] rfl ?db1 ?db2 ?db3 ?db4 ?db5 ?db6 ?_)
      case db1=>exact rfl
      case db2=>exact JX (g:=wr.heap.size) (Has.fresh wr _ _)
      case db3=>exact YM _ _
      case db4=>unfold maxLen;omega
      case db5=>omega
      case db6=>simp;omega
      intro v3 w3 hown3 hgrow _ _
      have hownN:w3.ownsRow w.heap.size 187 2 v3 (k'+p+1) (Qi (O'++[(p0,-1)])):=by rw [QQ];exact hown3
      have hblN:Below w.heap.size w w3:=(hbl'.alloc (by omega) _).grown hgrow (by simp;omega) (fun b hb=>(hown'.lt b hb).1)
      clear hown3 hgrow hL hown' hbl'
      go_wp2
      exact ⟨⟨p+1,k',O'++[(p0,-1)],by omega,hk',by go_num,rfl,HM,Qa (by rw [List.length_append,HOl'.out];simp;omega),by rw [show k'+(p+1)=k'+p+1 by omega];exact hownN,hblN⟩,by simp [intOf];omega⟩
    ·have HM:Hid ((O'++[(p0,-1)])++Qn (L.drop k') ((packs R).drop (p+1))=Qn L (packs R)):=Qa (by
      rw [←HO'.out,yq L k' p0 _ (fun hk2=>by rw [HNL.out] at hk2;exact absurd hk2 hin),List.append_assoc];rfl)
     go_wp2_with (at_builtin;refine wpList_append_own_at _ rfl _ _ 182 rfl w.heap.size 187 i0 (.agg #[.int .i64 0,.int .i64 0]) 2 16 Tryz.underlying182 hi hz0 hz1 hz2 rfl (by decide) _ _ _ rfl (hown'.alloc _) ⟨wr.heap.size,0,none⟩ 1 _ [.int .i64 (p0:Int),.int .i64 (-1)] rfl ?dc1 ?dc2 ?dc3 ?dc4 ?dc5 ?dc6 ?_)
     case dc1=>exact rfl
     case dc2=>exact JX (g:=wr.heap.size) (Has.fresh wr _ _)
     case dc3=>exact YM _ _
     case dc4=>unfold maxLen;omega
     case dc5=>omega
     case dc6=>simp;omega
     intro v3 w3 hown3 hgrow _ _
     have hownN:w3.ownsRow w.heap.size 187 2 v3 (k'+p+1) (Qi (O'++[(p0,-1)])):=by rw [QQ];exact hown3
     have hblN:Below w.heap.size w w3:=(hbl'.alloc (by omega) _).grown hgrow (by simp;omega) (fun b hb=>(hown'.lt b hb).1)
     clear hown3 hgrow hL hown' hbl'
     go_wp2
     exact ⟨⟨p+1,k',O'++[(p0,-1)],by omega,hk',by go_num,rfl,HM,Qa (by rw [List.length_append,HOl'.out];simp;omega),by rw [show k'+(p+1)=k'+p+1 by omega];exact hownN,hblN⟩,by simp [intOf];omega⟩
  ·have hend:=AOf R p (by rw [HRL.out];omega)
   rw [hend,APb] at HO
   have hc:=ZD (L.drop k)
   rw [List.length_drop,HNL.out] at hc
   by_cases hkc:k<c1
   ·go_wp2_with (at_builtin;refine wpList_append_own_at _ rfl _ _ 182 rfl w.heap.size 187 i0 (.agg #[.int .i64 0,.int .i64 0]) 2 16 Tryz.underlying182 hi hz0 hz1 hz2 rfl (by decide) _ _ _ rfl hown ⟨g1,k*2,none⟩ (n-k) _ (Qi (L.drop k)) rfl ?dd1 ?dd2 ?dd3 ?dd4 ?dd5 ?dd6 ?_)
    case dd1=>exact hc
    case dd2=>exact ARq hL k
    case dd3=>exact Xe _
    case dd4=>unfold maxLen;omega
    case dd5=>omega
    case dd6=>omega
    intro v3 w3 hown3 hgrow _ _
    have hownN:w3.ownsRow w.heap.size 187 2 v3 (n+r / 2) (Qi (Qn L (packs R))):=by rw [←HO.out,QQ,show n+r / 2=k+p+(n-k) by omega];exact hown3
    have hblN:Below w.heap.size w w3:=hbl.grown hgrow (by omega) (fun b hb=>(hown.lt b hb).1)
    clear hown3 hgrow hL hR hown hbl
    go_wp2
    go_ret
    exact ⟨_,rfl,hownN,hblN⟩
   ·have hkc':k=c1:=by omega
    subst hkc'
    obtain rfl:n=k:=by omega
    rw [Nat.sub_self] at hc
    go_wp2_with (at_builtin;(refine wpList_append_own_at _ rfl _ _ 182 rfl w.heap.size 187 i0 (.agg #[.int .i64 0,.int .i64 0]) 2 16 Tryz.underlying182 hi hz0 hz1 hz2 rfl (by decide) _ _ _ rfl hown ⟨g1,0,none⟩ 0 _ (Qi (L.drop n)) rfl ?de1 ?de2 ?de3 ?de4 ?de5 ?de6 ?_))
    case de1=>exact hc
    case de2=>intro j u hu;rw [List.drop_eq_nil_of_le (by rw [HNL.out];exact hc1)] at hu;simp [Qi] at hu
    case de3=>exact Xe _
    case de4=>unfold maxLen;omega
    case de5=>omega
    case de6=>omega
    intro v3 w3 hown3 hgrow _ _
    have hownN:w3.ownsRow w.heap.size 187 2 v3 (n+r / 2) (Qi (Qn L (packs R))):=by rw [←HO.out,QQ,show n+r / 2=n+p+0 by omega];exact hown3
    have hblN:Below w.heap.size w w3:=hbl.grown hgrow (by omega) (fun b hb=>(hown.lt b hb).1)
    clear hown3 hgrow hL hR hown hbl
    go_wp2
    go_ret
    exact ⟨_,rfl,hownN,hblN⟩
def pos (L:List Item) (s:Nat):Nat:=(L.map Prod.snd).idxOf (s:Int)
theorem VN {zs:List Int} {n:Nat} {L:List Item} (hp:L.Perm (Qz zs n)):(L.map Prod.snd).Perm ((List.range n).map fun (i:Nat)=>(i:Int)):=by
 have:=hp.map Prod.snd
 simpa [Qz,Function.comp_def] using this
theorem vj {zs:List Int} {n:Nat} {L:List Item} (hp:L.Perm (Qz zs n)):(L.map Prod.snd).Nodup:=by
 refine (VN hp).symm.nodup ?_
 rw [List.Nodup,List.pairwise_map]
 exact List.nodup_range.imp fun {a b} h e=>h (by omega)
theorem qs {zs:List Int} {n:Nat} {L:List Item} (hp:L.Perm (Qz zs n)) (s:Nat) (hs:s<n):pos L s<L.length:=by
 have hm:(s:Int)∈L.map Prod.snd:=(VN hp).mem_iff.2 (List.mem_map.2 ⟨s,List.mem_range.2 hs,rfl⟩)
 have:=List.idxOf_lt_length_of_mem hm
 simpa [pos] using this
theorem qo {zs:List Int} {n:Nat} {L:List Item} (hp:L.Perm (Qz zs n)) (s:Nat) (hs:s<n):(L[pos L s]'(qs hp s hs)).2=s:=by
 have hm:(s:Int)∈L.map Prod.snd:=(VN hp).mem_iff.2 (List.mem_map.2 ⟨s,List.mem_range.2 hs,rfl⟩)
 have h:=List.getElem_idxOf (List.idxOf_lt_length_of_mem hm)
 rw [List.getElem_map] at h
 exact h
theorem AEl {zs:List Int} {n:Nat} {L:List Item} (hp:L.Perm (Qz zs n)) (j:Nat) (hj:j<L.length) (s:Nat) (hs:(L[j]).2=s):pos L s=j:=by
 unfold pos
 have h:(L.map Prod.snd)[j]'(by simpa using hj)=(s:Int):=by simpa using hs
 rw [←h]
 exact List.Nodup.idxOf_getElem (vj hp) j (by simpa using hj)
theorem Yf {zs:List Int} {n:Nat} {L:List Item} (hp:L.Perm (Qz zs n)):∀ x∈L,QR x=true:=by
 intro x hx
 have:=Yo zs n x (hp.mem_iff.1 hx)
 simp [QR,this.1]
theorem zT (r:List Item) (i:Nat) (hi:i<r.length):cntL r (i+1)=cntL r i+if QR r[i]=true then 1 else 0:=by
 unfold cntL
 rw [List.take_succ_eq_append_getElem hi,List.countP_append]
 simp [List.countP_cons]
theorem AGb (L:List Item) (hL:∀ x∈L,QR x=true) (k i:Nat) (hi:i<(rowM L k).length) (h:QR (rowM L k)[i]=true) :
 ∃ hc:cntL (rowM L k) i<L.length,(rowM L k)[i]=L[cntL (rowM L k) i]:=by
 have h1:=Jh L hL k (i+1) hi
 have h0:=Jh L hL k i (by omega)
 have hc:=zT (rowM L k) i hi
 rw [if_pos h] at hc
 have hlt:cntL (rowM L k) i<L.length:=by omega
 refine ⟨hlt,?_⟩
 have e:=h1.2
 rw [List.take_succ_eq_append_getElem hi,List.filter_append,h0.2,hc,List.take_succ_eq_append_getElem hlt] at e
 have e2:=List.append_cancel_left e
 simpa [h] using e2
theorem ABy (L : List Item) (k : Nat) : ∀ x ∈ rowM L k, x.2 = -1 ∨ x ∈ L := by
  have key : ∀ (L : List Item) (P : List Nat), ∀ x ∈ Qn L P, x.2 = -1 ∨ x ∈ L := by
    intro L P
    induction L, P using Qn.induct with
    | case1 L => intro x hx; rw [Qn] at hx; exact .inr hx
    | case2 p P ih => intro x hx; rw [Qn] at hx; rcases List.mem_cons.1 hx with rfl | hx
                      · exact .inl rfl
                      · exact ih x hx
    | case3 y L p P h ih => intro x hx; rw [Qn, if_pos h] at hx; rcases List.mem_cons.1 hx with rfl | hx
                            · exact .inr (by simp)
                            · rcases ih x hx with h | h
                              · exact .inl h
                              · exact .inr (by simp [h])
    | case4 y L p P h ih => intro x hx; rw [Qn, if_neg h] at hx; rcases List.mem_cons.1 hx with rfl | hx
                            · exact .inl rfl
                            · exact ih x hx
  cases k with
  | zero => intro x hx; exact .inr hx
  | succ k => exact key L _
theorem ACa (L:List Item) (hL:∀ x∈L,x.1≤1000000) (k:Nat):∀ x∈rowM L k,x.1≤1000000*2^k:=by
 have hpk:∀ (R:List Item) (c:Nat),(∀ x∈R,x.1≤c)→∀ p∈packs R,p≤2*c:=by
  intro R
  induction R using packs.induct with
  | case1 a b r ih =>
    intro c hc p hp
    simp only [packs,List.mem_cons] at hp
    rcases hp with rfl | hp
    ·have h1:=hc a (by simp);have h2:=hc b (by simp);omega
    ·exact ih c (fun x hx=>hc x (by simp [hx])) p hp
  | case2 r h=>intro c _ p hp;cases r with
    | nil=>simp [packs] at hp
    | cons a r=>cases r with
      | nil=>simp [packs] at hp
      | cons b r=>exact absurd rfl (h a b r)
 induction k with
 | zero=>intro x hx;have:=hL x hx;simpa using this
 | succ k ih =>
   intro x hx
   have:=YF L (packs (rowM L k)) x.1 (List.mem_map_of_mem hx)
   rw [Nat.pow_succ]
   have h1:1≤2^k:=Nat.one_le_two_pow
   rcases this with h | h
   ·simp only [wts,List.mem_map] at h
    obtain ⟨y,hy,he⟩:=h
    have:=hL y hy
    rw [←he]
    have:1000000*1≤1000000*(2^k*2):=Nat.mul_le_mul_left _ (by omega)
    omega
   ·have:=hpk _ _ ih x.1 h
    omega
theorem Tryz.infoRow:(Tryz.prog.info? 182).map (fun i=>(i.zero,i.size,i.bytes))=some (some (.slice none 0 0),1,24):=by kernel_rfl
theorem AFm (L:List Item) (p m j:Nat):lenJ L p m j=(if j<cntL (rowM L p) m then 1 else 0)+(if p=0 then 0 else lenJ L (p-1) (2*(m-cntL (rowM L p) m)) j):=by
 cases p with
 | zero=>rfl
 | succ p=>rfl
theorem AEg (a:Option Addr) (cap B lim:Nat) (zs:List Int) (w:World) (hz:Ints w B a zs) (hB:B≤w.heap.size) (hf:fOk zs=true) (h1:1≤lim) (h2:lim≤20) (hn2:2≤zs.length) (hpow:zs.length≤2^lim) :
 Calls Tryz.prog 150 #[.slice a zs.length cap,.int .i64 lim] w fun e w'=>∃ v L,e=.returned (.tuple #[v,.bool true])∧L.Perm (Qz zs zs.length)∧LexS L ∧
  w'.ownsRow w.heap.size 3 1 v zs.length (nats zs.length fun s=>lenJ L (lim-1) (2*zs.length-2) (pos L s))∧Below w.heap.size w w':=by
 obtain ⟨i0,hi,hz0,hz1,hz2⟩:=info_parts Tryz.infoRow
 obtain ⟨j0,ji,jz0,jz1,jz2⟩:=info_parts Tryz.infoInt
 have hfr:=(Xs zs).1 hf
 obtain ⟨n,hn⟩:∃ n,zs.length=n:=⟨_,rfl⟩
 have K1:=Qa (VF a cap B zs w hz)
 have K2:=Qa (AEz a cap B zs w hz hB hfr.2.1 hfr.2.2)
 rw [hf] at K1
 have HR:=Qa hfr.2.2
 have hn260:n≤260:=by rw [←hn];exact hfr.2.1
 have hM:2^lim≤2^20:=Nat.pow_le_pow_right (by omega) h2
 obtain ⟨M,hMe⟩:∃ M,2^lim=M:=⟨_,rfl⟩
 have hMI:wrap64 (2^lim)=(M:Int):=by rw [show ((2:Int)^lim)=((2^lim:Nat):Int) by simp,hMe];exact QT _ (by omega)
 rw [hMe] at hpow hM
 have HPOW:=Qa hMe
 rw [hn] at hn2 hpow K1 K2 ⊢
 have HN:=Qa hn
 clear hf hfr hn hz hMe
 have g1:¬ (M:Int)<(n:Int):=by omega
 have g2:((n:Int) == 1)=false:=by rw [beq_eq_false_iff_ne];omega
 go_enter Tryz.func150,Tryz.ntmps150
 go_wp2_with fail
 refine K1.out.mono ?_
 rintro e w' ⟨rfl,rfl⟩
 go_wp2_with fail
 refine K2.out.mono ?_
 rintro e w1 ⟨vL,L,rfl,hP,hS,hown,hb1⟩
 obtain ⟨gL,cL,hvL⟩:=Joins.ownsRow_form hown (by omega)
 subst hvL
 have hLl:L.length=n:=by rw [hP.length_eq,XY]
 have hLeaf:=Yf hP
 have hLb:∀ x∈L,x.1≤1000000:=by
  intro x hx
  have:=hP.mem_iff.1 hx
  simp only [Qz,List.mem_map,List.mem_range] at this
  obtain ⟨i,hi2,rfl⟩:=this
  have hr:=HR.out i (by rw [HN.out];exact hi2)
  rcases AGq (zs.getD i 0) hr.2 with h | h
  ·exact h.2
  ·omega
 have hbd:∀ k,k≤19→∀ x∈rowM L k,x.1≤1099511627776:=by
  intro k hk x hx
  have:=ACa L hLb k x hx
  have h19:2^k≤2^19:=Nat.pow_le_pow_right (by omega) hk
  have:1000000*2^k≤1000000*2^19:=Nat.mul_le_mul_left _ h19
  omega
 have HP:=Qa hP
 have HS:=Qa hS
 have HLl:=Qa hLl
 have HLeaf:=Qa hLeaf
 have HBD:=Qa hbd
 have HRow:Hid (∀ k,n≤(rowM L k).length∧(rowM L k).length≤2*n):=Qa fun k=>by
  have:=qT L k
  rw [hLl] at this
  refine ⟨?_,this⟩
  cases k with
  | zero=>show n≤L.length;omega
  | succ k=>rw [Jp,hLl];omega
 have hb1s:=hb1.size
 have HL1:=Qa hown
 clear hP hS hLl hLeaf hLb hbd
 go_wp2
 go_loopw [7,8] (fun vr sk wr=>∃ (k:Nat) (Vs:List Value),1≤k∧k≤lim∧sk=.int .i64 k∧Hid (Vs.length=k)∧wr.ownsRow w1.heap.size 182 1 vr k Vs∧Hid (∀ i,(h:i<Vs.length)→wr.ownsRow w'.heap.size 187 2 Vs[i] (rowM L i).length (Qi (rowM L i)))∧Hid (∀ u∈Vs,u.oneCell'=true)∧Below w1.heap.size w1 wr) (fun _ sk _=>lim-(intOf sk).toNat)
 case atStart=>exact ⟨1,[.slice (some ⟨gL,0,none⟩) n cL],by omega,h1,rfl,Qa rfl,World.ownsRow_lit _ _ _ (Nat.le_refl _) (by decide) rfl,Qa (fun i hi=>by
  have:i=0:=by simpa using hi
  subst this
  show World.ownsRow _ _ _ _ _ L.length _
  rw [HLl.out]
  exact hown.alloc _),Qa (by simp [Value.oneCell']),(Below.refl _ _).alloc (Nat.le_refl _) _⟩
 case round =>
  obtain ⟨k,Vs,hk1,hk2,rfl,HV,hrows,HVs,HV1,hbl⟩:=hrel
  have hsz:=hbl.size
  obtain ⟨gr,cr,hvr⟩:=Joins.ownsRow_form hrows (by omega)
  subst hvr
  by_cases hlt:k<lim
  ·obtain ⟨q,rfl⟩:∃ q,k=q+1:=⟨k-1,by omega⟩
   have hq:q<Vs.length:=by rw [HV.out];omega
   obtain ⟨V,hVe⟩:∃ V,Vs[q]=V:=⟨_,rfl⟩
   have hV:=HVs.out q hq
   rw [hVe] at hV
   obtain ⟨r,hr⟩:∃ r,(rowM L q).length=r:=⟨_,rfl⟩
   have hrr:=HRow.out q
   rw [hr] at hrr hV
   obtain ⟨gv,cv,hv⟩:=Joins.ownsRow_form hV (by omega)
   subst hv
   have crow:=hrows.cellAt q (by omega)
   rw [List.getElem?_eq_getElem hq,hVe] at crow
   have hLw:=Ql HL1.out hbl
   have K3:=Qa (ALo _ _ _ n r L (rowM L q) wr HLl.out hr hLw hV (by omega) (by omega) hn260 (by omega) (HBD.out q (by omega)) (HBD.out 0 (by omega)))
   have hlen3:(rowM L (q+1)).length=n+r / 2:=by rw [Jp,HLl.out,hr]
   have HLEN:=Qa hlen3
   clear hV hLw hr hVe hlen3
   go_wp2_with fail
   refine K3.out.mono ?_
   rintro e w3 ⟨v3,rfl,hown3,hb3⟩
   obtain ⟨g3,c3,hv3⟩:=Joins.ownsRow_form hown3 (by omega)
   subst hv3
   have hrows3:=Ql hrows hb3
   have hsz3:=hb3.size
   clear crow
   go_wp2_with (at_builtin;refine wpList_append_own_at _ rfl _ _ 184 rfl w1.heap.size 182 i0 (.slice none 0 0) 1 24 Tryz.underlying184 hi hz0 hz1 hz2 rfl (by decide) _ _ _ rfl (hrows3.alloc _) ⟨w3.heap.size,0,none⟩ 1 1 [.slice (some ⟨g3,0,none⟩) (n+r / 2) c3] rfl rfl ?ca2 ?ca3 ?ca4 ?ca5 ?ca6 ?_)
   case ca2=>exact JY _ _ _
   case ca3=>exact fun u hu=>by simp at hu;subst hu;rfl
   case ca4=>unfold maxLen;omega
   case ca5=>omega
   case ca6=>simp;omega
   intro v4 w4 hown4 hgrow _ _
   have hbl4:Below w1.heap.size w1 w4:=((hbl.trans (hb3.mono hsz)).alloc (by omega) _).grown hgrow (by simp;omega) (fun b hb=>(hrows.lt b hb).1)
   have HVn:Hid (∀ i,(h:i<(Vs++[Value.slice (some ⟨g3,0,none⟩) (n+r / 2) c3]).length)→w4.ownsRow w'.heap.size 187 2 ((Vs++[Value.slice (some ⟨g3,0,none⟩) (n+r / 2) c3])[i]'h) (rowM L i).length (Qi (rowM L i))):=Qa (by
    intro i h
    rcases Nat.lt_or_ge i Vs.length with hi | hi
    ·rw [List.getElem_append_left hi]
     have o1:=(Ql (HVs.out i hi) hb3)
     exact (o1.alloc _).kept hgrow (.inr (XZ hrows3 o1 (by decide) rfl))
    ·have e:i=Vs.length:=by simp at h;omega
     subst e
     rw [List.getElem_append_right (Nat.le_refl _)]
     simp only [Nat.sub_self,List.getElem_cons_zero]
     rw [HV.out,HLEN.out]
     have o1:=Joins.ownsRow_le hown3 (show w'.heap.size≤wr.heap.size by omega)
     exact (o1.alloc _).kept hgrow (.inr (XZ hrows3 o1 (by decide) rfl)))
   have HV1n:Hid (∀ u∈Vs++[Value.slice (some ⟨g3,0,none⟩) (n+r / 2) c3],u.oneCell'=true):=Qa (by
    intro u hu
    rcases List.mem_append.1 hu with h | h
    ·exact HV1.out u h
    ·simp at h;subst h;rfl)
   clear hgrow hrows3 hown3 hb3 hbl hrows
   go_wp2
   go_roundw
   case rel=>exact ⟨q+1+1,Vs++[.slice (some ⟨g3,0,none⟩) (n+r / 2) c3],by omega,by omega,by go_num,Qa (by simp [HV.out]),hown4,HVn,HV1n,hbl4⟩
   case measure=>simp [intOf];omega
  ·have hkl:k=lim:=by omega
   subst hkl
   have hsz1:w'.heap.size≤w1.heap.size:=hb1s
   go_wp2_with (at_make;refine wpList_make_full _ rfl _ _ 24 rfl w'.heap.size 3 j0 (.int .i64 0) 1 Tryz.underlying24 ji jz0 jz1 .i64 .i64 _ _ n rfl rfl rfl rfl ?cb1 ?cb2 ?cb3 ?_)
   case cb1=>rw [jz2];omega
   case cb2=>unfold maxLen;omega
   case cb3=>omega
   intro w5 hown5 hgrow5
   have hb5:Below wr.heap.size wr w5:=⟨hgrow5.os,hgrow5.tape,hgrow5.output,hgrow5.size,fun i hi=>hgrow5.block i hi (by simp)⟩
   rw [Zl] at hown5
   have hbl5:Below w'.heap.size w' w5:=(hb1.trans (hbl.mono hsz1)).trans (hb5.mono (by omega))
   clear hgrow5
   obtain ⟨go,hgo⟩:∃ go,wr.heap.size=go:=⟨_,rfl⟩
   have HM2:Hid ((2:Int)*(n:Int)-2=((2*n-2:Nat):Int)):=Qa (by omega)
   have hbw:Below wr.heap.size wr w5:=hb5
   have HROWS:=Qa hrows
   have HBW:=Qa (hb1.trans (hbl.mono hsz1))
   have HPOS:=Qa (fun s hs=>qs HP.out s hs)
   clear hb5 hb1 hown hrows g1 g2 hbl hbl5
   rw [hgo] at hown5 ⊢
   obtain ⟨W0,hW0⟩:∃ W0,W0=wr:=⟨_,rfl⟩
   rw [←hW0] at hbw HROWS HVs hgo HBW
   clear hW0
   have HGO:=Qa hgo
   clear hgo hsz hsz1
   go_wp2
   go_loopw [10,11] (fun sm sk wx=>∃ (q m:Nat) (O:Nat→Nat),q≤k∧sk=.int .i64 ((q:Int)-1)∧sm=.int .i64 m∧m≤2*n ∧
    Hid (∀ s,s<n→O s+(if q=0 then 0 else lenJ L (q-1) m (pos L s))=lenJ L (k-1) (2*n-2) (pos L s))∧Hid (0<q→m≤(rowM L (q-1)).length)∧Hid (∀ s,s<n→O s≤40) ∧
    wx.ownsRow w'.heap.size 3 1 (.slice (some ⟨go,0,none⟩) n n) n (nats n O)∧Below W0.heap.size W0 wx) (fun _ sk _=>(intOf sk+1).toNat)
   case atStart=>exact ⟨k,2*n-2,fun _=>0,Nat.le_refl _,rfl,by rw [HM2.out],by omega,Qa (fun s hs=>by show 0+(if k=0 then 0 else _)=_;rw [if_neg (by omega),Nat.zero_add]),Qa (fun _=>by have:=xL L (k-1) (by rw [HLl.out,show k-1+1=k by omega,HPOW.out];exact hpow);rw [HLl.out] at this;exact this),Qa (fun _ _=>Nat.zero_le _),hown5,hbw⟩
   case round =>
    obtain ⟨q,m,O,hq,rfl,rfl,hm,HO,Hm,HO40,hownO,hblx⟩:=hrel
    clear hMI hM hpow hown5 hbw hb1s
    by_cases hq0:q=0
    ·subst hq0
     have HO2:=HO
     go_wp2
     refine bodyPost_ret (v:=.tuple #[.slice (some ⟨go,0,none⟩) n n,.bool true]) (by simp [results,Tryz.results150,go_sem]) rfl ⟨_,rfl,L,HP.out,HS.out,?_,?_⟩
     ·rw [←Qu (f:=O) fun s hs=>by have:=HO.out s hs;simpa using this];exact hownO
     ·exact HBW.out.trans (hblx.mono HBW.out.size)
    ·obtain ⟨p,rfl⟩:∃ p,q=p+1:=⟨q-1,by omega⟩
     have hpk:p<k:=by omega
     have hmr:m≤(rowM L p).length:=Hm.out (by omega)
     have hVp:p<Vs.length:=by rw [HV.out];omega
     obtain ⟨V,hVe⟩:∃ V,Vs[p]=V:=⟨_,rfl⟩
     have hV:=HVs.out p hVp
     rw [hVe] at hV
     obtain ⟨r,hr⟩:∃ r,(rowM L p).length=r:=⟨_,rfl⟩
     have hrr:=HRow.out p
     rw [hr] at hrr hV hmr
     obtain ⟨gv,cv,hv⟩:=Joins.ownsRow_form hV (by omega)
     subst hv
     have HVV:=Qa hV
     have HVE:=Qa hVe
     have HRR:=Qa hr
     clear hV hVe hr hq0
     go_wp2
     go_loopw [12,13] (fun sp si wy=>∃ (i c:Nat),i≤m∧c≤i∧Hid (c=cntL (rowM L p) i)∧si=.int .i64 i∧sp=.int .i64 ((i-c:Nat):Int) ∧
      wy.ownsRow w'.heap.size 3 1 (.slice (some ⟨go,0,none⟩) n n) n (nats n fun s=>O s+if pos L s<c then 1 else 0)∧Below W0.heap.size W0 wy) (fun _ si _=>m-(intOf si).toNat)
     case atStart=>exact ⟨0,0,Nat.zero_le _,Nat.le_refl _,Qa rfl,rfl,rfl,by rw [Qu (g:=O) fun s hs=>by rw [if_neg (by omega)];rfl];exact hownO,hblx⟩
     case round =>
      obtain ⟨i,c,hi3,hc3,HC,rfl,rfl,hownY,hblY⟩:=hrel
      have hrowsY:=Ql HROWS.out hblY
      have hVY:=Ql HVV.out hblY
      have crow:=hrowsY.cellAt p (by omega)
      rw [List.getElem?_eq_getElem hVp,HVE.out] at crow
      by_cases him:i<m
      ·have hir:i<(rowM L p).length:=by rw [HRR.out];omega
       obtain ⟨x,hx⟩:∃ x,(rowM L p)[i]'hir=x:=⟨_,rfl⟩
       have c1:=hVY.cellAt (i*2+1) (by omega)
       rw [XB (rowM L p) i hir,hx] at c1
       have hcs:=zT (rowM L p) i hir
       rw [hx,←HC.out] at hcs
       by_cases hlf:QR x=true
       ·obtain ⟨hcl,hxe⟩:=AGb L HLeaf.out p i hir (by rw [hx];exact hlf)
        have hxL:x∈L:=by rw [←hx,hxe];exact List.getElem_mem _
        have hxs:=Yo zs n x (HP.out.mem_iff.1 hxL)
        obtain ⟨t,ht⟩:∃ t:Nat,x.2=t:=⟨x.2.toNat,by omega⟩
        have htn:t<n:=by omega
        have hpos:pos L t=c:=by rw [AEl HP.out _ hcl t (by rw [←hxe,hx];exact ht),HC.out]
        rw [if_pos hlf] at hcs
        rw [ht] at c1
        have d0:=hownY.cellAt t (by omega)
        rw [Qw _ _ _ htn] at d0
        obtain ⟨y,hy⟩:∃ y,O t+(if pos L t<c then 1 else 0)=y:=⟨_,rfl⟩
        have hy2:y=O t:=by rw [←hy,hpos,if_neg (Nat.lt_irrefl _)];rfl
        have hy40:y≤40:=by rw [hy2];exact HO40.out t htn
        rw [hy] at d0
        have f0:=hownY.frozenAt t
        have HCS:=Qa hcs
        have HST:Hid ((nats n fun s=>O s+if pos L s<c then 1 else 0).set t (.int .i64 ((y+1:Nat):Int))=nats n fun s=>O s+if pos L s<c+1 then 1 else 0):=Qa (by
         rw [Zb]
         refine Qu fun s hs=>?_
         by_cases e:s=t
         ·subst e;rw [if_pos rfl,if_pos (by omega),hy2]
         ·rw [if_neg e]
          have hne:pos L s≠c:=by
           intro hc
           have h1:=qo HP.out s hs
           have h2:=qo HP.out t htn
           simp only [hc] at h1
           simp only [hpos] at h2
           rw [h1] at h2
           exact e (by exact_mod_cast h2)
          congr 1
          by_cases h:pos L s<c
          ·rw [if_pos h,if_pos (by omega)]
          ·rw [if_neg h,if_neg (by omega)])
        clear hx hxe hxL hxs ht hpos hcs hy hy2 hlf hcl hir
        go_wp2
        go_roundw
        case rel=>exact ⟨i+1,c+1,by omega,by omega,Qa (by rw [HCS.out]),by go_num,by rw [Nat.add_sub_add_right],by
         have:=(hownY.stored t (.int .i64 ((y+1:Nat):Int))).1
         rw [HST.out] at this
         simpa using this,hblY.setCell (by show W0.heap.size≤go;rw [HGO.out];exact Nat.le_refl _) _⟩
        case measure=>simp [intOf];omega
       ·have hx2:x.2=-1:=by
         rcases ABy L p x (by rw [←hx];exact List.getElem_mem _) with h | h
         ·exact h
         ·exact absurd (HLeaf.out x h) hlf
        rw [if_neg hlf] at hcs
        rw [hx2] at c1
        have HCS:=Qa hcs
        clear hx hx2 hcs hlf hir
        go_wp2
        go_roundw
        case rel=>exact ⟨i+1,c,by omega,by omega,Qa HCS.out.symm,by go_num,by rw [show ((i+1-c:Nat):Int)=((i-c:Nat):Int)+1 by omega],hownY,hblY⟩
        case measure=>simp [intOf];omega
      ·have hime:i=m:=by omega
       subst hime
       have HN2:Hid (∀ s,s<n→(O s+if pos L s<c then 1 else 0)+(if p=0 then 0 else lenJ L (p-1) (2*(i-c)) (pos L s))=lenJ L (k-1) (2*n-2) (pos L s)):=Qa (by
        intro s hs
        have:=HO.out s hs
        rw [if_neg (by omega),Nat.add_sub_cancel,AFm,←HC.out] at this
        omega)
       have HM2':Hid (0<p→2*(i-c)≤(rowM L (p-1)).length):=Qa (by
        intro hp
        obtain ⟨p',rfl⟩:∃ p',p=p'+1:=⟨p-1,by omega⟩
        rw [HC.out]
        exact YO L HLeaf.out p' i (by rw [HRR.out];exact hmr))
       have H40:Hid (∀ s,s<n→(O s+if pos L s<c then 1 else 0)≤40):=Qa (by
        intro s hs
        have:=HN2.out s hs
        have h2:=vS L (k-1) (2*n-2) (pos L s)
        omega)
       have H2n:Hid (2*(i-c)≤2*n):=Qa (by
        rcases Nat.eq_zero_or_pos p with h0 | h0
        ·subst h0
         have:cntL (rowM L 0) i=i:=Jr L HLeaf.out i (by have h9:=HRR.out;rw [show (rowM L 0).length=L.length from rfl] at h9;omega)
         rw [HC.out,this];omega
        ·have h8:=HM2'.out h0
         have h9:=(HRow.out (p-1)).2
         omega)
       go_wp2
       refine ⟨⟨p,2*(i-c),_,by omega,rfl,?_,H2n.out,HN2,HM2',H40,hownY,hblY⟩,?_⟩
       ·rw [Int.natCast_mul];rfl
       ·show ((p:Int)-1+1).toNat<(((p+1:Nat):Int)-1+1).toNat
        omega
theorem AHb (a:Option Addr) (cap B lim:Nat) (zs:List Int) (w:World) (hz:Ints w B a zs) (hB:B≤w.heap.size) (hf:fOk zs=true) (h1:1≤lim) (h2:lim≤20) (hn1:zs.length=1) :
 Calls Tryz.prog 150 #[.slice a zs.length cap,.int .i64 lim] w fun e w'=>e=.returned (.tuple #[.slice (some ⟨w.heap.size,0,none⟩) 1 1,.bool true])∧w'=w.alloc (.cells #[.int .i64 1] 3):=by
 have K1:=Qa (VF a cap B zs w hz)
 rw [hf] at K1
 have hM:2^lim≤2^20:=Nat.pow_le_pow_right (by omega) h2
 have hM0:2^1≤2^lim:=Nat.pow_le_pow_right (by omega) h1
 obtain ⟨M,hMe⟩:∃ M,2^lim=M:=⟨_,rfl⟩
 have hMI:wrap64 (2^lim)=(M:Int):=by rw [show ((2:Int)^lim)=((2^lim:Nat):Int) by simp,hMe];exact QT _ (by omega)
 rw [hMe] at hM hM0
 rw [hn1] at K1 ⊢
 clear hz hf hMe hn1
 go_enter Tryz.func150,Tryz.ntmps150
 go_wp2_with fail
 refine K1.out.mono ?_
 rintro e w' ⟨rfl,rfl⟩
 go_wp2
 refine bodyPost_ret (v:=.tuple #[.slice (some ⟨w'.heap.size,0,none⟩) 1 1,.bool true]) (by simp [results,Tryz.results150,go_sem]) rfl ⟨rfl,rfl⟩
end Go.Proofs.YtembljihmnmmfaaGreat
namespace Go.Proofs.YtembljihmnmmfaaGreat
set_option linter.unusedVariables false
set_option linter.unusedSimpArgs false
theorem AKf {l:List Nat} {i:Nat} (h:i<l.length):l.getD i 0=l[i]:=by simp [List.getD_eq_getElem?_getD,h]
def symJ (L:List Item) (j:Nat):Nat:=((L.map Prod.snd).getD j 0).toNat
theorem AOl (n:Nat) (p:Nat→Nat) (h:((List.range n).map p).Perm (List.range n)) (g:Nat→Nat):rsum n (fun s=>g (p s))=rsum n g:=by
 have:=AVg (h.map g)
 rw [List.map_map,yh] at this
 rw [yh] at this
 exact this
theorem qv {zs:List Int} {n:Nat} {L:List Item} (hp:L.Perm (Qz zs n)):L.length=n:=by rw [hp.length_eq,XY]
theorem AZd {zs:List Int} {n:Nat} {L:List Item} (hp:L.Perm (Qz zs n)) (j:Nat) (hj:j<L.length):(L[j]).2=(symJ L j:Nat):=by
 have h:=Yo zs n _ (hp.mem_iff.1 (List.getElem_mem hj))
 have e:symJ L j=(L[j]).2.toNat:=by simp [symJ,List.getD_eq_getElem?_getD,hj]
 omega
theorem AYa {zs:List Int} {n:Nat} {L:List Item} (hp:L.Perm (Qz zs n)) (j:Nat) (hj:j<n):pos L (symJ L j)=j:=by
 have hl:=qv hp
 exact AEl hp j (by omega) _ (AZd hp j (by omega))
theorem ATr {zs:List Int} {n:Nat} {L:List Item} (hp:L.Perm (Qz zs n)):((List.range n).map (symJ L)).Perm (List.range n):=by
 have hl:=qv hp
 have h:=(VN hp).map Int.toNat
 rw [List.map_map,List.map_map] at h
 have e1:List.map (Int.toNat ∘ fun (i:Nat)=>(i:Int)) (List.range n)=List.range n:=by
  rw [show (Int.toNat ∘ fun (i:Nat)=>(i:Int))=id from funext fun i=>by simp];simp
 rw [e1] at h
 refine List.Perm.trans (List.Perm.of_eq ?_) h
 apply List.ext_getElem (by simp [hl])
 intro j g1 g2
 simp at g1
 simp [symJ,List.getD_eq_getElem?_getD,hl,g1]
theorem AUk {zs:List Int} {n:Nat} {L:List Item} (hp:L.Perm (Qz zs n)):((List.range n).map (pos L)).Perm (List.range n):=by
 have h:=((ATr hp).map (pos L)).symm
 refine h.trans (List.Perm.of_eq ?_)
 rw [List.map_map]
 apply List.ext_getElem (by simp)
 intro j g1 g2
 simp at g1
 simp [AYa hp j g1]
theorem AKu {zs:List Int} {n:Nat} {L:List Item} (hp:L.Perm (Qz zs n)) (s:Nat) (hs:s<n):(wts L).getD (pos L s) 0=wgt (zs.getD s 0):=by
 have hlt:=qs hp s hs
 have hg:=qo hp s hs
 have hm:=hp.mem_iff.1 (List.getElem_mem hlt)
 simp only [Qz,List.mem_map,List.mem_range] at hm
 obtain ⟨i,hi,he⟩:=hm
 have h2:=congrArg Prod.snd he
 have h1:=congrArg Prod.fst he
 simp only at h1 h2
 rw [hg] at h2
 have:i=s:=by omega
 subst this
 rw [h1]
 simp [wts,List.getD_eq_getElem?_getD,hlt]
def lenS (L:List Item) (n lim s:Nat):Nat:=lenJ L (lim-1) (2*n-2) (pos L s)
theorem vk {zs:List Int} {n lim:Nat} {L:List Item} (hp:L.Perm (Qz zs n)) (hs:LexS L) (h2:2≤n) (h1:1≤lim) (hpow:n≤2^lim) (s:Nat) (hsn:s<n):1≤lenS L n lim s∧lenS L n lim s≤lim:=by
 have hl:=qv hp
 obtain ⟨k,rfl⟩:∃ k,lim=k+1:=⟨lim-1,by omega⟩
 have hL:=Yf hp
 have hm:=xL L k (by omega)
 have ht:=APs L hL hs.sorted (by omega) k _ hm (Nat.le_refl _)
 have hlt:=qs hp s hsn
 rw [hl] at ht
 constructor
 ·exact ASg L k _ _ (by rw [ht];omega)
 ·exact vS L k _ _
theorem ANm {zs:List Int} {n lim:Nat} {L:List Item} (hp:L.Perm (Qz zs n)) (hs:LexS L) (h2:2≤n) (h1:1≤lim) (hpow:n≤2^lim) (D:Nat) (hD:lim≤D):rsum n (fun s=>2^(D-lenS L n lim s))=2^D:=by
 have hl:=qv hp
 obtain ⟨k,rfl⟩:∃ k,lim=k+1:=⟨lim-1,by omega⟩
 have hw:=ASx L (Yf hp) hs.sorted (by omega) k (by omega)
 rw [hl] at hw
 have e:rsum n (fun s=>2^(D-lenS L n (k+1) s))=rsum n (fun s=>2^(D-(k+1))*2^(k+1-lenS L n (k+1) s)) :=
  Jb fun s hsn=>by
   have:=(vk hp hs h2 h1 hpow s hsn).2
   rw [←Nat.pow_add];congr 1;omega
 have hx:rsum n (fun s=>2^(k+1-lenS L n (k+1) s))=rsum n (fun j=>2^(k+1-lenJ L k (2*n-2) j)):=AOl n (pos L) (AUk hp) (fun j=>2^(k+1-lenJ L k (2*n-2) j))
 rw [e,AGy,hx,hw,←Nat.pow_add];congr 1;omega
theorem AMp {zs:List Int} {n lim:Nat} {L:List Item} (hp:L.Perm (Qz zs n)) (hs:LexS L) (i k:Nat) (hi:i<n) (hk:k<n) (h:wgt (zs.getD k 0)<wgt (zs.getD i 0)):lenS L n lim i≤lenS L n lim k:=by
 refine APe L _ _ _ _ ?_
 rcases Nat.lt_or_ge (pos L i) (pos L k) with hlt | hge
 ·exfalso
  have hlk:=qs hp k hk
  have hli:=qs hp i hi
  have:=(List.pairwise_iff_getElem.1 hs.sorted) (pos L i) (pos L k) (by simpa [wts] using hli) (by simpa [wts] using hlk) hlt
  have e1:=AKu hp i hi
  have e2:=AKu hp k hk
  rw [AKf (by simpa [wts] using hli)] at e1
  rw [AKf (by simpa [wts] using hlk)] at e2
  omega
 ·exact hge
def lexB (a b:Item):Bool:=decide (a.1<b.1∨(a.1=b.1∧a.2≤b.2))
def ZW (zs:List Int):List Item:=(Qz zs zs.length).mergeSort lexB
theorem XE (zs:List Int):(ZW zs).Perm (Qz zs zs.length):=List.mergeSort_perm _ _
theorem Yj (zs:List Int):LexS (ZW zs):=by
 have h1:(ZW zs).Pairwise (fun a b=>lexB a b=true):=List.pairwise_mergeSort (le:=lexB)
  (fun a b c h h'=>by simp only [lexB,decide_eq_true_eq] at *;omega) (fun a b=>by simp only [lexB,Bool.or_eq_true,decide_eq_true_eq];omega) _
 have h2:=vj (XE zs)
 rw [List.Nodup,List.pairwise_map] at h2
 refine (h1.and h2).imp ?_
 intro a b h
 have h3:=h.1
 have h4:=h.2
 simp only [lexB,decide_eq_true_eq] at h3
 unfold lex
 omega
theorem AEr {zs:List Int} {L:List Item} (hp:L.Perm (Qz zs zs.length)) (hs:LexS L):L=ZW zs :=
 ALg hs (Yj zs) (hp.trans (XE zs).symm)
def Zj (zs:List Int) (lim:Nat):List Int:=if zs.length=1 then [1] else (List.range zs.length).map fun s=>(lenS (ZW zs) zs.length lim s:Int)
theorem XU (zs:List Int) (lim:Nat):(Zj zs lim).length=zs.length:=by unfold Zj;split <;> simp [*]
theorem va {zs:List Int} {L:List Item} (hp:L.Perm (Qz zs zs.length)) (hs:LexS L) (h2:2≤zs.length) (lim:Nat) :
 nats zs.length (fun s=>lenJ L (lim-1) (2*zs.length-2) (pos L s))=Qo (Zj zs lim):=by
 rw [AEr hp hs]
 unfold Zj Qo nats
 rw [if_neg (by omega),List.map_map]
 rfl
theorem Vw {zs:List Int} (h2:2≤zs.length) (lim s:Nat) (hs:s<zs.length):(Zj zs lim).getD s 0=(lenS (ZW zs) zs.length lim s:Int):=by
 unfold Zj;rw [if_neg (by omega)];simp [List.getD_eq_getElem?_getD,hs]
def Ji (zs:List Int) (lim:Int):Prop:=fOk zs=true∧1≤lim∧lim≤20∧zs.length≤2^lim.toNat
instance (zs:List Int) (lim:Int):Decidable (Ji zs lim):=by unfold Ji;exact inferInstance
theorem jn {zs:List Int} {lim:Nat} (h:Ji zs lim) (s:Nat) (hs:s<zs.length):1≤(Zj zs lim).getD s 0∧(Zj zs lim).getD s 0≤lim:=by
 obtain ⟨hf,h1,h20,hp⟩:=h
 have hn:=(Xs zs).1 hf
 rw [Int.toNat_natCast] at hp
 rcases Nat.lt_or_ge 1 zs.length with h2 | h2
 ·rw [Vw (by omega) lim s hs]
  have:=vk (XE zs) (Yj zs) (by omega) (by omega) hp s hs
  omega
 ·have e:zs.length=1:=by omega
  have e0:s=0:=by omega
  subst e0
  unfold Zj;rw [if_pos e];simp;omega
theorem ADr {zs:List Int} {lim:Nat} (h:Ji zs lim):ZR (Zj zs lim):=by
 have hn:=(Xs zs).1 h.1
 refine ⟨by rw [XU];omega,by rw [XU];omega,fun k hk=>?_⟩
 rw [XU] at hk
 have:=jn h k hk
 have:=h.2.2.1
 omega
theorem AHg {zs:List Int} {lim:Nat} (h:Ji zs lim):Zv (Zj zs lim)=if zs.length=1 then 524288 else 1048576:=by
 rw [JJ (ADr h),XU]
 obtain ⟨hf,h1,h20,hp⟩:=h
 have hn:=(Xs zs).1 hf
 rw [Int.toNat_natCast] at hp
 by_cases e:zs.length=1
 ·rw [if_pos e,e]
  unfold Zj;rw [if_pos e]
  rfl
 ·rw [if_neg e]
  unfold kSum
  have hk:=ANm (XE zs) (Yj zs) (by omega) (by omega) hp 20 (by omega)
  have e2:rsum zs.length (fun j=>2^(20-((Zj zs lim).getD j 0).toNat))=rsum zs.length (fun s=>2^(20-lenS (ZW zs) zs.length lim s)) :=
   Jb fun s hs=>by rw [Vw (by omega) lim s hs,Int.toNat_natCast]
  rw [e2,hk];rfl
theorem AQu {zs:List Int} {lim:Nat} (h:Ji zs lim):lOk (Zj zs lim)=true:=by
 unfold lOk;rw [AHg h];split <;> decide
theorem AXp {x:Int} (h:1≤x):wgt x=x.toNat:=by unfold wgt;rw [if_neg (by omega)]
theorem ADg {fs:List Int} {lim:Nat} (h:Ji fs lim) (i k:Nat) (hi:i<fs.length) (hk:k<fs.length) (h1:fs.getD k 0<fs.getD i 0) (h2:1<fs.getD i 0):(Zj fs lim).getD i 0≤(Zj fs lim).getD k 0:=by
 have hn:=(Xs fs).1 h.1
 rcases Nat.lt_or_ge 1 fs.length with h3 | h3
 ·rw [Vw (by omega) lim i hi,Vw (by omega) lim k hk]
  refine Int.ofNat_le.2 (AMp (XE fs) (Yj fs) i k hi hk ?_)
  have:=hn.2.2 k hk
  rw [AXp (by omega:1≤fs.getD i 0)]
  unfold wgt
  split <;> omega
 ·have:i=0:=by omega
  have:k=0:=by omega
  subst_vars
  exact Int.le_refl _
def grp (n:Nat):Nat:=(n+9) / 10
theorem APw {i n:Nat} (h:i<n):i / 10<grp n:=by unfold grp;omega
theorem AGx (n:Nat):grp n≤n:=by unfold grp;omega
def inT (S G:List Int) (t s:Nat) (i:Nat):Bool:=decide (G.getD (i / 10) 0=(t:Int)) && decide (S.getD i 0=(s:Int))
def frqN (S G:List Int) (t m s:Nat):Nat:=(List.range m).countP (inT S G t s)
theorem zw (S G:List Int) (t m s:Nat):frqN S G t (m+1) s=frqN S G t m s+if inT S G t s m=true then 1 else 0:=by
 unfold frqN
 rw [List.range_succ,List.countP_append,List.countP_singleton]
theorem xz (S G:List Int) (t m s:Nat):frqN S G t m s≤m:=by
 unfold frqN
 have:=List.countP_le_length (p:=inT S G t s) (l:=List.range m)
 rwa [List.length_range] at this
def frqL (S G:List Int) (t n:Nat):List Int:=(List.range n).map fun s=>(frqN S G t S.length s:Int)
theorem Xn (S G:List Int) (t n:Nat):(frqL S G t n).length=n:=by unfold frqL;simp
def tabL (S G:List Int) (n k:Nat):List (List Int):=(List.range k).map fun t=>Zj (frqL S G t n) 20
theorem Zc (S G:List Int) (n k:Nat):(tabL S G n k).length=k:=by unfold tabL;simp
theorem jN (S G:List Int) (n k t:Nat) (h:t<k):(tabL S G n k).getD t []=Zj (frqL S G t n) 20:=by
 unfold tabL;simp [List.getD_eq_getElem?_getD,h]
def bitF (S l:List Int) (a:Nat):Nat→Int
 | 0=>0
 | c+1=>bitF S l a c+if a+c<S.length then l.getD (S.getD (a+c) 0).toNat 0 else 0
def bitG (S l:List Int) (g:Nat):Int:=bitF S l (10*g) 10
def bstN (S:List Int) (T:List (List Int)) (g:Nat):Nat→Nat
 | 0=>0
 | 1=>0
 | k+2=>if bitG S (T.getD (k+1) []) g<bitG S (T.getD (bstN S T g (k+1)) []) g then k+1 else bstN S T g (k+1)
theorem xv (S:List Int) (T:List (List Int)) (g:Nat):∀ k,0<k→bstN S T g k<k
 | 0,h=>by omega
 | 1,_=>by unfold bstN;omega
 | k+2,_=>by
   have:=xv S T g (k+1) (by omega)
   unfold bstN
   split <;> omega
def chN (S:List Int) (T:List (List Int)):List Nat:=(List.range (grp S.length)).map fun g=>bstN S T g T.length
theorem VZ (S:List Int) (T:List (List Int)):(chN S T).length=grp S.length:=by unfold chN;simp
def chL (S:List Int) (T:List (List Int)):List Int:=(chN S T).map fun (x:Nat)=>(x:Int)
def sel0 (S:List Int) (k:Nat):List Int:=(List.range (grp S.length)).map fun i=>((i*k / grp S.length:Nat):Int)
def sel1 (S:List Int) (n k:Nat):List Int:=chL S (tabL S (sel0 S k) n k)
def sel2 (S:List Int) (n k:Nat):List Int:=chL S (tabL S (sel1 S n k) n k)
def tab2 (S:List Int) (n k:Nat):List (List Int):=tabL S (sel2 S n k) n k
end Go.Proofs.YtembljihmnmmfaaGreat
namespace Go.Proofs.YtembljihmnmmfaaGreat
set_option linter.unusedVariables false
set_option linter.unusedSimpArgs false
open Go.RowKit
theorem AIr (a:Option Addr) (cap B lim:Nat) (zs:List Int) (w:World) (hz:Ints w B a zs) (hB:B≤w.heap.size) (h:Ji zs lim) :
 Calls Tryz.prog 150 #[.slice a zs.length cap,.int .i64 lim] w fun e w'=>∃ v,e=.returned (.tuple #[v,.bool true])∧w'.ownsRow w.heap.size 3 1 v zs.length (Qo (Zj zs lim))∧Below w.heap.size w w':=by
 obtain ⟨hf,h1,h20,hp⟩:=h
 rw [Int.toNat_natCast] at hp
 have hn:=(Xs zs).1 hf
 by_cases e1:zs.length=1
 ·refine (AHb a cap B lim zs w hz hB hf (by omega) (by omega) e1).mono ?_
  rintro e w' ⟨rfl,rfl⟩
  refine ⟨_,rfl,?_,(Below.refl _ _).alloc (Nat.le_refl _) _⟩
  have e2:Zj zs lim=[1]:=by unfold Zj;rw [if_pos e1]
  rw [e2,e1]
  exact World.ownsRow_lit w #[.int .i64 1] 1 (Nat.le_refl _) (by decide) rfl
 ·refine (AEg a cap B lim zs w hz hB hf (by omega) (by omega) (by omega) hp).mono ?_
  rintro e w' ⟨v,L,rfl,hL,hs,hown,hb⟩
  rw [va hL hs (by omega)] at hown
  exact ⟨v,rfl,hown,hb⟩
end Go.Proofs.YtembljihmnmmfaaGreat
namespace Go.Proofs.YtembljihmnmmfaaGreat
set_option linter.unusedVariables false
set_option linter.unusedSimpArgs false
def Jk (T:List (List Int)) (G:List Int) (i:Nat):List Int:=T.getD (G.getD (i / 10) 0).toNat []
def cpF (S:List Int) (T:List (List Int)) (G:List Int):Nat→List Nat
 | 0=>[]
 | i+1=>cpF S T G i++qw (Jk T G i) (S.getD i 0).toNat
def cpN (S:List Int) (T:List (List Int)) (G:List Int):Nat→Nat
 | 0=>0
 | i+1=>cpN S T G i+lnF (Jk T G i) (S.getD i 0).toNat
theorem qd (S:List Int) (T:List (List Int)) (G:List Int):∀ i,(cpF S T G i).length=cpN S T G i
 | 0=>rfl
 | i+1=>by unfold cpF cpN;rw [List.length_append,qd];unfold qw;rw [Qt]
structure CdArg (S:List Int) (T:List (List Int)) (G:List Int) (n:Nat):Prop where
 tab:∀ j,j<T.length→(T.getD j []).length=n∧lOk (T.getD j [])=true
 sel:∀ g,g<G.length→0≤G.getD g 0∧G.getD g 0<(T.length:Int)
 len:G.length=grp S.length
 sym:∀ k,k<S.length→0≤S.getD k 0∧S.getD k 0<(n:Int)
theorem CdArg.of {S:List Int} {T:List (List Int)} {G:List Int} {n:Nat} (h:CdArg S T G n) {i:Nat} (hi:i<S.length) :
 ∃ k x:Nat,k<T.length∧x<n∧G.getD (i / 10) 0=(k:Int)∧S.getD i 0=(x:Int)∧Jk T G i=T.getD k []∧i / 10<G.length:=by
 have hg:i / 10<G.length:=by rw [h.len];exact APw hi
 have h1:=h.sel _ hg
 have h2:=h.sym _ hi
 refine ⟨(G.getD (i / 10) 0).toNat,(S.getD i 0).toNat,by omega,by omega,by omega,by omega,rfl,hg⟩
theorem zF {S:List Int} {T:List (List Int)} {G:List Int} {n:Nat} (h:CdArg S T G n):∀ i,i≤S.length→cpN S T G i≤20*i
 | 0,_=>by simp [cpN]
 | i+1,hi=>by
   have ih:=zF h i (by omega)
   obtain ⟨k,x,hk,hx,e1,e2,e3,_⟩:=h.of (i:=i) (by omega)
   obtain ⟨h1,h2⟩:=h.tab k hk
   unfold cpN
   rw [e3,e2,Int.toNat_natCast]
   have:=(Zk (Zq h2) x (by omega)).2
   omega
inductive Fin12 (s:ByteArray) (T:List (List Int)) (G:List Int) (e:Int):Nat→Nat→List Nat→Nat→Prop
 | last (a i n x:Nat) (h1:i<2000) (h2:hit (Jk T G i) s a n x) (h3:(x:Int)=e) (h4:grp (i+1)=G.length):Fin12 s T G e a i [x] (a+n)
 | more (a i n x:Nat) (xs:List Nat) (b:Nat) (h1:i<2000) (h2:hit (Jk T G i) s a n x) (h3:(x:Int)≠e) (h4:Fin12 s T G e (a+n) (i+1) xs b):Fin12 s T G e a i (x::xs) b
theorem Fin12.grp {s:ByteArray} {T:List (List Int)} {G:List Int} {e:Int} {a i:Nat} {xs:List Nat} {b:Nat} (h:Fin12 s T G e a i xs b):grp (i+xs.length)=G.length∧1≤xs.length∧i+xs.length≤2000:=by
 induction h with
 | last a i n x h1 h2 h3 h4=>exact ⟨h4,Nat.le_refl _,h1⟩
 | more a i n x xs b h1 h2 h3 h4 ih =>
   rw [List.length_cons]
   have e:i+(xs.length+1)=i+1+xs.length:=by omega
   rw [e]
   exact ⟨ih.1,by omega,ih.2.2⟩
theorem Fin12.room {s:ByteArray} {T:List (List Int)} {G:List Int} {e:Int} {a i:Nat} {xs:List Nat} {b:Nat} (h:Fin12 s T G e a i xs b):i<2000∧i / 10<G.length:=by
 have h1:=h.grp
 have h2:=h1.1
 unfold Go.Proofs.YtembljihmnmmfaaGreat.grp at h2
 omega
structure GdArg (T:List (List Int)) (G:List Int) (n:Nat):Prop where
 tab:∀ j,j<T.length→(T.getD j []).length=n∧lOk (T.getD j [])=true
 sel:∀ g,g<G.length→0≤G.getD g 0∧G.getD g 0<(T.length:Int)
theorem GdArg.of {T:List (List Int)} {G:List Int} {n:Nat} (h:GdArg T G n) {i:Nat} (hi:i / 10<G.length) :
 ∃ k:Nat,k<T.length∧G.getD (i / 10) 0=(k:Int)∧Jk T G i=T.getD k []:=by
 have h1:=h.sel _ hi
 exact ⟨(G.getD (i / 10) 0).toNat,by omega,by omega,rfl⟩
theorem GdArg.ok {T:List (List Int)} {G:List Int} {n:Nat} (h:GdArg T G n) {i:Nat} (hi:i / 10<G.length):lOk (Jk T G i)=true:=by
 obtain ⟨k,hk,_,e⟩:=h.of hi
 rw [e];exact (h.tab k hk).2
theorem Fin12.lt {s:ByteArray} {T:List (List Int)} {G:List Int} {e:Int} {n:Nat} (hG:GdArg T G n) {a i:Nat} {xs:List Nat} {b:Nat} (h:Fin12 s T G e a i xs b):∀ x∈xs,x<n:=by
 induction h with
 | last a i m x h1 h2 h3 h4 =>
   have hr:i / 10<G.length:=(Fin12.last a i m x h1 h2 h3 h4).room.2
   obtain ⟨k,hk,_,e1⟩:=hG.of hr
   intro y hy
   rw [List.mem_singleton] at hy
   subst hy
   have:=h2.1
   rw [e1,(hG.tab k hk).1] at this
   exact this
 | more a i m x xs b h1 h2 h3 h4 ih =>
   have hr:i / 10<G.length:=(Fin12.more a i m x xs b h1 h2 h3 h4).room.2
   obtain ⟨k,hk,_,e1⟩:=hG.of hr
   intro y hy
   rcases List.mem_cons.1 hy with rfl | hy
   ·have:=h2.1
    rw [e1,(hG.tab k hk).1] at this
    exact this
   ·exact ih y hy
theorem Fin12.le {s:ByteArray} {T:List (List Int)} {G:List Int} {e:Int} {a i:Nat} {xs:List Nat} {b:Nat} (h:Fin12 s T G e a i xs b):b≤8*s.size:=by
 induction h with
 | last a i m x h1 h2 h3 h4=>exact h2.2.2.1
 | more a i m x xs b h1 h2 h3 h4 ih=>exact ih
def ltI (a b:Item):Bool:=decide (a.1<b.1)
theorem AXn (L M:List Item) (hL:LexS L) (hM:LexS M) (h:∀ x∈L,∀ y∈M,x.2<y.2):LexS (mrg ltI L M):=by
 induction L,M using mrg.induct (lt:=ltI) with
 | case1 M=>rw [YL];exact hM
 | case2 x L=>rw [Vr];exact hL
 | case3 x L y M hc ih =>
   rw [mrg,if_pos hc]
   have hM':=List.pairwise_cons.1 hM
   unfold LexS at *
   refine List.pairwise_cons.2 ⟨fun z hz=>?_,ih hL hM'.2 (fun a ha b hb=>h a ha b (List.mem_cons_of_mem _ hb))⟩
   rcases List.mem_append.1 ((Vj _ _ _).mem_iff.1 hz) with hz | hz
   ·have hy:y.1<x.1:=by simpa [ltI] using hc
    rcases List.mem_cons.1 hz with rfl | hz
    ·exact .inl hy
    ·rcases (List.pairwise_cons.1 hL).1 z hz with h1 | h1 <;> exact .inl (by omega)
   ·exact hM'.1 z hz
 | case4 x L y M hc ih =>
   rw [mrg,if_neg hc]
   have hL':=List.pairwise_cons.1 hL
   unfold LexS at *
   refine List.pairwise_cons.2 ⟨fun z hz=>?_,ih hL'.2 hM (fun a ha b hb=>h a (List.mem_cons_of_mem _ ha) b hb)⟩
   rcases List.mem_append.1 ((Vj _ _ _).mem_iff.1 hz) with hz | hz
   ·exact hL'.1 z hz
   ·have hx:x.1≤y.1:=by simpa [ltI] using hc
    have hs:=h x (by simp) z hz
    rcases List.mem_cons.1 hz with rfl | hz
    ·rcases Nat.lt_or_ge x.1 z.1 with h1 | h1
     ·exact .inl h1
     ·exact .inr ⟨by omega,hs⟩
    ·rcases (List.pairwise_cons.1 hM).1 z hz with h1 | h1
     ·exact .inl (by omega)
     ·rcases Nat.lt_or_ge x.1 z.1 with h2 | h2
      ·exact .inl h2
      ·exact .inr ⟨by omega,hs⟩
theorem AXx (L:List Item) (h:L.Pairwise (fun a b=>a.2<b.2)):LexS (srt ltI L):=by
 induction L using srt.induct with
 | case1 L h2 =>
   rw [Yn ltI L h2]
   match L,h2 with
   | [],_=>exact List.Pairwise.nil
   | [x],_=>exact List.pairwise_singleton _ _
 | case2 L h2 ih1 ih2 =>
   rw [qu ltI L h2]
   rw [←List.take_append_drop (L.length / 2) L,List.pairwise_append] at h
   refine AXn _ _ (ih1 h.1) (ih2 h.2.1) ?_
   intro x hx y hy
   exact h.2.2 x ((XI _ _).mem_iff.1 hx) y ((XI _ _).mem_iff.1 hy)
theorem APc (zs:List Int) (k:Nat):(Qz zs k).Pairwise (fun a b=>a.2<b.2):=by
 unfold Qz
 rw [List.pairwise_map]
 exact List.pairwise_lt_range.imp fun {a b} h=>by show (a:Int)<b;omega
theorem AQb (zs:List Int):srt ltI (Qz zs zs.length)=ZW zs:=AEr (XI _ _) (AXx _ (APc zs _))
def pks (R:List Item):List Item:=(packs R).map fun p=>(p,(-1:Int))
theorem vV (R:List Item):(pks R).length=R.length / 2:=by simp [pks,Jt]
theorem AQr (L:List Item) (P:List Nat):mrg ltI L (P.map fun p=>(p,(-1:Int)))=Qn L P:=by
 induction L,P using Qn.induct with
 | case1 L=>rw [Qn];exact Vr _ _
 | case2 p P ih=>rw [Qn,YL];rw [YL] at ih;rw [←ih];rfl
 | case3 x L p P h ih =>
   rw [Qn,if_pos h,List.map_cons,mrg,if_neg (by simp [ltI];omega),←ih];rfl
 | case4 x L p P h ih =>
   rw [Qn,if_neg h,List.map_cons,mrg,if_pos (by simp [ltI];omega),←ih]
theorem AYh (L R:List Item):mrg ltI L (pks R)=Qn L (packs R):=AQr L _
theorem AYu (R:List Item) (p:Nat) (h:2*p+1<R.length):(pks R)[p]'(by rw [vV];omega)=(R[2*p].1+R[2*p+1].1,-1):=by
 have h1:=ABx R p h
 have hp:p<(packs R).length:=by rw [Jt];omega
 rw [←List.getElem_cons_drop (h:=hp)] at h1
 injection h1 with h1 h2
 unfold pks
 rw [List.getElem_map,h1]
end Go.Proofs.YtembljihmnmmfaaGreat
