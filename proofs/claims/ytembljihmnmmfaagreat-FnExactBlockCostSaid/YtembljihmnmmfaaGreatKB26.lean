/- Texts of the proof, merged. -/
import Derived.Lib.Small
import Derived.Lib.Slices
import Derived.BigRegion
import Derived.RegionTactic
import Derived.ChangeAlike
import Derived.Maps.RangeWalk
import Derived.Test.YtembljihmnmmfaaGreatKB12
import Derived.Test.YtembljihmnmmfaaGreatKB16
namespace Go.Proofs.YtembljihmnmmfaaGreat
set_option maxHeartbeats 1000000
set_option maxRecDepth 100000
set_option linter.unusedVariables false
set_option linter.unusedSimpArgs false
open Go.RowKit Go.Maps
def grpN (u:List Nat) (g:Nat):Nat:=u.countP (fun b=>decide (b / 16=g))
def befG (u:List Nat) (g:Nat):Nat:=u.countP (fun b=>decide (b / 16<g))
def befB (u:List Nat) (x:Nat):Nat:=u.countP (fun b=>decide (b<x))
theorem ARe (u:List Nat):befG u 0=0:=by unfold befG;rw [List.countP_eq_zero];simp
theorem AQa (u:List Nat) (g:Nat):befG u (g+1)=befG u g+grpN u g:=by
 unfold befG grpN
 induction u with
 | nil=>rfl
 | cons b u ih =>
   simp only [List.countP_cons,ih,decide_eq_true_eq]
   repeat' split
   all_goals omega
theorem APr (u:List Nat) (x:Nat):befB u (x+1)=befB u x+u.count x:=by
 unfold befB
 induction u with
 | nil=>rfl
 | cons b u ih =>
   simp only [List.countP_cons,List.count_cons,ih,decide_eq_true_eq,beq_iff_eq]
   repeat' split
   all_goals omega
theorem ALh (u:List Nat) (g:Nat):befB u (16*g)=befG u g:=by
 unfold befB befG
 apply List.countP_congr
 intro b _
 simp only [decide_eq_true_eq]
 omega
theorem AOa {u v:List Nat} (h:u.Perm v) (x:Nat):befB u x=befB v x:=h.countP_eq _
theorem AWa (u:List Nat) (g:Nat):befG u g≤u.length:=List.countP_le_length
theorem AZc (u:List Nat) (g:Nat):befB u g≤u.length:=List.countP_le_length
theorem AYj:∀ {P:List Nat} {x:Nat},P.Pairwise (·<·)→x∈P→P.idxOf x=befB P x:=by
 intro P
 induction P with
 | nil=>intro x _ h;cases h
 | cons a P ih =>
   intro x hp hx
   rw [List.pairwise_cons] at hp
   unfold befB
   by_cases e:a=x
   ·subst e
    rw [List.idxOf_cons_self,List.countP_cons]
    have:P.countP (fun b=>decide (b<a))=0:=by
     rw [List.countP_eq_zero]
     intro b hb
     have:=hp.1 b hb
     simp;omega
    rw [this];simp
   ·have hx2:x∈P:=by
     rcases List.mem_cons.1 hx with h | h
     ·exact absurd h.symm e
     ·exact h
    have:=hp.1 x hx2
    rw [List.idxOf_cons,List.countP_cons,ih hp.2 hx2]
    unfold befB
    simp [this,beq_false_of_ne e]
def blC (mb:Nat) (f:Nat→Nat):Array Value:=(Value.map (some mb)::nats 16 f).toArray
theorem qb (mb:Nat) (f:Nat→Nat):(blC mb f)[0]? = some (.map (some mb)):=rfl
theorem AAc (mb:Nat) (f:Nat→Nat) (g:Nat) (h:g<16):(blC mb f)[1+g]? = some (.int .i64 (f g:Int)):=by
 unfold blC
 rw [Nat.add_comm]
 simp [Qw 16 f g h]
theorem AJw (mb:Nat) (f:Nat→Nat) (g x:Nat) (h:g<16):(blC mb f).setIfInBounds (1+g) (.int .i64 (x:Int))=blC mb (fun t=>if t=g then x else f t):=by
 unfold blC
 rw [Nat.add_comm,←Zb]
 simp
theorem zt {mb:Nat} {f g:Nat→Nat} (h:∀ t,t<16→f t=g t):blC mb f=blC mb g:=by unfold blC;rw [Qu h]
theorem AVq (u:List Nat) (b:Nat):(fun t=>grpN (u++[b]) t)=fun t=>if t=b / 16 then grpN u (b / 16)+1 else grpN u t:=by
 funext t
 unfold grpN
 rw [List.countP_append]
 by_cases e:t=b / 16
 ·subst e;simp
 ·simp [e,Ne.symm e]
def BL (W:World) (lb mb:Nat) (u:List Nat):Prop:=Has W lb 170 (blC mb (grpN u))∧Zh W mb 1048576 (fun b=>u.count b)
theorem AMu (s:ByteArray) (w:World) (hs:s.size≤1048576) :
 Calls Tryz.prog 120 #[.string s] w fun e w'=>∃ lb,e=.returned (.pointer (some ⟨lb,0,none⟩))∧w.heap.size<lb∧BL w' lb w.heap.size (Qb s)∧Below w.heap.size w w':=by
 have K:=Qa (fun W:World=>JF s W hs)
 have HALL:Hid ((Qb s).take s.size=Qb s):=Qa (by rw [←Qf];exact List.take_length)
 have HTK:=Qa (fun k h=>qE s k h)
 obtain ⟨L,hL⟩:∃ L,Qb s=L:=⟨_,rfl⟩
 rw [hL] at K HALL HTK ⊢
 clear hL
 go_enter Tryz.func120,Tryz.ntmps120
 go_wp2_with fail
 refine (K.out _).mono ?_
 rintro e w1 ⟨rfl,hC,b1⟩
 have hlb:=hC.lt
 have hB0:Has (w1.alloc (.cells (blC w.heap.size (fun _=>0)) 170)) w1.heap.size 170 (blC w.heap.size (grpN (L.take 0))):=by
  have:=Has.fresh w1 170 (blC w.heap.size (fun _=>0))
  rwa [show blC w.heap.size (grpN (L.take 0))=blC w.heap.size (fun _=>0) from zt (fun t _=>by simp [grpN])]
 have hb0:Below w1.heap.size w1 (w1.alloc (.cells (blC w.heap.size (fun _=>0)) 170)):=(Below.refl _ _).alloc (Nat.le_refl _) _
 have e0:blC w.heap.size (fun _=>0)=#[Value.map (some w.heap.size),.int .i64 0,.int .i64 0,.int .i64 0,.int .i64 0,.int .i64 0,.int .i64 0,.int .i64 0,.int .i64 0,.int .i64 0,.int .i64 0,.int .i64 0,.int .i64 0,.int .i64 0,.int .i64 0,.int .i64 0,.int .i64 0]:=rfl
 rw [e0] at hB0 hb0
 clear e0
 go_wp2
 go_loopw [4,11] (fun _ sk wr=>∃ k:Nat,k≤s.size∧sk=.int .i64 k∧Has wr w1.heap.size 170 (blC w.heap.size (grpN (L.take k)))∧Below w1.heap.size w1 wr) (fun _ sk _=>s.size-(intOf sk).toNat)
 case atStart=>exact ⟨0,by omega,rfl,hB0,hb0⟩
 case round =>
  obtain ⟨k,hk,rfl,hB,hbl⟩:=hrel
  clear hB0 hb0
  by_cases hlt:k<s.size
  ·have hx256:s[k].toNat<256:=UInt8.toNat_lt _
   have HTK2:=Qa (HTK.out k hlt)
   obtain ⟨x,hx⟩:∃ x,s[k].toNat=x:=⟨_,rfl⟩
   rw [hx] at HTK2 hx256
   have hg16:x / 16<16:=by omega
   have HGS:=Qa (AVq (L.take k) x)
   rw [←HTK2.out] at HGS
   have hgl:grpN (L.take k) (x / 16)≤k:=by
    have h1:grpN (L.take k) (x / 16)≤(L.take k).length:=List.countP_le_length
    rw [List.length_take] at h1;omega
   have d0:=hB.cell (1+x / 16)
   rw [AAc _ _ _ hg16] at d0
   have f0:=hB.free (1+x / 16)
   have hB2:=fun (c:Nat)=>hB.store (1+x / 16) (.int .i64 (c:Int))
   obtain ⟨c,hcc⟩:∃ c,grpN (L.take k) (x / 16)=c:=⟨_,rfl⟩
   rw [hcc] at d0 hgl HGS
   clear hcc
   go_wp2
   go_region
   all_goals go_wp2
   have HE:Hid (blC w.heap.size (grpN (L.take (k+1)))=blC w.heap.size (fun t=>if t=x / 16 then c+1 else grpN (L.take k) t)):=Qa (zt (fun t _=>congrFun HGS.out t))
   refine ⟨⟨k+1,by omega,by go_num,?_,(hbl.setCell (p:=⟨w1.heap.size,1+x / 16,none⟩) (Nat.le_refl _) _).drew⟩,by simp [intOf];omega⟩
   rw [HE.out,←AJw _ _ _ _ hg16]
   exact (hB.store (1+x / 16) _).drew
  ·have hkn:k=s.size:=by omega
   subst hkn
   rw [HALL.out] at hB
   have hbw:=b1.size
   go_wp2
   go_ret
   exact ⟨_,rfl,hlb,⟨hB,(hC.below hbl).mono hs⟩,b1.trans (hbl.mono hbw)⟩
theorem BL.lt {W:World} {lb mb:Nat} {u:List Nat} (h:BL W lb mb u):lb<W.heap.size∧mb<W.heap.size:=⟨h.1.lt,h.2.lt⟩
theorem BL.below {W W':World} {lb mb:Nat} {u:List Nat} (h:BL W lb mb u) (hb:Below W.heap.size W W'):BL W' lb mb u:=⟨h.1.below hb h.1.lt,h.2.below hb⟩
theorem BL.drewN {W:World} {lb mb:Nat} {u:List Nat} (h:BL W lb mb u) (n:Nat):BL (W.drewN n) lb mb u:=h
def Two (g h:Nat) (a w:World):Prop:=w.os=a.os∧w.tape=a.tape∧w.output=a.output∧a.heap.size≤w.heap.size∧∀ i,i<a.heap.size→i≠g→i≠h→w.heap[i]? = a.heap[i]?
theorem Two.of {g h:Nat} {a b c:World} (h1:a.grownBy b (some h)) (h2:Only g b c):Two g h a c :=
 ⟨h2.os.trans h1.os,h2.tape.trans h1.tape,h2.output.trans h1.output,Nat.le_trans h1.size h2.size,fun i hi hg hh=>(h2.block i (Nat.lt_of_lt_of_le hi h1.size) (by simpa using hg)).trans (h1.block i hi (by simpa using hh))⟩
theorem Two.below {g h B:Nat} {a w:World} (k:Two g h a w) (hg:B≤g) (hh:B≤h) (hB:B≤a.heap.size):Below B a w :=
 ⟨k.1,k.2.1,k.2.2.1,k.2.2.2.1,fun i hi=>k.2.2.2.2 i (by omega) (by omega) (by omega)⟩
theorem Two.has {g h b:Nat} {a w:World} {T:TypeId} {cs:Array Value} (k:Two g h a w) (hb:Has a b T cs) (hg:b≠g) (hh:b≠h):Has w b T cs:=(k.2.2.2.2 b hb.lt hg hh).trans hb
theorem Two.own {g h base n S:Nat} {E:TypeId} {a w:World} {v:Value} {xs:List Value} (k:Two g h a w) (ho:a.ownsRow base E S v n xs) (hg:v.ownBlock≠some g) (hh:v.ownBlock≠some h):w.ownsRow base E S v n xs:=by
 refine ⟨ho.1,?_⟩
 rcases ho.2 with h2 | ⟨b,cap,cur,hv,hb,hc,hr⟩
 ·exact .inl h2
 ·subst hv
  refine .inr ⟨b,cap,cur,rfl,hb,?_,hr⟩
  rw [k.2.2.2.2 b (Array.getElem?_eq_some_iff.1 hc).1 (fun e=>hg (by rw [e];rfl)) (fun e=>hh (by rw [e];rfl))]
  exact hc
theorem ASd (lb mb:Nat) (u:List Nat) (w:World) (h:BL w lb mb u) (hu:u.Nodup) (hb:Byt u) :
 Calls Tryz.prog 155 #[.pointer (some ⟨lb,0,none⟩)] w fun e w'=>e=.returned (.int .i64 (u.length:Int))∧w=w':=by
 obtain ⟨hB,D,hown,hC⟩:=h
 have c0:=hB.cell 0
 rw [qb] at c0
 have hlen:=hown.len Tryz.underlying119
 rw [hC.2.2.2,xo,(VS hb).2 hu] at hlen
 clear hC hown hB
 go_enter Tryz.func155,Tryz.ntmps155
 go_wp2
 go_ret
 exact ⟨rfl,rfl⟩
theorem APu {u:List Nat} {b:Nat} (h:b∈u) (t:Nat):grpN (u.erase b) t=if t=b / 16 then grpN u (b / 16)-1 else grpN u t:=by
 have hp:grpN u t=grpN (b::u.erase b) t:=(List.perm_cons_erase h).countP_eq _
 have hc:grpN (b::u.erase b) t=grpN (u.erase b) t+(if b / 16=t then 1 else 0):=by
  unfold grpN
  rw [List.countP_cons]
  simp
 rw [hc] at hp
 by_cases e:t=b / 16
 ·subst e;rw [if_pos rfl];rw [if_pos rfl] at hp;omega
 ·rw [if_neg e];rw [if_neg (Ne.symm e)] at hp;omega
theorem AQq {u:List Nat} {b:Nat} (h:b∈u):1≤grpN u (b / 16):=List.countP_pos_iff.2 ⟨b,h,by simp⟩
theorem ADo {u:List Nat} {b:Nat} (hn:u.Nodup) (h:b∈u) (t:Nat):(u.erase b).count t=if t=b then 0 else u.count t:=by
 rw [List.count_erase]
 by_cases e:t=b
 ·subst e;rw [hn.count];simp [h]
 ·simp [e,Ne.symm e]
theorem AMq (lb mb b:Nat) (u:List Nat) (w:World) (h:BL w lb mb u) (hu:u.Nodup) (hb:b∈u) (hb256:b<256) (hne:mb≠lb) (hul:u.length≤1048576) :
 Calls Tryz.prog 123 #[.pointer (some ⟨lb,0,none⟩),.int .u8 b] w fun e w'=>e=.returned (.tuple #[])∧BL w' lb mb (u.erase b)∧Two lb mb w w':=by
 obtain ⟨hB,D,hown,hC⟩:=h
 have hg16:b / 16<16:=by omega
 have hbl:=hB.lt
 have hml:=hown.lt
 have c0:=hB.cell 0
 rw [qb] at c0
 have HCD:=Qa (APv (AYw hC hb256) (g:=fun t=>(u.erase b).count t) (fun t _=>(ADo hu hb t).symm))
 have hp:=AQq hb
 have HGE:=Qa (APu hb)
 have hgl:grpN u (b / 16)≤u.length:=List.countP_le_length
 have hkey:=keyB hb256
 have HB:=Qa hB
 obtain ⟨c,hcc⟩:∃ c,grpN u (b / 16)=c:=⟨_,rfl⟩
 have HCC:=Qa hcc
 rw [hcc] at hp HGE hgl
 clear hC hcc
 go_enter Tryz.func123,Tryz.ntmps123
 go_wp2_with (at_delete;refine wpList_delete_own _ rfl _ _ 119 5 rfl 3 JC Tryz.underlying119 _ mb 1048576 D rfl hown _ _ rfl hkey ?_;intro w1 hown1 hturn1;go_frame)
 have hg1:=hturn1.grown
 have hB1:=HB.out.grown hg1 (by simp;omega)
 have d0:=hB1.cell (1+b / 16)
 rw [AAc _ _ _ hg16,HCC.out] at d0
 have f0:=hB1.free (1+b / 16)
 clear hturn1 hown c0 hB
 go_wp2
 go_region
 all_goals go_wp2
 have HE:Hid (blC mb (grpN (u.erase b))=blC mb (fun t=>if t=b / 16 then c-1 else grpN u t)):=Qa (zt (fun t _=>HGE.out t))
 have hcz:((c:Int)-1)=((c-1:Nat):Int):=by omega
 have hB2:Has (w1.setCell ⟨lb,1+b / 16,none⟩ (.int .i64 ((c:Int)-1))).drew lb 170 (blC mb (grpN (u.erase b))):=by
  rw [HE.out,←AJw _ _ _ _ hg16,hcz]
  exact (hB1.store (1+b / 16) _).drew
 have hO2:Only lb w1 (w1.setCell ⟨lb,1+b / 16,none⟩ (.int .i64 ((c:Int)-1))).drew:=((Only.refl lb w1).store (.inl rfl) _).drew
 have hM2:Zh (w1.setCell ⟨lb,1+b / 16,none⟩ (.int .i64 ((c:Int)-1))).drew mb 1048576 (fun t=>(u.erase b).count t):=Zh.setCell ⟨_,hown1,HCD.out⟩ (p:=⟨lb,1+b / 16,none⟩) (by simpa using hne) _
 go_end0
 exact ⟨rfl,⟨hB2,hM2⟩,Two.of hg1 hO2⟩
end Go.Proofs.YtembljihmnmmfaaGreat
