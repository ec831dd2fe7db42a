/- Texts of the proof, merged. -/
import Derived.Maps.AppendAt
import Derived.Deep.LoopGhost
import Derived.BigQuiet
import Derived.Deep.QuietTactic
import Derived.Test.YtembljihmnmmfaaGreatKB2
import Derived.Lib.Strings
import Derived.Test.YtembljihmnmmfaaGreatKB6
import Derived.Lib.SmallJoins
import Derived.Carry
set_option maxHeartbeats 2000000
set_option maxRecDepth 100000
namespace Go.Proofs.YtembljihmnmmfaaGreat
set_option linter.unusedVariables false
set_option linter.unusedSimpArgs false
open Go.RowKit
theorem qE (s:ByteArray) (k:Nat) (h:k<s.size):(Qb s).take (k+1)=(Qb s).take k++[s[k].toNat]:=by
 have hk:k<(Qb s).length:=by rw [Qf];exact h
 rw [List.take_succ_eq_append_getElem hk]
 congr 2
 have:=Zn s k
 rw [List.getD_eq_getElem?_getD,List.getElem?_eq_getElem hk,Option.getD_some] at this
 rw [this,Xi _ _ h]
theorem AYl (s:ByteArray) (k:Nat) (h:k<s.size):nats 256 (fun b=>((Qb s).take (k+1)).count b)=(nats 256 (fun b=>((Qb s).take k).count b)).set s[k].toNat (.int .i64 ((((Qb s).take k).count s[k].toNat+1:Nat):Int)):=by
 rw [Zb]
 refine Qu fun t ht=>?_
 rw [qE s k h,List.count_append]
 by_cases e:t=s[k].toNat
 ·subst e;simp
 ·simp [e,List.count_cons,Ne.symm e]
theorem YW (s:ByteArray) (w:World) (hs:s.size≤1048576) :
 Calls Tryz.prog 91 #[.string s] w fun e w'=>e=.returned (.slice (some ⟨w.heap.size,0,none⟩) 256 256)∧w'.ownsRow w.heap.size 3 1 (.slice (some ⟨w.heap.size,0,none⟩) 256 256) 256 (nats 256 (fun b=>(Qb s).count b))∧Below w.heap.size w w':=by
 obtain ⟨j0,ji,jz0,jz1,jz2⟩:=info_parts Tryz.infoInt
 have HALL:Hid ((Qb s).take s.size=Qb s):=Qa (by rw [←Qf];exact List.take_length)
 go_enter Tryz.func91,Tryz.ntmps91
 go_wp2_with (at_make;refine wpList_make_full _ rfl _ _ 24 rfl w.heap.size 3 j0 (.int .i64 0) 1 Tryz.underlying24 ji jz0 jz1 .i64 .i64 _ _ 256 rfl rfl rfl rfl ?cb1 ?cb2 ?cb3 ?_)
 case cb1=>rw [jz2];omega
 case cb2=>unfold maxLen;omega
 case cb3=>exact Nat.le_refl _
 intro w1 hown hgrow
 have hbl:Below w.heap.size w w1:=⟨hgrow.os,hgrow.tape,hgrow.output,hgrow.size,fun i hi=>hgrow.block i hi (by simp)⟩
 rw [Zl] at hown
 clear hgrow
 go_wp2
 go_loopw [4] (fun si wr=>∃ k:Nat,k≤s.size∧si=.int .i64 k∧wr.ownsRow w.heap.size 3 1 (.slice (some ⟨w.heap.size,0,none⟩) 256 256) 256 (nats 256 (fun b=>((Qb s).take k).count b))∧Below w.heap.size w wr) (fun si _=>s.size-(intOf si).toNat)
 case atStart=>exact ⟨0,by omega,rfl,by simpa using hown,hbl⟩
 case round =>
  obtain ⟨k,hk,rfl,hownD,hblD⟩:=hrel
  by_cases hlt:k<s.size
  ·have hx:s[k].toNat<256:=UInt8.toNat_lt _
   have HUP:=Qa (AYl s k hlt)
   have d0:=hownD.cellAt s[k].toNat (by omega)
   rw [Qw _ _ _ hx] at d0
   have f0:=hownD.frozenAt s[k].toNat
   have hc:((Qb s).take k).count s[k].toNat≤k:=by
    have:=List.count_le_length (a:=s[k].toNat) (l:=(Qb s).take k)
    rw [List.length_take] at this;omega
   obtain ⟨c,hcc⟩:∃ c,((Qb s).take k).count s[k].toNat=c:=⟨_,rfl⟩
   rw [hcc] at hc d0 HUP
   clear hcc
   go_wp2
   go_roundw
   case rel=>exact ⟨k+1,by omega,by go_num,by rw [HUP.out];exact (hownD.stored _ _).1,hblD.setCell (Nat.le_refl _) _⟩
   case measure=>simp [intOf];omega
  ·have hkn:k=s.size:=by omega
   subst hkn
   rw [HALL.out] at hownD
   go_wp2
   go_ret
   exact ⟨rfl,hownD,hblD⟩
theorem yt (w:World):(convert 61 9 (.slice none 0 0)).run Tryz.prog w=.ok (.string ⟨#[]⟩) w:=by
 rw [run_convert_bytes_string w _ _ _ _ _ _ Tryz.underlying61 Tryz.underlying5 Tryz.underlying9]
 rfl
theorem JR {w:World} {base n:Nat} {v:Value} {D:List Nat} (h:w.ownsRow base 5 1 v n (u8s D)):(convert 61 9 v).run Tryz.prog w=.ok (.string (Qg D)) w:=by
 have hl:D.length=n:=by have:=h.1;rw [Zo] at this;omega
 rcases h.2 with ⟨hv,h0⟩ | ⟨gd,cp,cur,hv,_⟩
 ·subst hv
  have:D=[]:=List.length_eq_zero_iff.1 (by omega)
  subst this
  exact yt w
 ·subst hv
  exact vM (P:=Tryz.prog) (src:=61) (dst:=9) Tryz.underlying61 Tryz.underlying5 Tryz.underlying9 h hl
theorem Zf {B:Nat} {a wr w3:World} {v:Value} {n:Nat} {E:TypeId} {S:Nat} {xs:List Value} {cs:Array Value} {T:TypeId} (h:Below B a wr) (hB:B≤wr.heap.size) (hown:wr.ownsRow B E S v n xs) (hg:(wr.alloc (.cells cs T)).grownBy w3 v.ownBlock):Below B a w3 :=
 (h.alloc hB _).grown hg (by simp;omega) (fun g hg=>(hown.lt g hg).1)
theorem Xb (s:ByteArray) (w:World) (hs:s.size≤1048576) :
 Calls Tryz.prog 48 #[.string s] w fun e w'=>e=.returned (.string (Qg (Qm (Qb s))))∧Below w.heap.size w w':=by
 obtain ⟨i0,hi,hz0,hz1,hz2⟩:=info_parts Tryz.info5
 have K:=Qa (fun W:World=>YW s W hs)
 obtain ⟨L,hL⟩:∃ L,Qb s=L:=⟨_,rfl⟩
 rw [hL] at K ⊢
 clear hL
 have HS:Hid (∀ k,QV L (k+1)=if 0<L.count k then QV L k++[k] else QV L k):=Qa (AHx L)
 have HE:Hid (QV L 256=Qm L):=Qa rfl
 obtain ⟨f,hf⟩:∃ f:Nat→Nat,(fun b=>L.count b)=f:=⟨_,rfl⟩
 have HF:Hid (∀ k,f k=L.count k):=Qa (fun k=>by rw [←hf])
 rw [hf] at K
 clear hf
 go_enter Tryz.func48,Tryz.ntmps48
 go_wp2_with fail
 refine (K.out _).mono ?_
 rintro e w1 ⟨rfl,hC,b1⟩
 have hs1:=b1.size
 go_wp2
 go_loopw [4,5] (fun v si wr=>∃ k:Nat,k≤256∧si=.int .i64 k∧wr.ownsRow w1.heap.size 5 1 v (QV L k).length (u8s (QV L k))∧Below w1.heap.size w1 wr) (fun _ si _=>256-(intOf si).toNat)
 case atStart=>exact ⟨0,by omega,rfl,World.ownsRow_nil _ _ _ _,Below.refl _ _⟩
 case round =>
  obtain ⟨k,hk,rfl,hown,hbl⟩:=hrel
  have hsz:=hbl.size
  by_cases hlt:k<256
  ·have hle:=qK L k
   have d0:=(Ql hC hbl).cellAt k hlt
   rw [Qw _ _ _ hlt] at d0
   have hk8:(k:Int) % 256=k:=by omega
   by_cases hc:0<f k
   ·have HN:Hid (QV L (k+1)=QV L k++[k]):=Qa (by rw [HS.out,if_pos (by rw [←HF.out];exact hc)])
    go_wp2_with (at_builtin;refine wpList_append_own _ rfl _ _ 61 rfl w1.heap.size 5 i0 (.int .u8 0) 1 1 Tryz.underlying61 hi hz0 hz1 hz2 rfl (by decide) _ _ _ rfl (hown.alloc _) ⟨wr.heap.size,0,none⟩ 1 1 [.int .u8 (k:Int)] rfl rfl ?c1 ?c2 ?c3 ?c4 ?c5 ?_)
    case c1=>exact cell_one_new _ _ _
    case c2=>exact fun x hx=>by simp at hx;subst hx;rfl
    case c3=>unfold maxLen;omega
    case c4=>omega
    case c5=>simp;omega
    intro v' w3 hown' hgrow _
    have hb3:=Zf hbl hsz hown hgrow
    rw [←JW,←HN.out] at hown'
    have HO:Hid (w3.ownsRow w1.heap.size 5 1 v' (QV L (k+1)).length (u8s (QV L (k+1)))):=Qa (by have:=hown';rwa [show (QV L k).length+1=(QV L (k+1)).length by rw [HN.out];simp] at this)
    clear hown hgrow hbl hown'
    go_wp2
    go_roundw
    case rel=>exact ⟨k+1,by omega,by go_num,HO.out,hb3⟩
    case measure=>simp [intOf];omega
   ·have HN:Hid (QV L (k+1)=QV L k):=Qa (by rw [HS.out,if_neg (by rw [←HF.out];exact hc)])
    have hc0:f k=0:=by omega
    go_wp2
    go_roundw
    case rel=>exact ⟨k+1,by omega,by go_num,by rw [HN.out];exact hown,hbl⟩
    case measure=>simp [intOf];omega
  ·have hkn:k=256:=by omega
   subst hkn
   rw [HE.out] at hown
   have hrun:=JR hown
   go_wp2
   go_ret
   exact ⟨rfl,Qc hbl hs1 b1⟩
theorem vp (s:ByteArray) (w:World) (hs:s.size≤1048576) :
 Calls Tryz.prog 47 #[.string s] w fun e w'=>∃ R,QO (Qb s) R∧e=.returned (.string (Qg R))∧Below w.heap.size w w':=by
 obtain ⟨i0,hi,hz0,hz1,hz2⟩:=info_parts Tryz.info5
 have K:=Qa (fun W:World=>YW s W hs)
 have HB:=Qa (QA s)
 obtain ⟨L,hL⟩:∃ L,Qb s=L:=⟨_,rfl⟩
 rw [hL] at K HB ⊢
 clear hL
 rw [←AUj] at K
 go_enter Tryz.func47,Tryz.ntmps47
 go_wp2_with fail
 refine (K.out _).mono ?_
 rintro e w1 ⟨rfl,hC,b1⟩
 have hs1:=b1.size
 obtain ⟨c0,hc0⟩:∃ c0,w.heap.size=c0:=⟨_,rfl⟩
 rw [hc0] at hC b1 ⊢
 have hlt0:c0<w1.heap.size:=(hC.lt c0 rfl).2
 go_wp2
 go_loopg [4,5,6] 257 (fun gk v _ _ wr=>∃ R:List Nat,Hid (Sel L R)∧Hid (R.length+gk=257)∧R.length≤256∧wr.ownsRow w1.heap.size 5 1 v R.length (u8s R)∧wr.ownsRow c0 3 1 (.slice (some ⟨c0,0,none⟩) 256 256) 256 (nats 256 (remF L R))∧Below c0 w1 wr∧w1.heap.size≤wr.heap.size)
 case atStart=>exact ⟨[],Qa (AWu L),Qa rfl,by simp,World.ownsRow_nil _ _ _ _,hC,Below.refl _ _,Nat.le_refl _⟩
 case round =>
  obtain ⟨R,HSel,HG,hRl,hown,hcnt,hbl,hsz⟩:=hrel
  obtain ⟨f,hf⟩:∃ f:Nat→Nat,remF L R=f:=⟨_,rfl⟩
  have HF:=Qa hf
  rw [hf] at hcnt
  clear hf hC K
  go_wp2
  go_loopw [5,6] (fun sb sk wq=>∃ b k:Nat,sb=.int .i64 b∧sk=.int .i64 k∧b<k∧1≤k∧k≤256∧Hid (∀ x,x<k→f x≤f b∧(f x=f b→b≤x))∧Hid (∃ q,wq=wr.drewN q)) (fun _ sk _=>256-(intOf sk).toNat)
  case atStart=>exact ⟨0,1,rfl,rfl,by omega,by omega,by omega,Qa (fun x hx=>by rw [show x=0 by omega];exact ⟨Nat.le_refl _,fun _=>Nat.le_refl _⟩),Qa ⟨0,rfl⟩⟩
  case round =>
   obtain ⟨b,k,rfl,rfl,hb,hk1,hk,HM,HQ⟩:=hrel
   obtain ⟨q,rfl⟩:=HQ.out
   have db:=hcnt.cellAt b (by omega)
   rw [Qw _ _ _ (by omega)] at db
   by_cases hlt:k<256
   ·have dk:=hcnt.cellAt k (by omega)
    rw [Qw _ _ _ hlt] at dk
    obtain ⟨x,hx⟩:∃ x,f k=x:=⟨_,rfl⟩
    obtain ⟨y,hy⟩:∃ y,f b=y:=⟨_,rfl⟩
    have HX:=Qa hx
    have HY:=Qa hy
    rw [hx] at dk
    rw [hy] at db
    clear hx hy
    by_cases hgt:y<x
    ·have hgd:decide ((y:Int)<x)=true:=by simp;omega
     have hgi:(y:Int)<x:=by omega
     go_wp2
     go_quiet (fail)
     go_wp2
     go_roundw
     case rel=>exact ⟨k,k+1,rfl,by go_num,by omega,by omega,by omega,Qa (fun z hz=>by
      have h1:=HX.out;have h2:=HY.out
      rcases Nat.lt_or_ge z k with h | h
      ·have:=HM.out z h;exact ⟨by omega,fun e=>by omega⟩
      ·obtain rfl:z=k:=by omega
       exact ⟨Nat.le_refl _,fun _=>Nat.le_refl _⟩),Qa ⟨_,rfl⟩⟩
     case measure=>simp [intOf];omega
    ·have hgd:decide ((y:Int)<x)=false:=by simp;omega
     have hgi:¬ (y:Int)<x:=by omega
     go_wp2
     go_quiet (fail)
     go_wp2
     go_roundw
     case rel=>exact ⟨b,k+1,rfl,by go_num,by omega,by omega,by omega,Qa (fun z hz=>by
      have h1:=HX.out;have h2:=HY.out
      rcases Nat.lt_or_ge z k with h | h
      ·exact HM.out z h
      ·obtain rfl:z=k:=by omega
       exact ⟨by omega,fun e=>by omega⟩),Qa ⟨_,rfl⟩⟩
     case measure=>simp [intOf];omega
   ·have hk256:k=256:=by omega
    subst hk256
    by_cases hz:f b=0
    ·have HR:Hid (QO L R):=Qa (by
      have h:=HM.out;rw [←HF.out] at h hz
      exact AWl HB.out HSel.out h hz)
     have hrun:=JR (w:=wr.drewN q) hown
     rw [hz] at db
     go_wp2
     go_ret
     exact ⟨R,HR.out,rfl,by rw [hc0];exact b1.trans (Zy hbl q)⟩
    ·have hp:0<f b:=by omega
     have HS2:Hid (Sel L (R++[b])∧R.length+1≤256):=Qa (by
      have h:=HM.out;rw [←HF.out] at h hp
      exact AUh HB.out HSel.out h hp)
     have HF2:Hid (nats 256 (remF L (R++[b]))=(nats 256 f).set b (.int .i64 ((0:Nat):Int))):=Qa (by
      rw [Zb]
      refine Qu fun t _=>?_
      rw [APf,HF.out])
     have hb8:(b:Int) % 256=b:=by omega
     have hlen:=HS2.out.2
     have hnz:¬ (f b:Int)=0:=by omega
     obtain ⟨y,hy⟩:∃ y,f b=y:=⟨_,rfl⟩
     rw [hy] at db hnz
     clear hy hz hp
     go_wp2_with (at_builtin;refine wpList_append_own _ rfl _ _ 61 rfl w1.heap.size 5 i0 (.int .u8 0) 1 1 Tryz.underlying61 hi hz0 hz1 hz2 rfl (by decide) _ _ _ rfl (hown.alloc _) ⟨wr.heap.size,0,none⟩ 1 1 [.int .u8 (b:Int)] rfl rfl ?c1 ?c2 ?c3 ?c4 ?c5 ?_)
     case c1=>exact cell_one_new _ _ _
     case c2=>exact fun x hx=>by simp at hx;subst hx;rfl
     case c3=>unfold maxLen;omega
     case c4=>omega
     case c5=>simp;omega
     intro v' w3 hown' hgrow _
     have hlo:=fun g hg=>(hown.lt g hg).1
     have hb3:Below c0 w1 w3:=((Zy hbl q).alloc (by simp;omega) _).grown hgrow (by simp;omega) (fun g hg=>by have:=hlo g hg;omega)
     have hc3:w3.ownsRow c0 3 1 (.slice (some ⟨c0,0,none⟩) 256 256) 256 (nats 256 f):=World.ownsRow.kept (World.ownsRow.alloc (w:=wr.drewN q) hcnt _) hgrow (.inr (fun e=>by have:=hlo c0 e.symm;omega))
     have hs3:w1.heap.size≤w3.heap.size:=by have:=hgrow.size;simp at this;omega
     rw [←JW] at hown'
     have d3:=hc3.cellAt b (by omega)
     rw [Qw _ _ _ (by omega)] at d3
     have f3:=hc3.frozenAt b
     clear hown hcnt hgrow hlo db
     go_wp2
     go_roundg (gk-1)
     case measure=>have:=HG.out;omega
     case rel=>exact ⟨R++[b],Qa HS2.out.1,Qa (by have:=HG.out;simp;omega),by simp;omega,by simpa using Zm hown' (p:=⟨c0,b,none⟩) (by simpa using hlt0) _,by rw [HF2.out];exact (hc3.stored b _).1,hb3.setCell (Nat.le_refl _) _,by simpa using hs3⟩
theorem ALa {D:List Nat} (h:Byt D) (j:Nat):D.getD j 0<256:=by
 rcases Nat.lt_or_ge j D.length with hj | hj
 ·rw [List.getD_eq_getElem?_getD,List.getElem?_eq_getElem hj];exact h _ (List.getElem_mem hj)
 ·rw [List.getD_eq_getElem?_getD,List.getElem?_eq_none hj];decide
theorem QI {D:List Nat} (h:Byt D):Qb (Qg D)=D:=zg D (ALa h)
theorem AZt {D:List Nat} (h:Byt D) (s:ByteArray):Qg D=s↔D=Qb s:=by
 constructor
 ·intro e;rw [←e,QI h]
 ·intro e;rw [e,Yv]
theorem AMw {a b:ByteArray} (h:¬ a=b):(a.toList == b.toList)=false:=by
 rw [beq_eq_false_iff_ne,ByteArray.toList_eq,ByteArray.toList_eq]
 intro e
 apply h
 cases a;cases b
 congr 1
 exact Array.toList_inj.1 e
theorem ARh (s:ByteArray):JK (Qb s)=true↔0<s.size∧Qg (Qm (Qb s))=s:=by
 rw [Xy,AZt (APn _)]
 have:Qb s≠[]↔0<s.size:=by rw [←Qf,List.length_pos_iff]
 rw [this]
theorem ABu (s:ByteArray):ZA (Qb s)=true↔0<s.size∧(Qm (Qb s)).length=s.size:=by
 rw [Xw,←VS (QA s),Qf]
 have:Qb s≠[]↔0<s.size:=by rw [←Qf,List.length_pos_iff]
 rw [this]
theorem yy (s:ByteArray) (w:World) (hs:s.size≤1048576) :
 Calls Tryz.prog 49 #[.string s] w fun e w'=>e=.returned (.bool (ZA (Qb s)))∧Below w.heap.size w w':=by
 have K:=Qa (fun W:World=>Xb s W hs)
 have HS:=Qa (ABu s)
 have hz:=QB (Qm (Qb s))
 have hl:=qK (Qb s) 256
 change (Qm (Qb s)).length≤256 at hl
 obtain ⟨o,ho⟩:∃ o,ZA (Qb s)=o:=⟨_,rfl⟩
 obtain ⟨u,hu⟩:∃ u,Qg (Qm (Qb s))=u:=⟨_,rfl⟩
 rw [ho,←hz,hu] at HS
 rw [←hz,hu] at hl
 rw [hu] at K
 rw [ho]
 clear ho hu hz
 by_cases h0:0<s.size
 ·by_cases h1:s.size≤256
  ·by_cases he:u.size=s.size
   ·have HO:Hid (o=true):=Qa (HS.out.2 ⟨h0,he⟩)
    go_enter Tryz.func49,Tryz.ntmps49
    go_wp2_with fail
    refine (K.out _).mono ?_
    rintro e w1 ⟨rfl,b1⟩
    go_wp2
    go_ret
    exact ⟨Qk HO.out.symm,b1⟩
   ·have HO:Hid (o=false):=Qa (by
     cases o
     ·rfl
     ·exact absurd (HS.out.1 rfl).2 he)
    go_enter Tryz.func49,Tryz.ntmps49
    go_wp2_with fail
    refine (K.out _).mono ?_
    rintro e w1 ⟨rfl,b1⟩
    go_wp2
    go_ret
    exact ⟨Qk (by rw [HO.out];exact beq_eq_false_iff_ne.2 (by omega)),b1⟩
  ·have HO:Hid (o=false):=Qa (by
    cases o
    ·rfl
    ·have:=(HS.out.1 rfl).2;omega)
   go_enter Tryz.func49,Tryz.ntmps49
   go_wp2
   go_ret
   exact ⟨Qk HO.out.symm,Below.refl _ _⟩
 ·have HO:Hid (o=false):=Qa (by
   cases o
   ·rfl
   ·exact absurd (HS.out.1 rfl).1 h0)
  have h00:¬ (0:Int)<s.size:=by omega
  go_enter Tryz.func49,Tryz.ntmps49
  go_wp2
  go_ret
  exact ⟨Qk (by rw [HO.out]),Below.refl _ _⟩
theorem ACm {n:Nat} (h:n≤8):2^n≤256:=Nat.pow_le_pow_right (n:=2) (by omega) h
theorem ALr (m:Nat) (w:World) (hm:m≤256) :
 Calls Tryz.prog 106 #[.int .i64 m] w fun e w'=>e=.returned (.int .i64 (Xh m:Int))∧w'=w:=by
 have HU:=Qa (fun n=>AUm (m:=m) (n:=n))
 have H8:=Qa (xu m hm)
 have HLo:=Qa (xx m)
 obtain ⟨g,hg⟩:∃ g,Xh m=g:=⟨_,rfl⟩
 rw [hg] at HU H8 HLo ⊢
 clear hg
 go_enter Tryz.func106,Tryz.ntmps106
 go_wp2
 go_loopw [3] (fun sn wr=>∃ n:Nat,sn=.int .i64 n∧n≤8∧Hid (∀ j,j<n→2^j<m)∧Hid (wr=w)) (fun sn _=>8-(intOf sn).toNat)
 case atStart=>exact ⟨0,rfl,by omega,Qa (fun j hj=>by omega),Qa rfl⟩
 case round =>
  obtain ⟨n,rfl,hn,HJ,HW⟩:=hrel
  obtain ⟨p,hp⟩:∃ p,2^n=p:=⟨_,rfl⟩
  have hp2:p≤256:=by rw [←hp];exact ACm hn
  have hwd:Value.int .i64 (wrap64 (2^n))=Value.int .i64 (p:Int):=by
   rw [show ((2:Int)^n)=((2^n:Nat):Int) by simp,hp,QT _ (by omega)]
  have HP:=Qa hp
  clear hp
  by_cases hlt:p<m
  ·have hlI:(p:Int)<m:=by omega
   have hn8:n<8:=by
    rcases Nat.lt_or_ge n 8 with h | h
    ·exact h
    ·have:n=8:=by omega
     subst this
     have:=HP.out
     omega
   have HJ2:Hid (∀ j,j<n+1→2^j<m):=Qa (fun j hj=>by
    rcases Nat.lt_or_ge j n with h | h
    ·exact HJ.out j h
    ·rw [show j=n by omega,HP.out];exact hlt)
   go_wp2
   go_roundw
   case rel=>exact ⟨n+1,by go_num,by omega,HJ2,HW⟩
   case measure=>simp [intOf];omega
  ·have hlI:¬ (p:Int)<m:=by omega
   have e:n=g:=HU.out n (by rw [HP.out];omega) HJ.out
   subst e
   go_wp2
   go_ret
   exact ⟨rfl,HW.out⟩
def Zu (u:List Nat) (b:Nat):Int:=if b∈u then (u.idxOf b:Int) else -1
theorem jL {u:List Nat} {b k:Nat} (hk:k<u.length) (h:u.getD k 0=b) (hno:∀ j,j<k→u.getD j 0≠b):Zu u b=k:=by
 have hb:b∈u:=by
  rw [←h,List.getD_eq_getElem?_getD,List.getElem?_eq_getElem hk];exact List.getElem_mem hk
 unfold Zu
 rw [if_pos hb]
 have h2:=AJy hb
 rcases Nat.lt_trichotomy (u.idxOf b) k with h3 | h3 | h3
 ·exact absurd h2 (hno _ h3)
 ·rw [h3]
 ·have h4:=List.not_of_lt_findIdx (p:=(· == b)) (xs:=u) h3
  rw [List.getD_eq_getElem?_getD,List.getElem?_eq_getElem hk,Option.getD_some] at h
  simp [h] at h4
theorem jw {u:List Nat} {b:Nat} (hno:∀ j,j<u.length→u.getD j 0≠b):Zu u b=-1:=by
 unfold Zu
 rw [if_neg]
 intro hb
 exact hno _ (qc hb) (AJy hb)
theorem jk (s:ByteArray) (b:Nat) (w:World) (hs:s.size≤1048576) (hb:b<256) :
 Calls Tryz.prog 50 #[.string s,.int .u8 b] w fun e w'=>e=.returned (.int .i64 (Zu (Qb s) b))∧w'=w:=by
 have HG:Hid (∀ k (h:k<s.size),s[k].toNat=(Qb s).getD k 0):=Qa (fun k h=>by rw [Xi _ _ h,Zn])
 have HL:Hid ((Qb s).length=s.size):=Qa (Qf s)
 go_enter Tryz.func50,Tryz.ntmps50
 go_wp2
 go_loopw [5] (fun sk wr=>∃ k:Nat,sk=.int .i64 k∧k≤s.size∧Hid (∀ j,j<k→(Qb s).getD j 0≠b)∧Hid (wr=w)) (fun sk _=>s.size-(intOf sk).toNat)
 case atStart=>exact ⟨0,rfl,by omega,Qa (fun j hj=>by omega),Qa rfl⟩
 case round =>
  obtain ⟨k,rfl,hk,HNO,HW⟩:=hrel
  by_cases hlt:k<s.size
  ·have hgk:=HG.out k hlt
   by_cases he:s[k].toNat=b
   ·have HF:Hid (Zu (Qb s) b=k):=Qa (jL (by rw [HL.out];exact hlt) (by rw [←hgk];exact he) HNO.out)
    clear hgk
    go_wp2
    go_ret
    exact ⟨QN HF.out.symm,HW.out⟩
   ·have HN2:Hid (∀ j,j<k+1→(Qb s).getD j 0≠b):=Qa (fun j hj=>by
     rcases Nat.lt_or_ge j k with h | h
     ·exact HNO.out j h
     ·rw [show j=k by omega,←hgk];exact he)
    clear hgk
    go_wp2
    go_roundw
    case rel=>exact ⟨k+1,by go_num,by omega,HN2,HW⟩
    case measure=>simp [intOf];omega
  ·have HF:Hid (Zu (Qb s) b=-1):=Qa (jw (fun j hj=>HNO.out j (by rw [HL.out] at hj;omega)))
   go_wp2
   go_ret
   exact ⟨QN HF.out.symm,HW.out⟩
theorem AXu {D:List Nat} {s:ByteArray} (h:Qg D=s) (k:Nat) (hk:k<D.length):s.extract 0 k++s.extract (k+1) s.size=Qg (D.eraseIdx k):=by
 subst h
 have e:∀ {a b:ByteArray},a.data.toList=b.data.toList→a=b:=fun {a b} h=>by
  cases a;cases b;congr 1;exact Array.toList_inj.1 h
 apply e
 rw [ByteArray.data_append,Array.toList_append,Lib.extract_data,Lib.extract_data,QB]
 have hd:∀ L:List Nat,(Qg L).data.toList=L.map UInt8.ofNat:=fun L=>by simp [Qg]
 rw [hd,hd,List.eraseIdx_eq_take_drop_succ,List.map_append,List.map_take,List.map_drop,List.drop_zero,Nat.sub_zero]
 congr 1
 rw [List.take_of_length_le (by simp)]
theorem AKv (s:ByteArray) (i:Nat) (h:i<s.size):(Qb s).drop i=s[i].toNat::(Qb s).drop (i+1):=by
 have hk:i<(Qb s).length:=by rw [Qf];exact h
 rw [List.drop_eq_getElem_cons hk]
 congr 1
 have:=Zn s i
 rw [List.getD_eq_getElem?_getD,List.getElem?_eq_getElem hk,Option.getD_some] at this
 rw [this,Xi _ _ h]
theorem jv (s:ByteArray) (w:World) (hok:ZA (Qb s)=true) :
 Calls Tryz.prog 69 #[.string s] w fun e w'=>∃ v,e=.returned v∧w'.ownsRow w.heap.size 5 1 v (putO (Qm (Qb s)) (Qb s)).length (u8s (putO (Qm (Qb s)) (Qb s)))∧Below w.heap.size w w':=by
 obtain ⟨i0,hi,hz0,hz1,hz2⟩:=info_parts Tryz.info5
 have hnd:=((Xw _).1 hok).2
 have hs:s.size≤256:=by rw [←Qf];exact QK (QA s) hnd
 have K1:=Qa (fun W:World=>Xb s W (by omega))
 have HP0:=Qa (ABi (QA s) hnd)
 have HX:=Qa (AKv s)
 have HLn:=Qa (Qf s)
 obtain ⟨O,hO⟩:∃ O,Qb s=O:=⟨_,rfl⟩
 rw [hO] at K1 HP0 HX HLn ⊢
 have HB:Hid (Byt O):=Qa (by rw [←hO];exact QA s)
 obtain ⟨A,hA⟩:∃ A,putO (Qm O) O=A:=⟨_,rfl⟩
 have HA:=Qa hA
 rw [hA]
 clear hA hnd hok hO
 go_enter Tryz.func69,Tryz.ntmps69
 go_wp2_with fail
 refine (K1.out _).mono ?_
 rintro e w1 ⟨rfl,b1⟩
 have hs1:=b1.size
 go_wp2
 go_loopw [3,4,5,6] (fun v su si _ wr=>∃ (i:Nat) (P D:List Nat),i≤s.size∧si=.int .i64 i∧su=.string (Qg P)∧Hid (A=D++putO P (O.drop i))∧Hid (P.Perm (O.drop i))∧D.length≤8*i∧wr.ownsRow w.heap.size 5 1 v D.length (u8s D)∧Below w.heap.size w wr) (fun _ _ si _ _=>s.size-(intOf si).toNat)
 case atStart=>exact ⟨0,Qm O,[],by omega,rfl,rfl,Qa (by rw [←HA.out];rfl),HP0,by simp,World.ownsRow_nil _ _ _ _,b1⟩
 case round =>
  obtain ⟨i,P,D,hi2,rfl,rfl,HD,HP,hDl,hown,hbl⟩:=hrel
  have hsz:=hbl.size
  by_cases hlt:i<s.size
  ·obtain ⟨x,hx⟩:∃ x,s[i].toNat=x:=⟨_,rfl⟩
   have hx256:x<256:=by rw [←hx];exact UInt8.toNat_lt _
   have hdr:=HX.out i hlt
   rw [hx] at hdr
   rw [hdr] at HD HP
   have hxP:x∈P:=HP.out.mem_iff.2 (List.mem_cons_self ..)
   have hBP:Byt P:=fun b hb=>HB.out b (List.mem_of_mem_drop (i:=i) (by rw [hdr];exact HP.out.mem_iff.1 hb))
   have hPl:P.length=s.size-i:=by rw [HP.out.length_eq,←hdr,List.length_drop,HLn.out]
   have hk:=qc hxP
   have hus:=QB P
   have HPL:=Qa (jk (Qg P) x wr (by omega) hx256)
   rw [QI hBP,Zu,if_pos hxP] at HPL
   have HCUT:=Qa (AXu (D:=P) rfl (P.idxOf x) hk)
   rw [←ANq hxP] at HCUT
   obtain ⟨us,hus2⟩:∃ us,Qg P=us:=⟨_,rfl⟩
   rw [hus2] at HPL HCUT hus ⊢
   have HND:=Qa (ALr us.size wr (by omega))
   have hnd8:=xu us.size (by omega)
   have hup:=xx us.size
   obtain ⟨k,hkk⟩:∃ k,P.idxOf x=k:=⟨_,rfl⟩
   obtain ⟨m,hmm⟩:∃ m,Xh us.size=m:=⟨_,rfl⟩
   have hE:Hid (putO P (x::O.drop (i+1))=Qh k m++putO (P.erase x) (O.drop (i+1))):=Qa (by rw [putO,hkk,←hus,hmm])
   have HP2:Hid ((P.erase x).Perm (O.drop (i+1))):=Qa (by have:=HP.out.erase x;rwa [List.erase_cons_head] at this)
   rw [hkk] at hk HPL HCUT
   rw [hmm] at HND hnd8 hup
   have HX2:=Qa hx
   have hk32:k<256:=by omega
   have hku:k<us.size:=by omega
   have hu256:us.size≤256:=by omega
   have HN1:=Qa (fun W=>AOv k m W (by omega) (by omega))
   clear hkk hmm hus2 hBP hxP hdr hus hPl hk
   go_wp2_with fail
   refine HPL.out.mono ?_
   rintro e w2 ⟨rfl,rfl⟩
   go_wp2_with fail
   refine HND.out.mono ?_
   rintro e w3 ⟨rfl,rfl⟩
   go_wp2_with fail
   refine (HN1.out _).mono ?_
   rintro e w4 ⟨rfl,hown2,b4⟩
   have hs4:=b4.size
   have hown3:=Ql hown b4
   have hbl4:=Qc b4 hsz hbl
   go_wp2_with (at_builtin;refine wpList_append_own _ rfl _ _ 61 rfl w.heap.size 5 i0 (.int .u8 0) 1 1 Tryz.underlying61 hi hz0 hz1 hz2 rfl (by decide) _ _ _ rfl hown3 ⟨w3.heap.size,0,none⟩ m m (u8s (Qh k m)) rfl ?c0 ?c1 ?c2 ?c3 ?c4 ?c5 ?_)
   case c0=>rw [Zo,Qt,Nat.mul_one]
   case c1=>exact fun j u hu=>hown2.cells rfl j u hu
   case c2=>exact JA _
   case c3=>unfold maxLen;omega
   case c4=>omega
   case c5=>omega
   intro v1 w5 hown5 hgrow _
   rw [←ZU] at hown5
   have hlo:=fun g hg=>(hown3.lt g hg).1
   have hb5:Below w.heap.size w w5:=hbl4.grown hgrow (by omega) hlo
   have HD2:Hid (A=(D++Qh k m)++putO (P.erase x) (O.drop (i+1))):=Qa (by rw [HD.out,hE.out,List.append_assoc])
   have HL2:Hid ((D++Qh k m).length=D.length+m):=Qa (by rw [List.length_append,Qt])
   have HO5:Hid (w5.ownsRow w.heap.size 5 1 v1 (D++Qh k m).length (u8s (D++Qh k m))):=Qa (by rw [HL2.out];exact hown5)
   clear hown hown2 hown3 hown5 hgrow hbl hbl4 hlo b4
   go_wp2
   go_quiet (fail)
   go_wp2
   go_roundw
   case rel=>exact ⟨i+1,P.erase x,D++Qh k m,by omega,by go_num,by rw [HCUT.out],HD2,HP2,by rw [HL2.out];omega,HO5.out,Zy hb5 _⟩
   case measure=>simp [intOf];omega
  ·have hie:i=s.size:=by omega
   have HF:Hid (D=A):=Qa (by rw [HD.out,hie,←HLn.out,List.drop_length,putO,List.append_nil])
   subst hie
   go_wp2
   go_ret
   exact ⟨_,rfl,by rw [←HF.out];exact hown,hbl⟩
def Xq (a b:Value):Prop:=∀ k,a.ownBlock=some k→b.ownBlock≠some k
theorem zG (b:Value):Xq (.slice none 0 0) b:=fun k h=>by simp [Value.ownBlock] at h
theorem Xq.symm {a b:Value} (h:Xq a b):Xq b a:=fun k hb ha=>h k ha hb
theorem APl {w:World} {base n S:Nat} {E:TypeId} {v v' b:Value} {xs:List Value} (h:Xq v b) (hb:w.ownsRow base E S b n xs) (hloc:v'.ownBlock=v.ownBlock∨v'.ownBlock=some w.heap.size):Xq v' b:=by
 intro k hk hkb
 rcases hloc with h2 | h2
 ·exact h k (by rw [←h2];exact hk) hkb
 ·have:=(hb.lt k hkb).2
  rw [h2] at hk
  simp only [Option.some.injEq] at hk
  omega
theorem Yz {w:World} {base n S:Nat} {E:TypeId} {v v' b:Value} {xs:List Value} (h:Xq v b) (hb:w.ownsRow base E S b n xs) (hloc:v'.ownBlock=v.ownBlock∨v'.ownBlock=some (w.heap.size+1)):Xq v' b:=by
 intro k hk hkb
 rcases hloc with h2 | h2
 ·exact h k (by rw [←h2];exact hk) hkb
 ·have:=(hb.lt k hkb).2
  rw [h2] at hk
  simp only [Option.some.injEq] at hk
  omega
theorem JI {w w':World} {base n S:Nat} {E:TypeId} {v b:Value} {xs:List Value} (h:Xq v b) (hb:w.ownsRow base E S b n xs) (hg:w.grownBy w' v.ownBlock):w'.ownsRow base E S b n xs:=by
 cases hbb:b.ownBlock with
 | none=>exact hb.kept hg (.inl hbb)
 | some k=>exact hb.kept hg (.inr (fun e=>h k (by rw [←e,hbb]) hbb))
def qY (u:List Nat) (g j:Nat):List Nat:=(List.range j).map fun p=>if 16*g+p∈u then 1 else 0
def VO (u:List Nat) (g j:Nat):Nat:=if 1∈qY u g j then 1 else 0
theorem vf (u:List Nat) (g j:Nat):qY u g (j+1)=qY u g j++[if 16*g+j∈u then 1 else 0]:=by simp [qY,List.range_succ]
theorem AMf (u:List Nat) (g j:Nat):VO u g (j+1)=(VO u g j ||| (if 16*g+j∈u then 1 else 0)):=by
 unfold VO
 rw [vf]
 by_cases h1:1∈qY u g j
 ·rw [if_pos h1,if_pos (List.mem_append_left _ h1)]
  split <;> rfl
 ·rw [if_neg h1]
  by_cases h2:16*g+j∈u
  ·simp [h2]
  ·simp [h1,h2]
theorem ASp (u:List Nat) (g j:Nat):VO u g j<2:=by unfold VO;split <;> omega
theorem AZl (h x:Nat) (hh:h<2) (hx:x<2):bits BinOp.or IntKind.u8 (h:Int) (x:Int)=((h ||| x:Nat):Int):=by
 have:h=0∨h=1:=by omega
 have:x=0∨x=1:=by omega
 rcases ‹h=0∨h=1› with rfl | rfl <;> rcases ‹x=0∨x=1› with rfl | rfl <;> rfl
theorem AQm {u:List Nat} (hb:Byt u) (hu:JK u=true) (b:Nat):u.count b=if b∈u then 1 else 0:=by
 have h:=((Xy u).1 hu).2
 have:=jd u hb b
 rw [h] at this
 exact this
theorem AFx {u:List Nat} (hb:Byt u) (hu:JK u=true):0<(QD u 16).length:=by
 obtain ⟨g,hg,h⟩:=ANo hb ((Xy u).1 hu).1
 have h1:YD u g≠[]:=by
  unfold YD
  rw [if_pos h]
  intro e
  have:=Xx u g
  rw [e] at this;simp at this
 obtain ⟨x,hx⟩:=List.exists_mem_of_ne_nil _ h1
 exact List.length_pos_of_mem (List.mem_flatMap.2 ⟨g,List.mem_range.2 hg,hx⟩)
def Yi (u:List Nat) (g:Nat):List Nat:=(List.range g).map (ZV u)
theorem ALw (u:List Nat) (g:Nat):(Yi u g).length=g:=by simp [Yi]
theorem AHs (u:List Nat) (g:Nat):Yi u (g+1)=Yi u g++[ZV u g]:=by simp [Yi,List.range_succ]
theorem VB (s:ByteArray) (w:World) (hs:s.size≤1048576) (hok:JK (Qb s)=true) :
 Calls Tryz.prog 68 #[.string s] w fun e w'=>∃ v,e=.returned v∧w'.ownsRow w.heap.size 5 1 v (Qr (Qb s)).length (u8s (Qr (Qb s)))∧Below w.heap.size w w':=by
 obtain ⟨i0,hi,hz0,hz1,hz2⟩:=info_parts Tryz.info5
 have K1:=Qa (fun W:World=>YW s W hs)
 have HC:=Qa (AQm (QA s) hok)
 have HRP:=Qa (AFx (QA s) hok)
 obtain ⟨U,hU⟩:∃ U,Qb s=U:=⟨_,rfl⟩
 rw [hU] at K1 HC HRP ⊢
 clear hU hok
 have HB:Hid (Qr U=Yi U 16++QD U 16):=Qa rfl
 obtain ⟨f,hf⟩:∃ f:Nat→Nat,(fun b=>U.count b)=f:=⟨_,rfl⟩
 have HF:Hid (∀ k,f k=if k∈U then 1 else 0):=Qa (fun k=>by rw [←hf];exact HC.out k)
 have HF2:Hid (∀ k,f k<2):=Qa (fun k=>by rw [HF.out];split <;> omega)
 rw [hf] at K1
 clear hf
 go_enter Tryz.func68,Tryz.ntmps68
 go_wp2_with fail
 refine (K1.out _).mono ?_
 rintro e w1 ⟨rfl,hC,b1⟩
 have hs1:=b1.size
 have HCH:=Qa hC
 clear hC
 go_wp2
 go_loopw [4,5,6,7,8,9] (fun vh vr sg _ _ _ wr=>∃ g:Nat,g≤16∧sg=.int .i64 g∧wr.ownsRow w1.heap.size 5 1 vh g (u8s (Yi U g))∧wr.ownsRow w1.heap.size 5 1 vr (QD U g).length (u8s (QD U g))∧Xq vh vr∧Below w1.heap.size w1 wr) (fun _ _ sg _ _ _ _=>16-(intOf sg).toNat)
 case atStart=>exact ⟨0,by omega,rfl,World.ownsRow_nil _ _ _ _,World.ownsRow_nil _ _ _ _,zG _,Below.refl _ _⟩
 case round =>
  obtain ⟨g,hg,rfl,hownH,hownR,hAp,hbl⟩:=hrel
  have hsz:=hbl.size
  have HRL:=Qa (Vp U g)
  by_cases hlt:g<16
  ·have HAp:=Qa hAp
   have hgI:(g:Int)<16:=by omega
   clear hAp
   go_wp2
   go_loopw [7,8,9] (fun vs sh sb wx=>∃ j:Nat,j≤16∧sb=.int .i64 ((16*g+j:Nat):Int)∧sh=.int .u8 (VO U g j)∧wx.ownsRow w1.heap.size 5 1 vs j (u8s (qY U g j))∧Hid (Xq vs u4)∧Hid (Xq vs u5)∧Hid (wx.ownsRow w1.heap.size 5 1 u4 g (u8s (Yi U g)))∧Hid (wx.ownsRow w1.heap.size 5 1 u5 (QD U g).length (u8s (QD U g)))∧Below w1.heap.size w1 wx) (fun _ _ sb _=>16*g+16-(intOf sb).toNat)
   case atStart=>exact ⟨0,by omega,by go_num,rfl,World.ownsRow_nil _ _ _ _,Qa (zG _),Qa (zG _),Qa hownH,Qa hownR,hbl⟩
   case round =>
    obtain ⟨j,hj,rfl,rfl,hownS,HApH,HApR,HH,HR,hblx⟩:=hrel
    have hszx:=hblx.size
    clear hownH hownR hbl
    by_cases hlt2:j<16
    ·have hI:((16*g+j:Nat):Int)<16*(g:Int)+16:=by omega
     have d0:=(Ql HCH.out hblx).cellAt (16*g+j) (by omega)
     rw [Qw _ _ _ (by omega)] at d0
     have hf2:=HF2.out (16*g+j)
     have HFv:=Qa (HF.out (16*g+j))
     have HMS:=Qa (vf U g j)
     have HHS:=Qa (AMf U g j)
     have hh2:=ASp U g j
     rw [←HFv.out] at HMS HHS
     have HBP:Hid (16*g+j<256):=Qa (by omega)
     obtain ⟨b,hb⟩:∃ b,16*g+j=b:=⟨_,rfl⟩
     have HBE:=Qa hb
     rw [hb] at d0 hf2 HFv HMS HHS hI HBP ⊢
     obtain ⟨x,hx⟩:∃ x,f b=x:=⟨_,rfl⟩
     have HFX:=Qa hx
     obtain ⟨h,hh⟩:∃ h,VO U g j=h:=⟨_,rfl⟩
     rw [hx] at d0 hf2 HMS HHS
     rw [hh] at HHS hh2 ⊢
     have hb256:=HBP.out
     have hor:=AZl h x hh2 hf2
     have hx256:(x:Int) % 256=x:=by omega
     clear hb hx hh
     go_wp2_with (at_builtin;refine wpList_append_own_at _ rfl _ _ 61 rfl w1.heap.size 5 i0 (.int .u8 0) 1 1 Tryz.underlying61 hi hz0 hz1 hz2 rfl (by decide) _ _ _ rfl (hownS.alloc _) ⟨wr.heap.size,0,none⟩ 1 1 [.int .u8 (x:Int)] rfl rfl ?c1 ?c2 ?c3 ?c4 ?c5 ?_)
     case c1=>exact cell_one_new _ _ _
     case c2=>exact fun u hu=>by simp at hu;subst hu;rfl
     case c3=>unfold maxLen;omega
     case c4=>omega
     case c5=>first | omega | (simp;omega)
     intro v3 w3 hown3 hgrow _ hloc
     have hlo:=fun g hg=>(hownS.lt g hg).1
     have hb3:=Zf hblx hszx hownS hgrow
     have HA3:Hid (Xq v3 u4):=Qa (Yz HApH.out HH.out hloc)
     have HR3:Hid (Xq v3 u5):=Qa (Yz HApR.out HR.out hloc)
     have HH3:=Qa (JI HApH.out (HH.out.alloc (.cells #[.int .u8 (x:Int)] 5)) hgrow)
     have HRR3:=Qa (JI HApR.out (HR.out.alloc (.cells #[.int .u8 (x:Int)] 5)) hgrow)
     have d3:=(Ql HCH.out hb3).cellAt b (by omega)
     rw [Qw _ _ _ hb256] at d3
     rw [HFX.out] at d3
     rw [←JW,←HMS.out] at hown3
     clear hownS hgrow hloc hlo d0 hblx
     go_wp2
     go_roundw
     case rel=>exact ⟨j+1,by omega,by rw [show 16*g+(j+1)=b+1 by have:=HBE.out;omega];go_num,by rw [HHS.out],hown3,HA3,HR3,HH3,HRR3,hb3⟩
     case measure=>simp [intOf];have:=HBE.out;omega
    ·have hj16:j=16:=by omega
     subst hj16
     have hI:¬ ((16*g+16:Nat):Int)<16*(g:Int)+16:=by omega
     have HE:Hid (VO U g 16=ZV U g∧qY U g 16=QM U g):=Qa ⟨rfl,rfl⟩
     rw [HE.out.2] at hownS
     rw [HE.out.1]
     have hownH:=HH.out
     have hh2:=qO U g
     have HHS:=Qa (AHs U g)
     have HRS:=Qa (Yq U g)
     have HG0:Hid (YD U g=if ZV U g=1 then QM U g else []):=Qa rfl
     have HML:=Qa (Xx U g)
     obtain ⟨h,hh⟩:∃ h,ZV U g=h:=⟨_,rfl⟩
     rw [hh] at hh2 HHS HG0 ⊢
     clear hh
     obtain ⟨gs,cs,rfl⟩:=Joins.ownsRow_form hownS (by omega)
     have hgs:=hownS.lt gs rfl
     go_wp2_with (at_builtin;refine wpList_append_own_at _ rfl _ _ 61 rfl w1.heap.size 5 i0 (.int .u8 0) 1 1 Tryz.underlying61 hi hz0 hz1 hz2 rfl (by decide) _ _ _ rfl (hownH.alloc _) ⟨wr.heap.size,0,none⟩ 1 1 [.int .u8 (h:Int)] rfl rfl ?f1 ?f2 ?f3 ?f4 ?f5 ?_)
     case f2=>first | rfl | exact fun u hu=>by simp at hu;subst hu;rfl
     case f3=>unfold maxLen;omega
     case f4=>omega
     case f5=>first | omega | (simp;omega)
     intro v3 w3 hown3 hgrow _ hloc
     have hb3:=Zf hblx hszx hownH hgrow
     have hs3:=hb3.size
     have HA3:Hid (Xq v3 u5):=Qa (Yz HAp.out HR.out hloc)
     have hR3:=JI HAp.out (HR.out.alloc (.cells #[.int .u8 (h:Int)] 5)) hgrow
     have HAS:Hid (Xq v3 (.slice (some ⟨gs,0,none⟩) 16 cs)):=Qa (Yz HApH.out.symm hownS hloc)
     have hS3:=JI HApH.out.symm (hownS.alloc (.cells #[.int .u8 (h:Int)] 5)) hgrow
     rw [←JW,←HHS.out] at hown3
     have HH3:=Qa hown3
     clear hownS hownH hgrow hloc hown3 HH HR hblx
     have HRl:=HRL.out
     by_cases h1:h=1
     ·subst h1
      have HRS2:Hid (QD U (g+1)=QD U g++QM U g):=Qa (by rw [HRS.out,HG0.out,if_pos rfl])
      go_wp2_with (at_builtin;refine wpList_append_own_at _ rfl _ _ 61 rfl w1.heap.size 5 i0 (.int .u8 0) 1 1 Tryz.underlying61 hi hz0 hz1 hz2 rfl (by decide) _ _ _ rfl hR3 ⟨gs,0,none⟩ 16 cs (u8s (QM U g)) rfl ?d0 ?d1 ?d2 ?d3 ?d4 ?d5 ?_)
      case d0=>rw [Zo,HML.out]
      case d1=>exact fun j u hu=>(hS3.cellAt j (by have:=(List.getElem?_eq_some_iff.1 hu).1;rw [Zo,HML.out] at this;omega)).trans hu
      case d2=>exact JA _
      case d3=>unfold maxLen;omega
      case d4=>omega
      intro v4 w4 hown4 hgrow4 _ hloc4
      have hb4:Below w1.heap.size w1 w4:=hb3.grown hgrow4 (by omega) (fun g hg=>(hR3.lt g hg).1)
      have hA4:Xq v3 v4:=(APl HA3.out.symm HH3.out hloc4).symm
      have hH4:=JI HA3.out.symm HH3.out hgrow4
      rw [←ZU,←HRS2.out] at hown4
      have HO4:Hid (w4.ownsRow w1.heap.size 5 1 v4 (QD U (g+1)).length (u8s (QD U (g+1)))):=Qa (by rw [show (QD U (g+1)).length=(QD U g).length+16 by rw [HRS2.out,List.length_append,HML.out]];exact hown4)
      clear hown4 hgrow4 hloc4 hR3 hS3 hb3
      go_wp2
      go_roundw
      case rel=>exact ⟨g+1,by omega,by go_num,hH4,HO4.out,hA4,hb4⟩
      case measure=>simp [intOf];omega
     ·have h0:h=0:=by omega
      subst h0
      have HRS2:Hid (QD U (g+1)=QD U g):=Qa (by rw [HRS.out,HG0.out,if_neg (by omega),List.append_nil])
      go_wp2
      go_roundw
      case rel=>exact ⟨g+1,by omega,by go_num,HH3.out,by rw [HRS2.out];exact hR3,HA3.out,hb3⟩
      case measure=>simp [intOf];omega
  ·have hg16:g=16:=by omega
   subst hg16
   have hrl:=HRP.out
   have HRl:=HRL.out
   obtain ⟨m,hm⟩:∃ m,(QD U 16).length=m:=⟨_,rfl⟩
   have HM:=Qa hm
   rw [hm] at hrl HRl hownR
   clear hm
   obtain ⟨gr,cr,rfl⟩:=Joins.ownsRow_form hownR (by omega)
   go_wp2_with (at_builtin;refine wpList_append_own_at _ rfl _ _ 61 rfl w1.heap.size 5 i0 (.int .u8 0) 1 1 Tryz.underlying61 hi hz0 hz1 hz2 rfl (by decide) _ _ _ rfl hownH ⟨gr,0,none⟩ m cr (u8s (QD U 16)) rfl ?e0 ?e1 ?e2 ?e3 ?e4 ?e5 ?_)
   case e0=>rw [Zo,HM.out,Nat.mul_one]
   case e1=>exact fun j u hu=>hownR.cells rfl j u hu
   case e2=>exact JA _
   case e3=>unfold maxLen;omega
   case e4=>omega
   case e5=>omega
   intro v4 w4 hown4 hgrow4 _ _
   have hb4:Below w1.heap.size w1 w4:=hbl.grown hgrow4 (by omega) (fun g hg=>(hownH.lt g hg).1)
   rw [←ZU,←HB.out] at hown4
   have HL4:Hid ((Qr U).length=16+m):=Qa (by rw [HB.out,List.length_append,ALw,HM.out])
   go_wp2
   go_ret
   exact ⟨_,rfl,by rw [HL4.out];exact Joins.ownsRow_le hown4 hs1,Qc hb4 hs1 b1⟩
end Go.Proofs.YtembljihmnmmfaaGreat
namespace Go.Proofs.YtembljihmnmmfaaGreat
set_option linter.unusedVariables false
set_option linter.unusedSimpArgs false
open Go.RowKit Go.Maps
theorem ATi (s:ByteArray) (k:Nat) (h:k<s.size):(fun b=>((Qb s).take (k+1)).count b)=fun b=>if b=s[k].toNat then ((Qb s).take k).count s[k].toNat+1 else ((Qb s).take k).count b:=by
 funext t
 rw [qE s k h,List.count_append]
 by_cases e:t=s[k].toNat
 ·subst e;simp
 ·simp [e,List.count_cons,Ne.symm e]
theorem JF (s:ByteArray) (w:World) (hs:s.size≤1048576) :
 Calls Tryz.prog 99 #[.string s] w fun e w'=>e=.returned (.map (some w.heap.size))∧Zh w' w.heap.size s.size (fun b=>(Qb s).count b)∧Below w.heap.size w w':=by
 have HALL:Hid ((Qb s).take s.size=Qb s):=Qa (by rw [←Qf];exact List.take_length)
 have hmm:=@run_makeMap Tryz.prog
 go_enter Tryz.func99,Tryz.ntmps99
 go_wp2
 go_loopw [4,8] (fun _ sk wr=>∃ k:Nat,k≤s.size∧sk=.int .i64 k∧Zh wr w.heap.size k (fun b=>((Qb s).take k).count b)∧Below w.heap.size w wr) (fun _ sk _=>s.size-(intOf sk).toNat)
 case atStart=>exact ⟨0,by omega,rfl,⟨_,World.ownsMap_made w Tryz.prog 5 (plainElem (H:=Unit) Tryz.prog 3),by simpa using AXh⟩,(Below.refl _ _).alloc (Nat.le_refl _) _⟩
 case round =>
  obtain ⟨k,hk,rfl,⟨D,hown,hC⟩,hbl⟩:=hrel
  by_cases hlt:k<s.size
  ·have hx:s[k].toNat<256:=UInt8.toNat_lt _
   have HUP:=Qa (ATi s k hlt)
   have hc:((Qb s).take k).count s[k].toNat≤k:=by
    have:=List.count_le_length (a:=s[k].toNat) (l:=(Qb s).take k)
    rw [List.length_take] at this;omega
   obtain ⟨x,hxx⟩:∃ x,s[k].toNat=x:=⟨_,rfl⟩
   rw [hxx] at hx hc HUP
   have HC2:=Qa (AWj hC hx)
   have HAT:=Qa (hC.2.2.1 x hx)
   obtain ⟨c,hcc⟩:∃ c,((Qb s).take k).count x=c:=⟨_,rfl⟩
   simp only [hcc] at hc HUP HC2 HAT
   have hkey:=keyB hx
   clear hcc hC
   go_wp2_with (first | (at_lookup;refine wpList_lookup_own_int _ rfl _ _ 119 rfl 5 3 .i64 JC Tryz.underlying119 Tryz.underlying3 (yO _) w.heap.size k D rfl hown _ _ rfl hkey ?_;intro q hat hwc;obtain rfl:q=(c:Int):=(by have h1:=hat.symm.trans HAT.out;simpa using h1)) | (at_mapUpdate;refine wpList_mapUpdate_own _ rfl _ _ _ 119 rfl 5 3 JC Tryz.underlying119 _ w.heap.size k _ rfl hown (by unfold maxLen;omega) _ _ _ rfl rfl hkey (.lit (.int .i64 ((c:Int)+1))) [] (plainElem_int Tryz.underlying3 (WalkArith.wf_i64 (by omega))) ?_;intro w2 hown2 hgrow2))
   go_roundw
   case rel=>exact ⟨k+1,by omega,by go_num,⟨_,hown2,by rw [HUP.out];exact HC2.out⟩,hbl.grown hgrow2 hbl.size (fun j hj=>by cases hj;exact Nat.le_refl _)⟩
   case measure=>simp [intOf];omega
  ·have hkn:k=s.size:=by omega
   subst hkn
   rw [HALL.out] at hC
   go_wp2
   go_ret
   exact ⟨rfl,⟨D,hown,hC⟩,hbl⟩
theorem jr {s:ByteArray} (h:0<s.size):s.toList.isEmpty=false:=by
 rw [Bool.eq_false_iff]
 intro e
 rw [List.isEmpty_iff,ByteArray.toList_eq] at e
 have h2:s.data.toList.length=s.size:=by simp
 rw [e] at h2
 simp at h2
 omega
theorem AEs {s:ByteArray} (h:¬ 0<s.size):s=⟨#[]⟩:=by
 have:Qb s=[]:=List.length_eq_zero_iff.1 (by rw [Qf];omega)
 rw [←Yv s,this];rfl
theorem VD (s:ByteArray) (w:World) (hs:s.size≤1048576) :
 Calls Tryz.prog 119 #[.string s] w fun e w'=>e=.returned (.bool (ZA (Qb s)))∧Below w.heap.size w w':=by
 have K:=Qa (fun W:World=>JF s W hs)
 by_cases h0:0<s.size
 ·have HS:=Qa (ABu s)
  have HCU:=Qa (xo (Qb s))
  obtain ⟨o,ho⟩:∃ o,ZA (Qb s)=o:=⟨_,rfl⟩
  obtain ⟨m,hm⟩:∃ m,(Qm (Qb s)).length=m:=⟨_,rfl⟩
  rw [ho,hm] at HS
  rw [hm] at HCU
  rw [ho]
  clear ho hm
  have hne:=jr h0
  by_cases he:m=s.size
  ·have HO:Hid (o=true):=Qa (HS.out.2 ⟨h0,he⟩)
   go_enter Tryz.func119,Tryz.ntmps119
   go_wp2_with fail
   refine (K.out _).mono ?_
   rintro e w1 ⟨rfl,⟨D,hown,hC⟩,b1⟩
   have hlen:=hown.len Tryz.underlying119
   rw [hC.2.2.2,HCU.out] at hlen
   clear hC hown
   go_wp2
   go_ret
   exact ⟨Qk HO.out.symm,b1⟩
  ·have HO:Hid (o=false):=Qa (by
    cases o
    ·rfl
    ·exact absurd (HS.out.1 rfl).2 he)
   go_enter Tryz.func119,Tryz.ntmps119
   go_wp2_with fail
   refine (K.out _).mono ?_
   rintro e w1 ⟨rfl,⟨D,hown,hC⟩,b1⟩
   have hlen:=hown.len Tryz.underlying119
   rw [hC.2.2.2,HCU.out] at hlen
   clear hC hown
   go_wp2
   go_ret
   exact ⟨Qk (by rw [HO.out];exact beq_eq_false_iff_ne.2 (by omega)),b1⟩
 ·obtain rfl:=AEs h0
  have HO:Hid (ZA (Qb ⟨#[]⟩)=false):=Qa (by decide)
  go_enter Tryz.func119,Tryz.ntmps119
  go_wp2
  go_ret
  exact ⟨Qk (by rw [HO.out]),Below.refl _ _⟩
end Go.Proofs.YtembljihmnmmfaaGreat
