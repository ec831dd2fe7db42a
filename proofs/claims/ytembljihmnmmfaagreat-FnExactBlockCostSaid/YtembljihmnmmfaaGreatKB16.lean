/- Texts of the proof, merged. -/
import Derived.Maps.AppendAt
import Derived.RegionTactic
import Derived.ChangeAlike
import Derived.Deep.LoopGhost
import Derived.Test.YtembljihmnmmfaaGreatKB12
import Derived.Test.YtembljihmnmmfaaGreatKB2
import Derived.Test.YtembljihmnmmfaaGreatKB3
import Derived.Test.YtembljihmnmmfaaGreatKB7
import Derived.Lib.SmallJoins
import Derived.BigQuiet
import Derived.Deep.QuietTactic
namespace Go.Proofs.YtembljihmnmmfaaGreat
set_option maxHeartbeats 2000000
set_option maxRecDepth 100000
set_option linter.unusedVariables false
set_option linter.unusedSimpArgs false
open Go.RowKit
def rkOk (S O:List Nat):Bool:=decide (S.length≤600∧ZA O=true∧∀ b∈S,b∈O)
theorem XD (S O:List Nat):rkOk S O=true↔S.length≤600∧ZA O=true∧∀ b∈S,b∈O:=by simp [rkOk]
def rkTo (S O:List Nat) (k:Nat):List Int:=(S.take k).map fun b=>(O.idxOf b:Int)
def rkL (S O:List Nat):List Int:=if rkOk S O=true then rkTo S O S.length else []
theorem AEm (S O:List Nat) (k:Nat) (h:k≤S.length):(rkTo S O k).length=k:=by simp [rkTo];omega
theorem AAy (S O:List Nat) (k:Nat) (h:k<S.length):rkTo S O (k+1)=rkTo S O k++[(O.idxOf (S.getD k 0):Int)]:=by
 unfold rkTo
 rw [List.take_succ_eq_append_getElem h,List.map_append]
 simp [List.getD_eq_getElem?_getD,h]
theorem AIt (D:List Int) (x:Int):Qo (D++[x])=Qo D++[.int .i64 x]:=by simp [Qo]
theorem XX {v:Value} {a b:Bool} (h:a=b):Ending.returned (.tuple #[v,.bool a])=.returned (.tuple #[v,.bool b]):=by rw [h]
theorem QC {b:Bool} (h:¬ b=true):b=false:=by simpa using h
theorem yP (s o:ByteArray) (w:World) (hs:s.size≤1048576) (ho:o.size≤1048576) :
 Calls Tryz.prog 21 #[.string s,.string o] w fun e w'=>∃ v,e=.returned (.tuple #[v,.bool (rkOk (Qb s) (Qb o))])∧w'.ownsRow w.heap.size 3 1 v (rkL (Qb s) (Qb o)).length (Qo (rkL (Qb s) (Qb o)))∧Below w.heap.size w w':=by
 have K1:=Qa (fun W=>yy o W ho)
 have HNIL:Hid (rkOk (Qb s) (Qb o)=false→rkL (Qb s) (Qb o)=[]):=Qa (fun h=>by unfold rkL;rw [if_neg (by rw [h];decide)])
 have HLs:=Qa (Qf s)
 by_cases h6:s.size≤600
 ·by_cases hok:ZA (Qb o)=true
  ·obtain ⟨i0,hi,hz0,hz1,hz2⟩:=info_parts Tryz.infoI
   have ho256:o.size≤256:=by rw [←Qf];exact QK (QA o) ((Xw _).1 hok).2
   have KP:=Qa (fun (W:World) (b:Nat) (hb:b<256)=>jk o b W ho hb)
   have HIT:=Qa (XD (Qb s) (Qb o))
   have HOK:=Qa hok
   have HGT:Hid (∀ k (h:k<s.size),s[k].toNat=(Qb s).getD k 0):=Qa (fun k h=>by rw [Xi _ _ h,Zn])
   have HME:Hid (∀ k,k<s.size→(Qb s).getD k 0∈Qb s):=Qa (fun k h=>by
    have h2:k<(Qb s).length:=by rw [Qf];exact h
    rw [List.getD_eq_getElem?_getD,List.getElem?_eq_getElem h2];exact List.getElem_mem h2)
   have HRS:=Qa (fun k h=>AAy (Qb s) (Qb o) k h)
   have HRL:=Qa (fun k h=>AEm (Qb s) (Qb o) k h)
   have HAL:Hid (rkOk (Qb s) (Qb o)=true→rkL (Qb s) (Qb o)=rkTo (Qb s) (Qb o) s.size):=Qa (fun h=>by unfold rkL;rw [if_pos h,Qf])
   have HBY:=Qa (QA s)
   have HIX:Hid (∀ b,b∈Qb o→(Qb o).idxOf b<o.size):=Qa (fun b h=>by rw [←Qf];exact qc h)
   rw [hok] at K1
   have HMA:Hid (∀ x,(x∈Qb s→∃ k,k<s.size∧(Qb s).getD k 0=x)):=Qa (fun x hx=>by
    obtain ⟨k,hk,rfl⟩:=List.getElem_of_mem hx
    exact ⟨k,by rw [←Qf];exact hk,by simp [List.getD_eq_getElem?_getD,hk]⟩)
   obtain ⟨S,hS⟩:∃ S,Qb s=S:=⟨_,rfl⟩
   obtain ⟨O,hO⟩:∃ O,Qb o=O:=⟨_,rfl⟩
   rw [hS] at HNIL HIT HGT HME HRS HRL HAL HBY HLs HMA
   rw [hO] at HNIL HIT HRS HRL HAL HOK KP HIX
   rw [hS,hO]
   clear hS hO hok
   go_enter Tryz.func21,Tryz.ntmps21
   go_wp2_with fail
   refine (K1.out _).mono ?_
   rintro e w1 ⟨rfl,b1⟩
   have hs1:=b1.size
   go_wp2
   go_loopw [6,7,8] (fun v sk _ wr=>∃ k:Nat,k≤s.size∧sk=.int .i64 k∧Hid (∀ j,j<k→S.getD j 0∈O)∧wr.ownsRow w.heap.size 3 1 v k (Qo (rkTo S O k))∧Below w.heap.size w wr) (fun _ sk _ _=>s.size-(intOf sk).toNat)
   case atStart=>exact ⟨0,by omega,rfl,Qa (fun j hj=>by omega),World.ownsRow_nil _ _ _ _,b1⟩
   case round =>
    obtain ⟨k,hk,rfl,HA,hown,hbl⟩:=hrel
    have hsz:=hbl.size
    by_cases hlt:k<s.size
    ·have hx256:s[k].toNat<256:=UInt8.toNat_lt _
     have hgk:=HGT.out k hlt
     have HM:=Qa (HME.out k hlt)
     have HR:=Qa (HRS.out k (by rw [HLs.out];exact hlt))
     obtain ⟨x,hx⟩:∃ x,s[k].toNat=x:=⟨_,rfl⟩
     rw [hx] at hgk hx256
     rw [←hgk] at HM HR
     have KX:=Qa (KP.out wr x hx256)
     have HGK:=Qa hgk
     clear hgk
     by_cases hin:x∈O
     ·have hix:=HIX.out x hin
      rw [Zu,if_pos hin] at KX
      obtain ⟨y,hy⟩:∃ y,O.idxOf x=y:=⟨_,rfl⟩
      rw [hy] at KX HR hix
      have HA2:Hid (∀ j,j<k+1→S.getD j 0∈O):=Qa (fun j hj=>by
       rcases Nat.lt_or_ge j k with h | h
       ·exact HA.out j h
       ·rw [show j=k by omega,←HGK.out];exact hin)
      clear hy
      go_wp2_with fail
      refine KX.out.mono ?_
      rintro e w2 ⟨rfl,rfl⟩
      go_wp2_with (at_builtin;refine wpList_append_own _ rfl _ _ 24 rfl w.heap.size 3 i0 (.int .i64 0) 1 8 Tryz.underlying24 hi hz0 hz1 hz2 rfl (by decide) _ _ _ rfl (hown.alloc _) ⟨w2.heap.size,0,none⟩ 1 1 [.int .i64 (y:Int)] rfl rfl ?c1 ?c2 ?c3 ?c4 ?c5 ?_)
      case c1=>exact cell_one_new _ _ _
      case c2=>exact fun u hu=>by simp at hu;subst hu;rfl
      case c3=>unfold maxLen;omega
      case c4=>omega
      case c5=>first | omega | (simp;omega)
      intro v5 w5 hown5 hgrow _
      have hb5:=Zf hbl hsz hown hgrow
      rw [←AIt,←HR.out] at hown5
      clear hown hgrow hbl
      go_wp2
      go_roundw
      case rel=>exact ⟨k+1,by omega,by go_num,HA2,hown5,hb5⟩
      case measure=>simp [intOf];omega
     ·rw [Zu,if_neg hin] at KX
      have HF:Hid (rkOk S O=false):=Qa (QC (fun h=>hin ((HIT.out.1 h).2.2 x HM.out)))
      go_wp2_with fail
      refine KX.out.mono ?_
      rintro e w2 ⟨rfl,rfl⟩
      go_wp2
      go_ret2
      exact ⟨_,XX HF.out.symm,by rw [HNIL.out HF.out];exact World.ownsRow_nil _ _ _ _,hbl⟩
    ·have hks:k=s.size:=by omega
     subst hks
     have HT:Hid (rkOk S O=true):=Qa (HIT.out.2 ⟨by rw [HLs.out];exact h6,HOK.out,fun b hb=>by
      obtain ⟨j,hj,rfl⟩:=HMA.out b hb
      exact HA.out j hj⟩)
     have HL2:=Qa (HRL.out s.size (by rw [HLs.out];exact Nat.le_refl _))
     go_wp2
     go_ret2
     exact ⟨_,XX HT.out.symm,by rw [HAL.out HT.out,HL2.out];exact hown,hbl⟩
  ·have HF:Hid (rkOk (Qb s) (Qb o)=false):=Qa (QC (fun h=>hok ((XD _ _).1 h).2.1))
   rw [QC hok] at K1
   clear hok
   go_enter Tryz.func21,Tryz.ntmps21
   go_wp2_with fail
   refine (K1.out _).mono ?_
   rintro e w1 ⟨rfl,b1⟩
   go_wp2
   go_ret2
   exact ⟨_,XX HF.out.symm,by rw [HNIL.out HF.out];exact World.ownsRow_nil _ _ _ _,b1⟩
 ·have HF:Hid (rkOk (Qb s) (Qb o)=false):=Qa (QC (fun h=>h6 (by rw [←Qf];exact ((XD _ _).1 h).1)))
  have h6I:(600:Int)<s.size:=by omega
  go_enter Tryz.func21,Tryz.ntmps21
  go_wp2
  go_ret2
  exact ⟨_,XX HF.out.symm,by rw [HNIL.out HF.out];exact World.ownsRow_nil _ _ _ _,Below.refl _ _⟩
theorem Zp (a:Option Addr) (cap B:Nat) (z:List Int) (n:Int) (w:World) (hz:Ints w B a z) (hl:z.length≤1048576) (n1:-9223372036854775808≤n) (n2:n≤9223372036854775807) :
 Calls Tryz.prog 51 #[.slice a z.length cap,.int .i64 n] w fun e w'=>e=.returned (.bool (rOk z n))∧w=w':=by
 have HIT:=Qa (Jc z n)
 obtain ⟨m,hm⟩:∃ m,z.length=m:=⟨_,rfl⟩
 have HN:=Qa hm
 have HZ:=Qa hz
 rw [hm] at hl ⊢
 clear hm hz
 by_cases h1:n<1
 ·have HF:Hid (rOk z n=false):=Qa (QC (fun h=>by have:=HIT.out.1 h;omega))
  go_enter Tryz.func51,Tryz.ntmps51
  go_wp2
  go_ret
  exact ⟨Qk HF.out.symm,rfl⟩
 ·by_cases h2:(256:Int)<n
  ·have HF:Hid (rOk z n=false):=Qa (QC (fun h=>by have:=HIT.out.1 h;omega))
   go_enter Tryz.func51,Tryz.ntmps51
   go_wp2
   go_ret
   exact ⟨Qk HF.out.symm,rfl⟩
  ·by_cases h3:(600:Int)<m
   ·have HF:Hid (rOk z n=false):=Qa (QC (fun h=>by have:=(HIT.out.1 h).2.2.1;rw [HN.out] at this;omega))
    go_enter Tryz.func51,Tryz.ntmps51
    go_wp2
    go_ret
    exact ⟨Qk HF.out.symm,rfl⟩
   ·go_enter Tryz.func51,Tryz.ntmps51
    go_wp2
    go_loopw [5] (fun sk wr=>∃ k:Nat,k≤m∧sk=.int .i64 k∧Hid (∀ j,j<k→0≤z.getD j 0∧z.getD j 0<n)∧w=wr) (fun sk _=>m-(intOf sk).toNat)
    case atStart=>exact ⟨0,by omega,rfl,Qa (fun j hj=>by omega),by first | trivial | rfl⟩
    case round =>
     obtain ⟨k,hk,rfl,HA,rfl⟩:=hrel
     by_cases hlt:k<m
     ·obtain ⟨b,off,rfl,hb,hc⟩:=HZ.out.2.2 (by rw [HN.out];omega)
      have ck:=hc k (by rw [HN.out];exact hlt)
      have HMK:Hid (z.getD k 0∈z):=Qa (XA (by rw [HN.out];exact hlt))
      obtain ⟨x,hx⟩:∃ x,z.getD k 0=x:=⟨_,rfl⟩
      rw [hx] at ck HMK
      have HX:=Qa hx
      clear hx hc
      by_cases hx0:x<0
      ·have HF:Hid (rOk z n=false):=Qa (QC (fun h=>by have:=(HIT.out.1 h).2.2.2 x HMK.out;omega))
       go_wp2
       go_ret
       exact ⟨Qk HF.out.symm,rfl⟩
      ·by_cases hxn:n≤x
       ·have HF:Hid (rOk z n=false):=Qa (QC (fun h=>by have:=(HIT.out.1 h).2.2.2 x HMK.out;omega))
        go_wp2
        go_ret
        exact ⟨Qk HF.out.symm,rfl⟩
       ·have HA2:Hid (∀ j,j<k+1→0≤z.getD j 0∧z.getD j 0<n):=Qa (fun j hj=>by
         rcases Nat.lt_or_ge j k with h | h
         ·exact HA.out j h
         ·rw [show j=k by omega,HX.out];omega)
        go_wp2
        go_roundw
        case rel=>exact ⟨k+1,by omega,by go_num,HA2,by first | trivial | rfl⟩
        case measure=>simp [intOf];omega
     ·have hkm:k=m:=by omega
      subst hkm
      have HT:Hid (rOk z n=true):=Qa (HIT.out.2 ⟨by omega,by omega,by rw [HN.out];omega,fun x hx=>by
       obtain ⟨j,hj,rfl⟩:=yj hx
       exact HA.out j (by rw [←HN.out];exact hj)⟩)
      go_wp2
      go_ret
      exact ⟨Qk HT.out.symm,rfl⟩
theorem ADs {a b:Int} (h:a=b):Ending.returned (.int .i64 a)=.returned (.int .i64 b):=by rw [h]
theorem ASi {w:World} {base g n c S:Nat} {e:TypeId} {xs:List Value} (h:w.ownsRow base e S (.slice (some ⟨g,0,none⟩) n c) n xs):n≤c:=by
 rcases h.2 with ⟨h',_⟩ | ⟨g',cap',cur,h',_,_,hnc,_⟩
 ·simp at h'
 ·simp only [Value.slice.injEq] at h'
  omega
theorem AKw (g i j:Nat):(⟨g,i,none⟩:Addr).add j=⟨g,i+j,none⟩:=by unfold Addr.add;split <;> simp_all
theorem AUu {w w':World} {base n S B:Nat} {e:TypeId} {v:Value} {xs:List Value} (h:w.ownsRow base e S v n xs) (hB:base≤B) (hb:Below w.heap.size w w'):w'.ownsRow base e S v n xs:=Ql h hb
theorem ZQ {w w1:World} (hg:w.grownBy w1 none):Below w.heap.size w w1:=⟨hg.os,hg.tape,hg.output,hg.size,fun i hi=>hg.block i hi (by simp)⟩
theorem ABg (n:Nat) (w:World) (hn:n≤1048576) :
 Calls Tryz.prog 53 #[.int .i64 n] w fun e w'=>∃ g,e=.returned (.slice (some ⟨g,0,none⟩) n n)∧w'.ownsRow w.heap.size 3 1 (.slice (some ⟨g,0,none⟩) n n) n (Qe (List.range n))∧Below w.heap.size w w':=by
 obtain ⟨i0,hi,hz0,hz1,hz2⟩:=info_parts Tryz.infoInt
 go_enter Tryz.func53,Tryz.ntmps53
 go_wp2_with (at_make;refine wpList_make_full _ rfl _ _ 24 rfl w.heap.size 3 i0 (.int .i64 0) 1 Tryz.underlying24 hi hz0 hz1 .i64 .i64 _ _ n rfl rfl rfl rfl ?cb1 ?cb2 ?cb3 ?_)
 case cb1=>rw [hz2];omega
 case cb2=>unfold maxLen;omega
 case cb3=>exact Nat.le_refl _
 intro w2 hown hgrow
 have hbl:=ZQ hgrow
 rw [Zl] at hown
 clear hgrow
 go_wp2
 go_loopw [4] (fun sk wr=>∃ (k:Nat) (f:Nat→Nat),k≤n∧sk=.int .i64 k∧Hid (∀ j,j<k→f j=j)∧wr.ownsRow w.heap.size 3 1 (.slice (some ⟨w.heap.size,0,none⟩) n n) n (nats n f)∧Below w.heap.size w wr) (fun sk _=>n-(intOf sk).toNat)
 case atStart=>exact ⟨0,fun _=>0,by omega,rfl,Qa (fun j hj=>by omega),hown,hbl⟩
 case round =>
  obtain ⟨k,f,hk,rfl,HF,hownF,hblF⟩:=hrel
  clear hown hbl
  by_cases hlt:k<n
  ·have d0:=hownF.cellAt k (by omega)
   rw [Qw _ _ _ hlt] at d0
   have f0:=hownF.frozenAt k
   have HF2:Hid (∀ j,j<k+1→(if j=k then k else f j)=j):=Qa (fun j hj=>by
    split
    ·omega
    ·exact HF.out j (by omega))
   go_wp2
   go_roundw
   case rel=>exact ⟨k+1,fun t=>if t=k then k else f t,by omega,by go_num,HF2,by rw [←Zb];exact (hownF.stored k _).1,hblF.setCell (by simp) _⟩
   case measure=>simp [intOf];omega
  ·have hkn:k=n:=by omega
   subst hkn
   have HE:Hid (nats k f=Qe (List.range k)):=Qa (by
    rw [ZC,List.length_range]
    exact Qu fun s hs=>by rw [HF.out s hs];simp [List.getD_eq_getElem?_getD,hs])
   rw [HE.out] at hownF
   go_wp2
   go_ret
   exact ⟨_,rfl,hownF,hblF⟩
theorem jp (base g c x n:Nat) (r:List Nat) (w:World) (hown:w.ownsRow base 3 1 (.slice (some ⟨g,0,none⟩) n c) n (Qe r)) (hr:r.length=n) (hn:n≤256) (hx:x<256) :
 Calls Tryz.prog 54 #[.slice (some ⟨g,0,none⟩) n c,.int .i64 x] w fun e w'=>e=.returned (.int .i64 (Zu r x))∧w=w':=by
 have HR:=Qa hr
 have HOW:=Qa hown
 clear hr hown
 go_enter Tryz.func54,Tryz.ntmps54
 go_wp2
 go_loopw [5] (fun sk wr=>∃ k:Nat,k≤n∧sk=.int .i64 k∧Hid (∀ j,j<k→r.getD j 0≠x)∧Hid (w=wr)) (fun sk _=>n-(intOf sk).toNat)
 case atStart=>exact ⟨0,by omega,rfl,Qa (fun j hj=>by omega),Qa rfl⟩
 case round =>
  obtain ⟨k,hk,rfl,HA,HW⟩:=hrel
  have hownR:wr.ownsRow base 3 1 (.slice (some ⟨g,0,none⟩) n c) n (Qe r):=by rw [←HW.out];exact HOW.out
  by_cases hlt:k<n
  ·have d0:=hownR.cellAt k (by omega)
   rw [ZC,HR.out,Qw _ _ _ hlt] at d0
   obtain ⟨y,hy⟩:∃ y,r.getD k 0=y:=⟨_,rfl⟩
   rw [hy] at d0
   have HY:=Qa hy
   clear hy
   by_cases he:y=x
   ·subst he
    have HP:Hid (Zu r y=k):=Qa (jL (by rw [HR.out];exact hlt) HY.out HA.out)
    go_wp2
    go_ret
    exact ⟨ADs HP.out.symm,HW.out⟩
   ·have hne:¬ (y:Int)=x:=by omega
    have hbe:((y:Int) == (x:Int))=false:=by rw [beq_eq_false_iff_ne];exact hne
    have HA2:Hid (∀ j,j<k+1→r.getD j 0≠x):=Qa (fun j hj=>by
     rcases Nat.lt_or_ge j k with h | h
     ·exact HA.out j h
     ·rw [show j=k by omega,HY.out];exact he)
    go_wp2
    go_roundw
    case rel=>exact ⟨k+1,by omega,by go_num,HA2,HW⟩
    case measure=>simp [intOf];omega
  ·have hkn:k=n:=by omega
   subst hkn
   have HP:Hid (Zu r x=-1):=Qa (jw (fun j hj=>HA.out j (by rw [←HR.out];exact hj)))
   go_wp2
   go_ret
   exact ⟨ADs HP.out.symm,HW.out⟩
theorem AIi (base g c k n:Nat) (r:List Nat) (w:World) (hown:w.ownsRow base 3 1 (.slice (some ⟨g,0,none⟩) n c) n (Qe r)) (hb:base≤w.heap.size) (hr:r.length=n) (hk:k<n) (hn:n≤256) :
 Calls Tryz.prog 55 #[.slice (some ⟨g,0,none⟩) n c,.int .i64 k] w fun e w'=>∃ g2 c2,e=.returned (.slice (some ⟨g2,0,none⟩) n c2)∧w'.ownsRow w.heap.size 3 1 (.slice (some ⟨g2,0,none⟩) n c2) n (Qe (Xf r k))∧Below w.heap.size w w':=by
 obtain ⟨i0,hi,hz0,hz1,hz2⟩:=info_parts Tryz.infoInt
 have HR:=Qa hr
 have HOW:=Qa hown
 have hgw:=(hown.lt g rfl).2
 have hcap:n≤c:=ASi hown
 have d0:=hown.cellAt k (by omega)
 rw [ZC,hr,Qw _ _ _ hk] at d0
 obtain ⟨y,hy⟩:∃ y,r.getD k 0=y:=⟨_,rfl⟩
 rw [hy] at d0
 have HFL:Hid (Xf r k=[y]++r.take k++r.drop (k+1)):=Qa (by unfold Xf;rw [VR,hy];rfl)
 have HTL:Hid ((r.take k).length=k):=Qa (by rw [List.length_take];omega)
 have HDL:Hid ((r.drop (k+1)).length=n-(k+1)):=Qa (by rw [List.length_drop,hr])
 clear hr hown hy
 go_enter Tryz.func55,Tryz.ntmps55
 have hlit:=World.ownsRow_lit (base:=w.heap.size) (e:=3) (size:=1) w #[.int .i64 (y:Int)] 1 (Nat.le_refl _) (by unfold maxLen;omega) (by simp)
 have hb0:Below w.heap.size w (w.alloc (.cells #[.int .i64 (y:Int)] 3)):=(Below.refl _ _).alloc (Nat.le_refl _) _
 have hb0s:w.heap.size<(w.alloc (.cells #[.int .i64 (y:Int)] 3)).heap.size:=by simp
 go_wp2_with (at_builtin;refine wpList_append_own_at _ rfl _ _ 24 rfl w.heap.size 3 i0 (.int .i64 0) 1 8 Tryz.underlying24 hi hz0 hz1 hz2 rfl (by decide) _ _ _ rfl hlit ⟨g,0,none⟩ k c (Qe (r.take k)) rfl ?d0 ?d1 ?d2 ?d3 ?d4 ?d5 ?_)
 case d0=>rw [ZF,HTL.out]
 case d1=>exact fun j u hu=>by have:=ALf HOW.out k j u hu;rwa [AKw,Nat.zero_add] at this
 case d2=>exact Zr _
 case d3=>unfold maxLen;omega
 case d4=>omega
 intro v3 w3 hown3 hgrow _ _
 have hb3:Below w.heap.size w w3:=hb0.grown hgrow (by simp) (fun q hq=>by simp [Value.ownBlock] at hq;omega)
 have hs3:=hb3.size
 have HO3:=Qa (AUu HOW.out hb hb3)
 have HE:Hid (Qe (Xf r k)=(.int .i64 (y:Int)::Qe (r.take k))++Qe (r.drop (k+1))):=Qa (by rw [HFL.out];simp [Qe])
 obtain ⟨X,hX⟩:∃ X,(.int .i64 (y:Int)::Qe (r.take k))=X:=⟨_,rfl⟩
 rw [hX] at hown3 HE
 have hk1:(k:Int)+1≤(c:Int):=by omega
 have hk2:(0:Int)≤(k:Int)+1:=by omega
 have hnc:(n:Int)≤(c:Int):=by omega
 have hk3:(k:Int)+1≤(n:Int):=by omega
 clear hgrow hlit hb0 hb0s hX d0
 by_cases hcap:c=k+1
 ·have hnk:n=k+1:=by omega
  subst hcap
  have HN0:Hid (r.drop (k+1)=[]):=Qa (List.drop_eq_nil_of_le (by rw [HR.out];omega))
  go_wp2_with (at_builtin;refine wpList_append_own_at _ rfl _ _ 24 rfl w.heap.size 3 i0 (.int .i64 0) 1 8 Tryz.underlying24 hi hz0 hz1 hz2 rfl (by decide) _ _ _ rfl hown3 ⟨g,0,none⟩ 0 _ ([]:List Value) rfl ?e0 ?e1 ?e2 ?e3 ?e4 ?e5 ?_)
  case e0=>first | rfl | simp
  case e1=>intro j u hu;simp at hu
  case e2=>intro u hu;simp at hu
  case e3=>unfold maxLen;omega
  case e4=>omega
  case e5=>first | exact hs3 | omega
  intro v4 w4 hown4 hgrow4 _ _
  have hb4:Below w.heap.size w w4:=hb3.grown hgrow4 hs3 (fun q hq=>(hown3.lt q hq).1)
  have HF:Hid (w4.ownsRow w.heap.size 3 1 v4 n (Qe (Xf r k))):=Qa (by
   rw [HE.out,HN0.out,hnk]
   simpa [Qe,Nat.add_comm] using hown4)
  clear hown4 hgrow4 hown3
  obtain ⟨g4,c4,rfl⟩:=Joins.ownsRow_form HF.out (by omega)
  go_wp2
  go_ret
  exact ⟨g4,c4,rfl,HF.out,hb4⟩
 ·have hlt:k+1<c:=by omega
  go_wp2_with (at_builtin;refine wpList_append_own_at _ rfl _ _ 24 rfl w.heap.size 3 i0 (.int .i64 0) 1 8 Tryz.underlying24 hi hz0 hz1 hz2 rfl (by decide) _ _ _ rfl hown3 ⟨g,k+1,none⟩ (n-(k+1)) _ (Qe (r.drop (k+1))) rfl ?f0 ?f1 ?f2 ?f3 ?f4 ?f5 ?_)
  case f0=>first | (rw [ZF,HDL.out,Nat.mul_one]) | (rw [ZF,HDL.out])
  case f1=>first | exact yv HO3.out (k+1) | exact fun j u hu=>by have:=yv HO3.out (k+1) j u hu;rwa [AKw] at this
  case f2=>exact Zr _
  case f3=>unfold maxLen;omega
  case f4=>omega
  case f5=>first | exact hs3 | omega
  intro v4 w4 hown4 hgrow4 _ _
  have hb4:Below w.heap.size w w4:=hb3.grown hgrow4 hs3 (fun q hq=>(hown3.lt q hq).1)
  have HF:Hid (w4.ownsRow w.heap.size 3 1 v4 n (Qe (Xf r k))):=Qa (by
   rw [HE.out]
   have:=hown4
   rwa [show 1+k+(n-(k+1))=n by omega] at this)
  clear hown4 hgrow4 hown3
  obtain ⟨g4,c4,rfl⟩:=Joins.ownsRow_form HF.out (by omega)
  go_wp2
  go_ret
  exact ⟨g4,c4,rfl,HF.out,hb4⟩
theorem XL (s:ByteArray) (w:World) (hs:s.size≤1048576) :
 Calls Tryz.prog 17 #[.string s] w fun e w'=>e=.returned (.bool (decide (0<s.size∧s.size≤600)))∧w=w':=by
 by_cases h1:0<s.size
 ·by_cases h2:s.size≤600
  ·go_enter Tryz.func17,Tryz.ntmps17
   go_wp2
   go_ret
   exact ⟨Qk (by simp [h1,h2];try omega),rfl⟩
  ·go_enter Tryz.func17,Tryz.ntmps17
   go_wp2
   go_ret
   exact ⟨Qk (by simp [h1,h2];try omega),rfl⟩
 ·go_enter Tryz.func17,Tryz.ntmps17
  go_wp2
  go_ret
  exact ⟨Qk (by simp [h1]),rfl⟩
theorem AKk (s:ByteArray) (i k q:Nat) (h:(i+k) % s.size=q) (hq:q<s.size):rotB (Qb s) i k=s[q].toNat:=by
 unfold rotB
 rw [Qf,h,Zn]
 unfold Xr
 simp [hq]
 rfl
theorem VC (s:ByteArray) (i j:Nat) (w:World) (hs:s.size≤1048576) (hi:i<s.size) (hj:j<s.size) :
 Calls Tryz.prog 137 #[.string s,.int .i64 i,.int .i64 j] w fun e w'=>e=.returned (.bool (decide (rlt (Qb s) i j)))∧w=w':=by
 have HD:=Qa (fun k=>AUq (S:=Qb s) (i:=i) (j:=j) (k:=k) (by rw [Qf];exact hi) (by rw [Qf];exact hj))
 have HS:=Qa (ATh (S:=Qb s) (i:=i) (j:=j) (by rw [Qf];exact hi) (by rw [Qf];exact hj))
 obtain ⟨b,hb⟩:∃ b,decide (rlt (Qb s) i j)=b:=⟨_,rfl⟩
 have HB:=Qa hb
 rw [hb]
 clear hb
 go_enter Tryz.func137,Tryz.ntmps137
 go_wp2
 go_loopw [7] (fun sk wr=>∃ k:Nat,k≤s.size∧sk=.int .i64 k∧Hid (∀ t,t<k→rotB (Qb s) i t=rotB (Qb s) j t)∧w=wr) (fun sk _=>s.size-(intOf sk).toNat)
 case atStart=>exact ⟨0,Nat.zero_le _,rfl,Qa (fun t ht=>by omega),rfl⟩
 case round =>
  obtain ⟨k,hk,rfl,HE,rfl⟩:=hrel
  by_cases hlt:k<s.size
  ·obtain ⟨p,hp⟩:∃ p,(i+k) % s.size=p:=⟨_,rfl⟩
   obtain ⟨q,hq⟩:∃ q,(j+k) % s.size=q:=⟨_,rfl⟩
   have hp2:p<s.size:=by rw [←hp];exact Nat.mod_lt _ (by omega)
   have hq2:q<s.size:=by rw [←hq];exact Nat.mod_lt _ (by omega)
   have hpi:((i:Int)+(k:Int)) % (s.size:Int)=(p:Int):=by rw [←hp];simp
   have hqi:((j:Int)+(k:Int)) % (s.size:Int)=(q:Int):=by rw [←hq];simp
   have HP:=Qa (AKk s i k p hp hp2)
   have HQ:=Qa (AKk s j k q hq hq2)
   clear hp hq
   by_cases e:s[p].toNat=s[q].toNat
   ·have hne:((s[p].toNat:Int) != (s[q].toNat:Int))=false:=by simp [e]
    have HE2:Hid (∀ t,t<k+1→rotB (Qb s) i t=rotB (Qb s) j t):=Qa (fun t ht=>by
     rcases Nat.lt_or_ge t k with h | h
     ·exact HE.out t h
     ·rw [show t=k by omega,HP.out,HQ.out,e])
    clear e
    go_wp2
    go_roundw
    case rel=>exact ⟨k+1,by omega,by go_num,HE2,trivial⟩
    case measure=>simp [intOf];omega
   ·have hne:((s[p].toNat:Int) != (s[q].toNat:Int))=true:=by simp;omega
    have HF:Hid (b=decide (s[p].toNat<s[q].toNat)):=Qa (by
     have:=HD.out k (by rw [Qf];exact hlt) HE.out (by rw [HP.out,HQ.out];exact e)
     rw [HP.out,HQ.out] at this
     rw [←HB.out,Bool.eq_iff_iff]
     simp only [decide_eq_true_eq]
     exact this)
    clear e
    go_wp2
    go_ret
    exact ⟨Qk HF.out.symm,rfl⟩
  ·have hke:k=s.size:=by omega
   subst hke
   have HF:Hid (b=decide (j<i)):=Qa (by
    have:=HS.out (by rw [Qf];exact HE.out)
    rw [←HB.out,Bool.eq_iff_iff]
    simp only [decide_eq_true_eq]
    exact this)
   go_wp2
   go_ret
   exact ⟨Qk HF.out.symm,rfl⟩
theorem Qy (L:List Nat):Qo (ints L)=Qe L:=by simp [Qo,ints,Qe]
theorem QX (D:List Nat) (x:Nat):Qe (D++[x])=Qe D++[.int .i64 (x:Int)]:=by simp [Qe]
theorem Xz {w:World} {B b off:Nat} {L:List Nat} (hc:∀ i,i<(ints L).length→w.cell? ⟨b,off+i,none⟩=some (.int .i64 ((ints L).getD i 0))) (k:Nat) (hk:k<L.length):w.cell? ⟨b,off+k,none⟩=some (.int .i64 ((L.getD k 0:Nat):Int)):=by
 have:=hc k (by rw [Qj];exact hk)
 rwa [XH] at this
theorem AIl (a:Option Addr) (cap B m:Nat) (L:List Nat) (w:World) (hz:Ints w B a (ints L)) (hB:B≤w.heap.size) (hok:rOk (ints L) m=true) (hm1:1≤m) (hm2:m≤256) (hL6:L.length≤600) (hLm:∀ x∈L,x<m) :
 Calls Tryz.prog 23 #[.slice a L.length cap,.int .i64 m] w fun e w'=>∃ v,e=.returned v∧w'.ownsRow w.heap.size 3 1 v L.length (Qe (runF mtfF (List.range m) L))∧Below w.heap.size w w':=by
 obtain ⟨i0,hi,hz0,hz1,hz2⟩:=info_parts Tryz.infoInt
 have KR:=Qa (Zp a cap B (ints L) m w hz (by rw [Qj];omega) (by omega) (by omega))
 rw [hok,Qj] at KR
 have KW:=Qa (fun W=>ABg m W (by omega))
 have HZ:=Qa hz
 have HLM:=Qa hLm
 obtain ⟨A,hA⟩:∃ A,runF mtfF (List.range m) L=A:=⟨_,rfl⟩
 have HA:=Qa hA
 rw [hA]
 obtain ⟨n,hn⟩:∃ n,L.length=n:=⟨_,rfl⟩
 have HN:=Qa hn
 rw [hn] at KR hL6 ⊢
 clear hz hA hn hok hLm
 go_enter Tryz.func23,Tryz.ntmps23
 go_wp2_with fail
 refine KR.out.mono ?_
 rintro e w0 ⟨rfl,rfl⟩
 go_wp2_with fail
 refine (KW.out _).mono ?_
 rintro e w1 ⟨g0,rfl,hrow0,b1⟩
 have hs1:=b1.size
 go_wp2
 go_loopw [5,6,7,8] (fun vo vr si _ wr=>∃ (k g c:Nat) (r D:List Nat),k≤n∧si=.int .i64 k∧vr=.slice (some ⟨g,0,none⟩) m c∧Hid (A=D++runF mtfF r (L.drop k))∧Hid (D.length=k)∧Hid (Je m r)∧wr.ownsRow w.heap.size 3 1 (.slice (some ⟨g,0,none⟩) m c) m (Qe r)∧wr.ownsRow w.heap.size 3 1 vo k (Qe D)∧Hid (vo.ownBlock≠some g)∧Below w.heap.size w wr) (fun _ _ si _ _=>n-(intOf si).toNat)
 case atStart=>exact ⟨0,g0,m,List.range m,[],by omega,rfl,rfl,Qa (by rw [←HA.out];rfl),Qa rfl,Qa (Je.start m),hrow0,World.ownsRow_nil _ _ _ _,Qa (by simp [Value.ownBlock]),b1⟩
 case round =>
  obtain ⟨k,g,c,r,D,hk,rfl,rfl,HD,HDl,HP,hrow,hout,HNE,hbl⟩:=hrel
  clear hrow0 b1
  have hsz:=hbl.size
  by_cases hlt:k<n
  ·obtain ⟨b,off,rfl,hb,hc⟩:=(HZ.out.below (hbl.mono hB)).2.2 (by rw [Qj,HN.out];omega)
   have ck:=Xz (B:=B) hc k (by rw [HN.out];exact hlt)
   have hxm:=HLM.out _ (ZE L k (by rw [HN.out];exact hlt))
   have HDR:=Qa (Zx L k (by rw [HN.out];exact hlt))
   obtain ⟨x,hx⟩:∃ x,L.getD k 0=x:=⟨_,rfl⟩
   rw [hx] at ck hxm HDR
   have hgw:=(hrow.lt g rfl).2
   have KP:=Qa (jp w.heap.size g c x m r wr hrow HP.out.len hm2 (by omega))
   have hkm:=HP.out.idx hxm
   rw [Zu,if_pos ((HP.out.mem x).2 hxm)] at KP
   have HP2:=Qa (HP.out.front hkm)
   obtain ⟨y,hy⟩:∃ y,r.idxOf x=y:=⟨_,rfl⟩
   have HSt:Hid (A=(D++[y])++runF mtfF (Xf r y) (L.drop (k+1))):=Qa (by
    rw [HD.out,HDR.out,runF,List.append_assoc]
    simp only [mtfF,hy]
    rfl)
   rw [hy] at KP hkm HP2
   have HR:=Qa hrow
   have HRL:=Qa HP.out.len
   clear hx hc hy hrow
   go_wp2_with fail
   refine KP.out.mono ?_
   rintro e w3 ⟨rfl,rfl⟩
   go_wp2_with (at_builtin;refine wpList_append_own_at _ rfl _ _ 24 rfl w.heap.size 3 i0 (.int .i64 0) 1 8 Tryz.underlying24 hi hz0 hz1 hz2 rfl (by decide) _ _ _ rfl (hout.alloc _) ⟨wr.heap.size,0,none⟩ 1 1 [.int .i64 (y:Int)] rfl rfl ?c1 ?c2 ?c3 ?c4 ?c5 ?_)
   case c1=>exact cell_one_new _ _ _
   case c2=>exact fun u hu=>by simp at hu;subst hu;rfl
   case c3=>unfold maxLen;omega
   case c4=>omega
   case c5=>first | omega | (simp;omega)
   intro v5 w5 hown5 hgrow _ hloc
   have hb5:=Zf hbl hsz hout hgrow
   have hs5:=hb5.size
   have HNE5:Hid (v5.ownBlock≠some g):=Qa (by
    intro e
    rcases hloc with h | h
    ·exact HNE.out (by rw [←h];exact e)
    ·rw [e] at h;simp at h;omega)
   have hR5:=(HR.out.alloc (.cells #[.int .i64 (y:Int)] 3)).kept hgrow (.inr (fun e=>HNE.out e.symm))
   have HD5:Hid ((D++[y]).length=k+1):=Qa (by simp [HDl.out])
   rw [←QX] at hown5
   have KF:=Qa (AIi w.heap.size g c y m r w5 hR5 hs5 HRL.out hkm hm2)
   have HO5:=Qa hown5
   clear hout hgrow hbl hloc hown5 hR5
   go_wp2_with fail
   refine KF.out.mono ?_
   rintro e w6 ⟨g2,c2,rfl,hrow6,b6⟩
   have hb6:=Qc b6 hs5 hb5
   have hO6:=Ql HO5.out b6
   have HNE6:Hid (v5.ownBlock≠some g2):=Qa (by
    intro e
    have h1:=(hrow6.lt g2 rfl).1
    have h2:=(HO5.out.lt g2 e).2
    omega)
   have hR6:=Joins.ownsRow_le hrow6 hs5
   clear hrow6 b6 hb5
   go_wp2
   go_roundw
   case rel=>exact ⟨k+1,g2,c2,Xf r y,D++[y],by omega,by go_num,rfl,HSt,HD5,HP2,hR6,hO6,HNE6,hb6⟩
   case measure=>simp [intOf];omega
  ·have hkn:k=n:=by omega
   subst hkn
   have HE:Hid (A=D):=Qa (by rw [HD.out,←HN.out,List.drop_length,runF,List.append_nil])
   go_wp2
   go_ret
   exact ⟨_,rfl,by rw [HE.out];exact hout,hbl⟩
theorem jb (a:Option Addr) (cap B:Nat) (z:List Int) (n:Int) (w:World) (hz:Ints w B a z) (hB:B≤w.heap.size) (hl:z.length≤1048576) (n1:-9223372036854775808≤n) (n2:n≤9223372036854775807) :
 Calls Tryz.prog 23 #[.slice a z.length cap,.int .i64 n] w fun e w'=>∃ v,e=.returned v∧w'.ownsRow w.heap.size 3 1 v (mtfZ z n).length (Qo (mtfZ z n))∧Below w.heap.size w w':=by
 by_cases hok:rOk z n=true
 ·obtain ⟨L,m,rfl,rfl,hm1,hm2,hL6,hLm⟩:=Za hok
  rw [JS hok,Qy,Qj,Qj,Xc]
  exact AIl a cap B m L w hz hB hok hm1 hm2 hL6 hLm
 ·have hno:=QC hok
  have KR:=Qa (Zp a cap B z n w hz hl n1 n2)
  rw [hno] at KR
  rw [vR hno]
  clear hno hok
  go_enter Tryz.func23,Tryz.ntmps23
  go_wp2_with fail
  refine KR.out.mono ?_
  rintro e w0 ⟨rfl,rfl⟩
  go_wp2
  go_ret
  exact ⟨_,rfl,World.ownsRow_nil _ _ _ _,Below.refl _ _⟩
theorem JH {w:World} {base g n c:Nat} {X:List Nat} (h:w.ownsRow base 3 1 (.slice (some ⟨g,0,none⟩) n c) n (Qe X)) (k:Nat) (hk:k<n) (hX:X.length=n):w.cell? ⟨g,k,none⟩=some (.int .i64 ((X.getD k 0:Nat):Int)):=by
 have:=h.cellAt k (by omega)
 rwa [ZC,hX,Qw _ _ _ hk] at this
theorem VL (X:List Nat) (k x:Nat):(Qe X).set k (.int .i64 (x:Int))=Qe (X.set k x):=by simp [Qe,List.map_set]
theorem AUz (base ga gb ca cb n:Nat) (fa fb:Nat→Nat) (w:World) (ha:w.ownsRow base 3 1 (.slice (some ⟨ga,0,none⟩) n ca) n (nats n fa)) (hb:w.ownsRow base 3 1 (.slice (some ⟨gb,0,none⟩) n cb) n (nats n fb)) (hbs:base≤w.heap.size) (hn1:1≤n) (hn:n≤256) (hfa:∀ x,fa x≤1048576) (hfb:∀ x,fb x≤1048576) :
 Calls Tryz.prog 56 #[.slice (some ⟨ga,0,none⟩) n ca,.slice (some ⟨gb,0,none⟩) n cb] w fun e w'=>∃ g c,e=.returned (.slice (some ⟨g,0,none⟩) n c)∧w'.ownsRow w.heap.size 3 1 (.slice (some ⟨g,0,none⟩) n c) n (Qe (byL (fun x=>fa x+fb x) n))∧Below w.heap.size w w':=by
 obtain ⟨i0,hi,hz0,hz1,hz2⟩:=info_parts Tryz.infoInt
 have HA:=Qa ha
 have HB:=Qa hb
 have HFA:=Qa hfa
 have HFB:=Qa hfb
 have hga:=(ha.lt ga rfl).2
 have hgb:=(hb.lt gb rfl).2
 obtain ⟨f,hf⟩:∃ f:Nat→Nat,(fun x=>fa x+fb x)=f:=⟨_,rfl⟩
 have HF:Hid (∀ x,f x=fa x+fb x):=Qa (fun x=>by rw [←hf])
 rw [hf]
 have HBL:=Qa (qh f)
 have HBP:=Qa (fun n=>(Xt f n).1)
 have HBW:=Qa (fun n=>(Xt f n).2)
 have HPUT:=Qa (fun i p h1 h2=>AZa (f:=f) (i:=i) (p:=p) h1 h2)
 clear ha hb hfa hfb hf
 go_enter Tryz.func56,Tryz.ntmps56
 go_wp2
 go_loopw [5,6,7] (fun vo si _ wr=>∃ i:Nat,i≤n∧si=.int .i64 i∧wr.ownsRow w.heap.size 3 1 vo i (Qe (byL f i))∧Below w.heap.size w wr) (fun _ si _ _=>n-(intOf si).toNat)
 case atStart=>exact ⟨0,by omega,rfl,World.ownsRow_nil _ _ _ _,Below.refl _ _⟩
 case round =>
  obtain ⟨i,hin,rfl,hout,hbl⟩:=hrel
  have hsz:=hbl.size
  by_cases hlt:i<n
  ·have hltI:(i:Int)<n:=by omega
   obtain ⟨S,hS⟩:∃ S,byL f i=S:=⟨_,rfl⟩
   have HS:=Qa hS
   have HL:Hid (S.length=i):=Qa (by rw [←hS];exact HBL.out i)
   rw [hS] at hout
   obtain ⟨ao,co,rfl⟩:=Qq hout
   clear hS
   go_wp2_with (at_builtin;refine wpList_append_own _ rfl _ _ 24 rfl w.heap.size 3 i0 (.int .i64 0) 1 8 Tryz.underlying24 hi hz0 hz1 hz2 rfl (by decide) _ _ _ rfl (hout.alloc _) ⟨wr.heap.size,0,none⟩ 1 1 [.int .i64 (i:Int)] rfl rfl ?c1 ?c2 ?c3 ?c4 ?c5 ?_)
   case c1=>exact cell_one_new _ _ _
   case c2=>exact fun u hu=>by simp at hu;subst hu;rfl
   case c3=>unfold maxLen;omega
   case c4=>omega
   case c5=>first | omega | (simp;omega)
   intro v5 w5 hown5 hgrow _
   have hb5:=Zf hbl hsz hout hgrow
   have hs5:=hb5.size
   rw [←QX] at hown5
   obtain ⟨g,c,rfl⟩:=Joins.ownsRow_form hown5 (by omega)
   have hgw:=(hown5.lt g rfl).1
   have HSt:Hid (Sh (S++[i]) S i):=Qa (by have:=Sh.start S i;rwa [HL.out] at this)
   clear hout hgrow hbl
   go_wp2
   go_loopg [7] i (fun p sp wx=>∃ X:List Nat,p≤i∧sp=.int .i64 p∧Hid (Sh X S p)∧Hid (∀ y∈S.drop p,f y<f i)∧wx.ownsRow w.heap.size 3 1 (.slice (some ⟨g,0,none⟩) (i+1) c) (i+1) (Qe X)∧Below w.heap.size w wx)
   case atStart=>exact ⟨S++[i],Nat.le_refl _,rfl,HSt,Qa (by rw [List.drop_eq_nil_of_le (by rw [HL.out];exact Nat.le_refl _)];simp),hown5,hb5⟩
   case round =>
    obtain ⟨X,hp,rfl,HX,HD,hx,hbx⟩:=hrel
    clear hown5 hb5
    have hXl:Hid (X.length=i+1):=Qa (by rw [HX.out.1,HL.out])
    have HAx:=Ql HA.out hbx
    have HBx:=Ql HB.out hbx
    cases gk with
    | zero =>
      have HE:Hid (X.set 0 i=byL f (i+1)):=Qa (by
       rw [HX.out.put (by omega) i]
       rw [←HS.out]
       refine HPUT.out i 0 ?_ ?_
       ·intro z hz
        rw [HS.out] at hz
        exact .inl (HD.out z hz)
       ·intro z hz;simp at hz)
      go_wp2
      go_big_quiet (fail)
      have hxq:(wr.drewN nq).ownsRow w.heap.size 3 1 (.slice (some ⟨g,0,none⟩) (i+1) c) (i+1) (Qe X):=hx
      have hbq:Below w.heap.size w (wr.drewN nq):=Zy hbx nq
      obtain ⟨wq,hwq⟩:∃ wq,wr.drewN nq=wq:=⟨_,rfl⟩
      rw [hwq] at hxq hbq ⊢
      clear hx hbx hwq HAx HBx
      have b2:=JH hxq 0 (by omega) hXl.out
      have f2:=hxq.frozenAt 0
      have hx2:=(hxq.stored 0 (.int .i64 (i:Int))).1
      rw [VL,HE.out] at hx2
      have hb2:=hbq.setCell (p:=⟨g,0,none⟩) hgw (.int .i64 (i:Int))
      clear hxq hbq
      go_wp2
      go_roundw
      case rel=>exact ⟨i+1,by omega,by go_num,hx2,hb2⟩
      case measure=>simp [intOf];omega
    | succ q =>
      have hq:=JH hx q (by omega) hXl.out
      rw [HX.out.get] at hq
      have hsm:=(HBP.out i).mem (S.getD q 0)
      rw [HS.out] at hsm
      have hyi:=hsm.1 (ZE S q (by rw [HL.out];omega))
      have HST:=HX.out.step (by rw [HL.out];omega)
      obtain ⟨y,hy⟩:∃ y,S.getD q 0=y:=⟨_,rfl⟩
      rw [hy] at hq hyi HST
      have HY:=Qa hy
      have a1:=HAx.cellAt y (by omega)
      rw [Qw _ _ _ (by omega)] at a1
      have a2:=HBx.cellAt y (by omega)
      rw [Qw _ _ _ (by omega)] at a2
      have a3:=HAx.cellAt i (by omega)
      rw [Qw _ _ _ (by omega)] at a3
      have a4:=HBx.cellAt i (by omega)
      rw [Qw _ _ _ (by omega)] at a4
      have n1:=HFA.out y
      have n2:=HFB.out y
      have n3:=HFA.out i
      have n4:=HFB.out i
      have HF1:=Qa (HF.out y)
      have HF2:=Qa (HF.out i)
      obtain ⟨x1,e1⟩:∃ x,fa y=x:=⟨_,rfl⟩
      obtain ⟨x2,e2⟩:∃ x,fb y=x:=⟨_,rfl⟩
      obtain ⟨x3,e3⟩:∃ x,fa i=x:=⟨_,rfl⟩
      obtain ⟨x4,e4⟩:∃ x,fb i=x:=⟨_,rfl⟩
      rw [e1] at a1 n1 HF1
      rw [e2] at a2 n2 HF1
      rw [e3] at a3 n3 HF2
      rw [e4] at a4 n4 HF2
      clear hy e1 e2 e3 e4 hsm
      have hq0:(0:Int)<(q:Int)+1:=by omega
      have hqi:(q:Int)<(i:Int)+1:=by omega
      have hyn:(y:Int)<(n:Int):=by omega
      have hinI:(i:Int)<(n:Int):=by omega
      have hqn:(0:Int)≤(q:Int):=by omega
      by_cases hlt2:x1+x2<x3+x4
      ·have hlt3:(x1:Int)+x2<(x3:Int)+x4:=by omega
       have HD2:Hid (∀ z∈S.drop q,f z<f i):=Qa (by
        intro z hz
        rw [Zx S q (by rw [HL.out];omega)] at hz
        rcases List.mem_cons.1 hz with e | e
        ·rw [e,HY.out,HF1.out,HF2.out];exact hlt2
        ·exact HD.out z e)
       go_wp2
       go_big_quiet (fail)
       have hxq:(wr.drewN nq).ownsRow w.heap.size 3 1 (.slice (some ⟨g,0,none⟩) (i+1) c) (i+1) (Qe X):=hx
       have hbq:Below w.heap.size w (wr.drewN nq):=Zy hbx nq
       obtain ⟨wq,hwq⟩:∃ wq,wr.drewN nq=wq:=⟨_,rfl⟩
       rw [hwq] at hxq hbq ⊢
       clear hx hbx hwq a1 a2 a3 a4 HAx HBx hq
       have b1:=JH hxq q (by omega) hXl.out
       rw [HX.out.get,HY.out] at b1
       have b2:=JH hxq (q+1) (by omega) hXl.out
       have f2:=hxq.frozenAt (q+1)
       have hx2:=(hxq.stored (q+1) (.int .i64 (y:Int))).1
       rw [VL] at hx2
       have hb2:=hbq.setCell (p:=⟨g,q+1,none⟩) hgw (.int .i64 (y:Int))
       clear hxq hbq
       go_wp2
       go_roundg q
       case measure=>omega
       case rel=>exact ⟨X.set (q+1) y,by omega,by go_num,Qa HST,HD2,hx2,hb2⟩
      ·have hge3:¬ ((x1:Int)+x2<(x3:Int)+x4):=by omega
       have HE:Hid (X.set (q+1) i=byL f (i+1)):=Qa (by
        rw [HX.out.put (by rw [HL.out];omega) i]
        rw [←HS.out]
        refine HPUT.out i (q+1) ?_ ?_
        ·intro z hz
         rw [HS.out] at hz
         exact .inl (HD.out z hz)
        ·intro z hz
         have hzi:=((HBP.out i).mem z).1 (List.mem_of_mem_take hz)
         have hnb:=AGl (x:=i) (q:=q) (HBW.out i) (by rw [HBL.out];omega) (by
          rw [HS.out,HY.out]
          unfold bfS
          rw [HF1.out,HF2.out]
          omega) z hz
         rcases zo f (x:=z) (y:=i) (by omega) with h | h
         ·exact h
         ·exact absurd h hnb)
       go_wp2
       go_big_quiet (fail)
       have hxq:(wr.drewN nq).ownsRow w.heap.size 3 1 (.slice (some ⟨g,0,none⟩) (i+1) c) (i+1) (Qe X):=hx
       have hbq:Below w.heap.size w (wr.drewN nq):=Zy hbx nq
       obtain ⟨wq,hwq⟩:∃ wq,wr.drewN nq=wq:=⟨_,rfl⟩
       rw [hwq] at hxq hbq ⊢
       clear hx hbx hwq a1 a2 a3 a4 HAx HBx hq
       have b2:=JH hxq (q+1) (by omega) hXl.out
       have f2:=hxq.frozenAt (q+1)
       have hx2:=(hxq.stored (q+1) (.int .i64 (i:Int))).1
       rw [VL,HE.out] at hx2
       have hb2:=hbq.setCell (p:=⟨g,q+1,none⟩) hgw (.int .i64 (i:Int))
       clear hxq hbq
       go_wp2
       go_roundw
       case rel=>exact ⟨i+1,by omega,by go_num,hx2,hb2⟩
       case measure=>simp [intOf];omega
  ·have hie:i=n:=by omega
   subst hie
   obtain ⟨g,c,rfl⟩:=Joins.ownsRow_form hout (by omega)
   go_wp2
   go_ret
   exact ⟨g,c,rfl,hout,hbl⟩
theorem AIx (a:Option Addr) (cap B m:Nat) (L:List Nat) (w:World) (hz:Ints w B a (ints L)) (hB:B≤w.heap.size) (hok:rOk (ints L) m=true) (hm1:1≤m) (hm2:m≤256) (hL6:L.length≤600) (hLm:∀ x∈L,x<m) :
 Calls Tryz.prog 25 #[.slice a L.length cap,.int .i64 m] w fun e w'=>∃ v1 v2,e=.returned (.tuple #[v1,v2])∧w'.ownsRow w.heap.size 3 1 v1 m (Qe ((List.range m).map fun x=>L.count x))∧w'.ownsRow w.heap.size 3 1 v2 (Qs L (m-1)).length (Qe (Qs L (m-1)))∧Hid (∀ g,v1.ownBlock=some g→v2.ownBlock≠some g)∧Below w.heap.size w w':=by
 obtain ⟨i0,hi,hz0,hz1,hz2⟩:=info_parts Tryz.infoInt
 have KR:=Qa (Zp a cap B (ints L) m w hz (by rw [Qj];omega) (by omega) (by omega))
 rw [hok,Qj] at KR
 have HZ:=Qa hz
 have HLM:=Qa hLm
 have HGL:Hid (∀ k,k≤m→(Qs L k).length≤600):=Qa (fun k hk=>Nat.le_trans (VE hLm hk) hL6)
 obtain ⟨n,hn⟩:∃ n,L.length=n:=⟨_,rfl⟩
 have HN:=Qa hn
 rw [hn] at KR hL6 ⊢
 have hmI:(m:Int)-1=((m-1:Nat):Int):=by omega
 have HMI:=Qa hmI
 clear hz hn hok hLm hmI
 go_enter Tryz.func25,Tryz.ntmps25
 go_wp2_with fail
 refine KR.out.mono ?_
 rintro e w0 ⟨rfl,rfl⟩
 go_wp2_with (at_make;refine wpList_make_full _ rfl _ _ 24 rfl w.heap.size 3 i0 (.int .i64 0) 1 Tryz.underlying24 hi hz0 hz1 .i64 .i64 _ _ m rfl rfl rfl rfl ?cb1 ?cb2 ?cb3 ?_)
 case cb1=>rw [hz2];omega
 case cb2=>unfold maxLen;omega
 case cb3=>exact Nat.le_refl _
 intro w1 hownC hgrow1
 have b1:=ZQ hgrow1
 have s1:=b1.size
 rw [Zl] at hownC
 have hgc:=(hownC.lt w.heap.size rfl).2
 obtain ⟨M,hM⟩:∃ M,w1.heap.size=M:=⟨_,rfl⟩
 have HM:Hid (w1.heap.size=M):=Qa hM
 have hs1M:M≤w1.heap.size:=by omega
 rw [hM] at hgc
 have HC0:Hid (nats m (fun _=>0)=nats m (fun y=>if y<0 then L.count y else 0)):=Qa (Qu fun s _=>by rw [if_neg (by omega)])
 rw [HC0.out] at hownC
 have HG0:Hid (Qs L (min 0 (m-1))=[]):=Qa (by rw [Nat.zero_min];rfl)
 have hownG:w1.ownsRow M 3 1 (.slice none 0 0) (Qs L (min 0 (m-1))).length (Qe (Qs L (min 0 (m-1)))):=by rw [HG0.out];exact World.ownsRow_nil _ _ _ _
 clear hgrow1 hM HC0
 go_wp2
 go_loopw [7,8,9,10] (fun vg sx _ _ wr=>∃ x:Nat,x≤m∧sx=.int .i64 x∧wr.ownsRow w.heap.size 3 1 (.slice (some ⟨w.heap.size,0,none⟩) m m) m (nats m (fun y=>if y<x then L.count y else 0))∧wr.ownsRow M 3 1 vg (Qs L (min x (m-1))).length (Qe (Qs L (min x (m-1))))∧Below w.heap.size w wr∧M≤wr.heap.size) (fun _ sx _ _ _=>m-(intOf sx).toNat)
 case atStart=>exact ⟨0,by omega,rfl,hownC,hownG,b1,hs1M⟩
 case round =>
  obtain ⟨x,hx,rfl,hC,hG,hbl,hMr⟩:=hrel
  clear hownC hownG b1 hs1M
  by_cases hlt:x<m
  ·have hxI:(x:Int)<m:=by omega
   have HCx:=Qa hC
   have HF0:Hid (∀ y,(if y<x then L.count y else 0)=if y<x then L.count y else if y=x then (L.take 0).count x else 0):=Qa (fun y=>by
    by_cases h1:y<x
    ·rw [if_pos h1,if_pos h1]
    ·rw [if_neg h1,if_neg h1];simp)
   have HGx:Hid ((x<m-1→Qs L (x+1)=Qs L (min x (m-1))++QW x 0 (L.drop 0))∧(¬ x<m-1→Qs L (min x (m-1))=Qs L (m-1))):=Qa ⟨fun h=>by
    rw [Nat.min_eq_left (by omega),je];rfl,fun h=>by rw [Nat.min_eq_right (by omega)]⟩
   obtain ⟨G0,hG0⟩:∃ G0,Qs L (min x (m-1))=G0:=⟨_,rfl⟩
   rw [hG0] at hG HGx
   clear hG0
   go_wp2
   go_loopw [7,9,10] (fun vg sg si wx=>∃ (i g:Nat) (G:List Nat) (f:Nat→Nat),i≤n∧si=.int .i64 i∧sg=.int .i64 g∧Hid (g≤i)∧Hid (∀ y,f y=if y<x then L.count y else if y=x then (L.take i).count x else 0)∧Hid ((x<m-1→Qs L (x+1)=G++QW x g (L.drop i))∧(¬ x<m-1→G=Qs L (m-1)))∧wx.ownsRow w.heap.size 3 1 (.slice (some ⟨w.heap.size,0,none⟩) m m) m (nats m f)∧wx.ownsRow M 3 1 vg G.length (Qe G)∧Below w.heap.size w wx∧M≤wx.heap.size) (fun _ _ si _=>n-(intOf si).toNat)
   case atStart=>exact ⟨0,0,G0,_,by omega,rfl,rfl,Qa (Nat.le_refl _),HF0,HGx,hC,hG,hbl,hMr⟩
   case round =>
    obtain ⟨i,g,G,f,hin,rfl,rfl,HGI,HF,HGG,hCi,hGi,hbi,hMi⟩:=hrel
    clear hC hG hbl hMr
    have hsz:=hbi.size
    by_cases hlt2:i<n
    ·obtain ⟨b,off,rfl,hb,hc⟩:=(HZ.out.below (hbi.mono hB)).2.2 (by rw [Qj,HN.out];omega)
     have ck:=Xz (B:=B) hc i (by rw [HN.out];exact hlt2)
     have HDR:=Qa (Zx L i (by rw [HN.out];exact hlt2))
     have HCT:=Qa (jf L i x (by rw [HN.out];exact hlt2))
     obtain ⟨y,hy⟩:∃ y,L.getD i 0=y:=⟨_,rfl⟩
     rw [hy] at ck HDR HCT
     have hgi:=HGI.out
     have hi2I:(i:Int)<n:=by omega
     clear hy hc
     by_cases hgt:x<y
     ·have hgtI:(x:Int)<y:=by omega
      have hneI:¬ (y:Int)=x:=by omega
      have hbe:((y:Int) == (x:Int))=false:=by rw [beq_eq_false_iff_ne];exact hneI
      have HF2:Hid (∀ z,f z=if z<x then L.count z else if z=x then (L.take (i+1)).count x else 0):=Qa (fun z=>by rw [HF.out z,HCT.out,if_neg (show ¬ y=x by omega),Nat.add_zero])
      have HG2:Hid ((x<m-1→Qs L (x+1)=G++QW x (g+1) (L.drop (i+1)))∧(¬ x<m-1→G=Qs L (m-1))):=Qa ⟨fun h=>by rw [HGG.out.1 h,HDR.out,qQ _ hgt],HGG.out.2⟩
      go_wp2
      go_roundw
      case rel=>exact ⟨i+1,g+1,G,f,by omega,by go_num,by go_num,Qa (by omega),HF2,HG2,hCi,hGi,hbi,hMi⟩
      case measure=>simp [intOf];omega
     ·have hgtI:¬ (x:Int)<y:=by omega
      by_cases he:y=x
      ·subst he
       have hbe:((y:Int) == (y:Int))=true:=by simp
       have hcI:=HF.out y
       rw [if_neg (by omega),if_pos rfl] at hcI
       have hcle:f y≤i:=by rw [hcI];exact Nat.le_trans List.count_le_length (by rw [List.length_take];omega)
       have d0:=hCi.cellAt y (by omega)
       rw [Qw _ _ _ hlt] at d0
       have f0:=hCi.frozenAt y
       have HF2:Hid (∀ z,(if z=y then f y+1 else f z)=if z<y then L.count z else if z=y then (L.take (i+1)).count y else 0):=Qa (fun z=>by
        by_cases e:z=y
        ·subst e;rw [if_pos rfl,if_neg (by omega),if_pos rfl,HCT.out,if_pos rfl,hcI]
        ·rw [if_neg e,HF.out z];simp [e])
       obtain ⟨c,hcc⟩:∃ c,f y=c:=⟨_,rfl⟩
       have HCC:=Qa hcc
       rw [hcc] at d0 hcle HF2
       have hC2:=(hCi.stored y (.int .i64 ((c+1:Nat):Int))).1
       rw [Zb] at hC2
       have hG2:=Zm hGi (p:=⟨w.heap.size,y,none⟩) hgc (.int .i64 ((c+1:Nat):Int))
       have hb2:=hbi.setCell (p:=⟨w.heap.size,y,none⟩) (Nat.le_refl _) (.int .i64 ((c+1:Nat):Int))
       have hcE:((c+1:Nat):Int)=(c:Int)+1:=by omega
       rw [hcE] at hC2 hG2 hb2
       have hM2:M≤(wr.setCell ⟨w.heap.size,y,none⟩ (.int .i64 ((c:Int)+1))).heap.size:=by simpa using hMi
       have HGE:Hid (QW y g (L.drop i)=g::QW y 0 (L.drop (i+1))):=Qa (by rw [HDR.out,qA])
       by_cases hlast:y<m-1
       ·have hlastI:(y:Int)<(m:Int)-1:=by omega
        have HGl:Hid (G.length+1≤600):=Qa (by
         have h1:=HGL.out (y+1) (by omega)
         rw [HGG.out.1 hlast,HGE.out] at h1
         simp only [List.length_append,List.length_cons] at h1
         omega)
        have hGl:=HGl.out
        have HG2:Hid ((y<m-1→Qs L (y+1)=(G++[g])++QW y 0 (L.drop (i+1)))∧(¬ y<m-1→G++[g]=Qs L (m-1))):=Qa ⟨fun h=>by rw [HGG.out.1 h,HGE.out];simp,fun h=>absurd hlast h⟩
        have HGlen:Hid ((G++[g]).length=G.length+1):=Qa (by simp)
        obtain ⟨q,hq⟩:∃ q,G.length=q:=⟨_,rfl⟩
        rw [hq] at hG2 hGl HGlen
        have HC2:=Qa hC2
        clear hCi hGi hbi hcI hcc hq hC2
        go_wp2_with (at_builtin;refine wpList_append_own _ rfl _ _ 24 rfl M 3 i0 (.int .i64 0) 1 8 Tryz.underlying24 hi hz0 hz1 hz2 rfl (by decide) _ _ _ rfl (hG2.alloc _) ⟨wr.heap.size,0,none⟩ 1 1 [.int .i64 (g:Int)] rfl rfl ?c1 ?c2 ?c3 ?c4 ?c5 ?_)
        case c2=>first | rfl | exact fun u hu=>by simp at hu;subst hu;rfl
        case c3=>unfold maxLen;omega
        case c4=>omega
        case c5=>first | exact hMi | omega | (simp;omega)
        intro v5 w5 hown5 hgrow _
        have hb5:=Zf hb2 (by simpa using hsz) (Joins.ownsRow_le hG2 (by omega)) hgrow
        have hC5:=(HC2.out.alloc (.cells #[.int .i64 (g:Int)] 3)).kept hgrow (.inr (vA hG2 hgc))
        have hM5:M≤w5.heap.size:=Nat.le_trans hM2 (Nat.le_trans (Nat.le_of_lt (by simp)) hgrow.size)
        rw [←QX] at hown5
        have HO5:Hid (w5.ownsRow M 3 1 v5 (G++[g]).length (Qe (G++[g]))):=Qa (by rw [HGlen.out];exact hown5)
        clear hown5 hgrow hG2 hb2
        go_wp2
        go_roundw
        case rel=>exact ⟨i+1,0,G++[g],_,by omega,by go_num,rfl,Qa (by omega),HF2,HG2,hC5,HO5.out,hb5,hM5⟩
        case measure=>simp [intOf];omega
       ·have hlastI:¬ (y:Int)<(m:Int)-1:=by omega
        have HG2:Hid ((y<m-1→Qs L (y+1)=G++QW y 0 (L.drop (i+1)))∧(¬ y<m-1→G=Qs L (m-1))):=Qa ⟨fun h=>absurd h hlast,HGG.out.2⟩
        clear hCi hGi hbi hMi hcI hcc
        go_wp2
        go_roundw
        case rel=>exact ⟨i+1,0,G,_,by omega,by go_num,rfl,Qa (by omega),HF2,HG2,hC2,hG2,hb2,hM2⟩
        case measure=>simp [intOf];omega
      ·have hneI:¬ (y:Int)=x:=by omega
       have hbe:((y:Int) == (x:Int))=false:=by rw [beq_eq_false_iff_ne];exact hneI
       have HF2:Hid (∀ z,f z=if z<x then L.count z else if z=x then (L.take (i+1)).count x else 0):=Qa (fun z=>by rw [HF.out z,HCT.out,if_neg he,Nat.add_zero])
       have HG2:Hid ((x<m-1→Qs L (x+1)=G++QW x g (L.drop (i+1)))∧(¬ x<m-1→G=Qs L (m-1))):=Qa ⟨fun h=>by rw [HGG.out.1 h,HDR.out,qU _ (by omega)],HGG.out.2⟩
       go_wp2
       go_roundw
       case rel=>exact ⟨i+1,g,G,f,by omega,by go_num,rfl,Qa (by omega),HF2,HG2,hCi,hGi,hbi,hMi⟩
       case measure=>simp [intOf];omega
    ·have hi2I:¬ (i:Int)<n:=by omega
     have hie:i=n:=by omega
     subst hie
     have HE:Hid (nats m f=nats m (fun y=>if y<x+1 then L.count y else 0)):=Qa (Qu fun s _=>by
      rw [HF.out s,←HN.out,List.take_length]
      by_cases h1:s<x
      ·rw [if_pos h1,if_pos (by omega)]
      ·by_cases h2:s=x
       ·subst h2;rw [if_neg h1,if_pos rfl,if_pos (by omega)]
       ·rw [if_neg h1,if_neg h2,if_neg (by omega)])
     have HGE:Hid (Qs L (min (x+1) (m-1))=G):=Qa (by
      by_cases h:x<m-1
      ·rw [Nat.min_eq_left (by omega),HGG.out.1 h,←HN.out,List.drop_length,QW,List.append_nil]
      ·rw [Nat.min_eq_right (by omega),HGG.out.2 h])
     go_wp2
     go_roundw
     case rel=>exact ⟨x+1,by omega,by go_num,by rw [←HE.out];exact hCi,by rw [HGE.out];exact hGi,hbi,hMi⟩
     case measure=>simp [intOf];omega
  ·have hxI:¬ (x:Int)<m:=by omega
   have hxm:x=m:=by omega
   subst hxm
   have HE:Hid (nats x (fun y=>if y<x then L.count y else 0)=Qe ((List.range x).map fun y=>L.count y)):=Qa (by
    rw [ZC,List.length_map,List.length_range]
    exact Qu fun s hs=>by rw [if_pos hs];simp [List.getD_eq_getElem?_getD,hs])
   have HGE:Hid (Qs L (min x (x-1))=Qs L (x-1)):=Qa (by rw [Nat.min_eq_right (by omega)])
   rw [HE.out] at hC
   rw [HGE.out] at hG
   go_wp2
   go_ret2
   exact ⟨_,_,rfl,hC,Joins.ownsRow_le hG (by omega),Qa (fun q hq hq2=>by
    have:=(hG.lt q hq2).1
    simp [Value.ownBlock] at hq
    omega),hbl⟩
theorem AJa (a:Option Addr) (cap B:Nat) (z:List Int) (n:Int) (w:World) (hz:Ints w B a z) (hB:B≤w.heap.size) (hl:z.length≤1048576) (n1:-9223372036854775808≤n) (n2:n≤9223372036854775807) :
 Calls Tryz.prog 25 #[.slice a z.length cap,.int .i64 n] w fun e w'=>∃ v0 v1,e=.returned (.tuple #[v0,v1])∧w'.ownsRow w.heap.size 3 1 v0 (invC z n).length (Qo (invC z n))∧w'.ownsRow w.heap.size 3 1 v1 (invG z n).length (Qo (invG z n))∧Hid (∀ k,v0.ownBlock=some k→v1.ownBlock≠some k)∧Below w.heap.size w w':=by
 by_cases hok:rOk z n=true
 ·obtain ⟨L,m,rfl,rfl,hm1,hm2,hL6,hLm⟩:=Za hok
  rw [jX hok,jJ hok,Qy,Qy,Qj,Qj,Qj,List.length_map,List.length_range]
  exact AIx a cap B m L w hz hB hok hm1 hm2 hL6 hLm
 ·have hno:=QC hok
  have KR:=Qa (Zp a cap B z n w hz hl n1 n2)
  rw [hno] at KR
  rw [AJp hno,AKs hno]
  clear hno hok
  go_enter Tryz.func25,Tryz.ntmps25
  go_wp2_with fail
  refine KR.out.mono ?_
  rintro e w0 ⟨rfl,rfl⟩
  go_wp2
  go_ret2
  exact ⟨_,_,rfl,World.ownsRow_nil _ _ _ _,World.ownsRow_nil _ _ _ _,Qa (fun k hk=>by simp [Value.ownBlock] at hk),Below.refl _ _⟩
theorem AYc {k:Nat} (h:k % 2=1):rsF k=0::rsF ((k-1) / 2):=by
 rw [YR (by omega)]
 congr 1
 omega
theorem ASq {k:Nat} (h:k % 2=0) (h0:0<k):rsF k=1::rsF ((k-2) / 2):=by
 rw [YR h0]
 congr 1
 ·omega
 ·congr 1;omega
theorem vb (k:Nat) (w:World) (h1:1≤k) (h2:k≤600) :
 Calls Tryz.prog 52 #[.int .i64 k] w fun e w'=>∃ v,e=.returned v∧w'.ownsRow w.heap.size 3 1 v (rsF k).length (Qe (rsF k))∧Below w.heap.size w w':=by
 obtain ⟨i0,hi,hz0,hz1,hz2⟩:=info_parts Tryz.infoInt
 obtain ⟨A,hA⟩:∃ A,rsF k=A:=⟨_,rfl⟩
 have HA:=Qa hA
 have HLe:Hid (A.length≤600):=Qa (by rw [←hA];have:=qi k;omega)
 rw [hA]
 clear hA
 go_enter Tryz.func52,Tryz.ntmps52
 go_wp2
 go_loopw [0,3] (fun sk vo wr=>∃ (q:Nat) (D:List Nat),q≤600∧sk=.int .i64 q∧Hid (A=D++rsF q)∧wr.ownsRow w.heap.size 3 1 vo D.length (Qe D)∧Below w.heap.size w wr) (fun sk _ _=>(intOf sk).toNat)
 case atStart=>exact ⟨k,[],h2,rfl,Qa (by rw [←HA.out];rfl),World.ownsRow_nil _ _ _ _,Below.refl _ _⟩
 case round =>
  obtain ⟨q,D,hq,rfl,HD,hown,hbl⟩:=hrel
  have hsz:=hbl.size
  have HDl:Hid (D.length≤600):=Qa (by have:=HLe.out;rw [HD.out,List.length_append] at this;omega)
  by_cases h0:0<q
  ·obtain ⟨l,hl⟩:∃ l,D.length=l:=⟨_,rfl⟩
   have hDl:=HDl.out
   rw [hl] at hown hDl
   by_cases ho:q % 2=1
   ·have hoI:(q:Int) % 2=1:=by omega
    have hoB:(((q:Int) % 2) == (1:Int))=true:=by simp [hoI]
    have HD2:Hid (A=(D++[0])++rsF ((q-1) / 2)):=Qa (by rw [HD.out,AYc ho];simp)
    have HL2:Hid ((D++[0]).length=l+1):=Qa (by simp [hl])
    have hq2:((q:Int)-1) / 2=(((q-1) / 2:Nat):Int):=by omega
    have hq3:((q:Int)-1).tdiv 2=(((q-1) / 2:Nat):Int):=by rw [Int.tdiv_eq_ediv_of_nonneg (by omega)];omega
    clear hl
    go_wp2_with (at_builtin;refine wpList_append_own _ rfl _ _ 24 rfl w.heap.size 3 i0 (.int .i64 0) 1 8 Tryz.underlying24 hi hz0 hz1 hz2 rfl (by decide) _ _ _ rfl (hown.alloc _) ⟨wr.heap.size,0,none⟩ 1 1 [.int .i64 0] rfl rfl ?c1 ?c2 ?c3 ?c4 ?c5 ?_)
    case c1=>exact cell_one_new _ _ _
    case c2=>exact fun u hu=>by simp at hu;subst hu;rfl
    case c3=>unfold maxLen;omega
    case c4=>omega
    case c5=>first | omega | (simp;omega)
    intro v5 w5 hown5 hgrow _
    have hb5:=Zf hbl hsz hown hgrow
    have hown6:w5.ownsRow w.heap.size 3 1 v5 (l+1) (Qe (D++[0])):=by rw [QX];exact hown5
    have HO5:Hid (w5.ownsRow w.heap.size 3 1 v5 (D++[0]).length (Qe (D++[0]))):=Qa (by rw [HL2.out];exact hown6)
    clear hown hown5 hown6 hgrow hbl
    go_wp2
    go_roundw
    case rel=>exact ⟨(q-1) / 2,D++[0],by omega,by go_num,HD2,HO5.out,hb5⟩
    case measure=>simp [intOf];omega
   ·have he:q % 2=0:=by omega
    have hoI:(q:Int) % 2=0:=by omega
    have hoB:(((q:Int) % 2) == (1:Int))=false:=by simp [hoI]
    have HD2:Hid (A=(D++[1])++rsF ((q-2) / 2)):=Qa (by rw [HD.out,ASq he h0];simp)
    have HL2:Hid ((D++[1]).length=l+1):=Qa (by simp [hl])
    have hq2:((q:Int)-2) / 2=(((q-2) / 2:Nat):Int):=by omega
    have hq3:((q:Int)-2).tdiv 2=(((q-2) / 2:Nat):Int):=by rw [Int.tdiv_eq_ediv_of_nonneg (by omega)];omega
    clear hl
    go_wp2_with (at_builtin;refine wpList_append_own _ rfl _ _ 24 rfl w.heap.size 3 i0 (.int .i64 0) 1 8 Tryz.underlying24 hi hz0 hz1 hz2 rfl (by decide) _ _ _ rfl (hown.alloc _) ⟨wr.heap.size,0,none⟩ 1 1 [.int .i64 1] rfl rfl ?c1 ?c2 ?c3 ?c4 ?c5 ?_)
    case c1=>exact cell_one_new _ _ _
    case c2=>exact fun u hu=>by simp at hu;subst hu;rfl
    case c3=>unfold maxLen;omega
    case c4=>omega
    case c5=>first | omega | (simp;omega)
    intro v5 w5 hown5 hgrow _
    have hb5:=Zf hbl hsz hown hgrow
    have hown6:w5.ownsRow w.heap.size 3 1 v5 (l+1) (Qe (D++[1])):=by rw [QX];exact hown5
    have HO5:Hid (w5.ownsRow w.heap.size 3 1 v5 (D++[1]).length (Qe (D++[1]))):=Qa (by rw [HL2.out];exact hown6)
    clear hown hown5 hown6 hgrow hbl
    go_wp2
    go_roundw
    case rel=>exact ⟨(q-2) / 2,D++[1],by omega,by go_num,HD2,HO5.out,hb5⟩
    case measure=>simp [intOf];omega
  ·have hq0:q=0:=by omega
   subst hq0
   have HE:Hid (A=D):=Qa (by rw [HD.out,XK,List.append_nil])
   go_wp2
   go_ret
   exact ⟨_,rfl,by rw [HE.out];exact hown,hbl⟩
theorem vQ (k:Int) (w:World) (h:¬ (1≤k∧k≤600)) :
 Calls Tryz.prog 52 #[.int .i64 k] w fun e w'=>e=.returned (.slice none 0 0)∧w=w':=by
 by_cases h1:k<1
 ·go_enter Tryz.func52,Tryz.ntmps52
  go_wp2
  go_ret
  exact ⟨rfl,rfl⟩
 ·have h2:(600:Int)<k:=by omega
  go_enter Tryz.func52,Tryz.ntmps52
  go_wp2
  go_ret
  exact ⟨rfl,rfl⟩
theorem VI (k:Int) (w:World) :
 Calls Tryz.prog 52 #[.int .i64 k] w fun e w'=>∃ v,e=.returned v∧w'.ownsRow w.heap.size 3 1 v (rsZ k).length (Qo (rsZ k))∧Below w.heap.size w w':=by
 by_cases h:1≤k∧k≤600
 ·obtain ⟨q,rfl⟩:∃ q:Nat,k=q:=⟨k.toNat,by omega⟩
  rw [AAf (by omega) (by omega),Qy,Qj]
  exact vb q w (by omega) (by omega)
 ·rw [ADu h]
  refine (vQ k w h).mono ?_
  rintro e w' ⟨rfl,rfl⟩
  exact ⟨_,rfl,World.ownsRow_nil _ _ _ _,Below.refl _ _⟩
def Mid (base E:Nat) (a w:World):Prop:=w.os=a.os∧w.tape=a.tape∧w.output=a.output∧a.heap.size≤w.heap.size∧∀ i,i<a.heap.size→(i<base∨E≤i)→w.heap[i]? = a.heap[i]?
theorem Mid.refl (base E:Nat) (w:World):Mid base E w w:=⟨rfl,rfl,rfl,Nat.le_refl _,fun _ _ _=>rfl⟩
theorem Mid.trans {base E:Nat} {a b c:World} (h:Mid base E a b) (k:Mid base E b c):Mid base E a c :=
 ⟨k.1.trans h.1,k.2.1.trans h.2.1,k.2.2.1.trans h.2.2.1,Nat.le_trans h.2.2.2.1 k.2.2.2.1,fun i hi ho=>(k.2.2.2.2 i (Nat.lt_of_lt_of_le hi h.2.2.2.1) ho).trans (h.2.2.2.2 i hi ho)⟩
theorem Mid.below {base E:Nat} {a w:World} (h:Mid base E a w) (hb:base≤a.heap.size):Below base a w:=⟨h.1,h.2.1,h.2.2.1,h.2.2.2.1,fun i hi=>h.2.2.2.2 i (by omega) (.inl hi)⟩
theorem Mid.own {base E B n S:Nat} {T:TypeId} {a w:World} {v:Value} {xs:List Value} (k:Mid base E a w) (ho:a.ownsRow B T S v n xs) (hB:E≤B):w.ownsRow B T S v n xs:=by
 refine ⟨ho.1,?_⟩
 rcases ho.2 with h2 | ⟨b,cap,cur,hv,hb,hc,hr⟩
 ·exact .inl h2
 ·exact .inr ⟨b,cap,cur,hv,hb,(k.2.2.2.2 b ((Array.getElem?_eq_some_iff.1 hc).1) (.inr (by omega))).trans hc,hr⟩
theorem Mid.has {base E b:Nat} {T:TypeId} {cs:Array Value} {a w:World} (k:Mid base E a w) (h:Has a b T cs) (ho:b<base∨E≤b):Has w b T cs:=(k.2.2.2.2 b h.lt ho).trans h
theorem Mid.store {base E:Nat} {a w:World} (h:Mid base E a w) {p:Addr} (h1:base≤p.block) (h2:p.block<E) (u:Value):Mid base E a (w.setCell p u) :=
 ⟨h.1,h.2.1,h.2.2.1,by simpa using h.2.2.2.1,fun i hi ho=>(Below.heap_setCell w p u i (by omega)).trans (h.2.2.2.2 i hi ho)⟩
def Nd (W:World) (b:Nat) (s:Nat) (p:Option Addr):Prop:=∃ T,Has W b T #[.int .i64 (s:Int),.pointer p]
theorem Nd.lt {W:World} {b s:Nat} {p:Option Addr} (h:Nd W b s p):b<W.heap.size:=by obtain ⟨T,h⟩:=h;exact h.lt
theorem Nd.sym {W:World} {b s:Nat} {p:Option Addr} (h:Nd W b s p):W.cell? ⟨b,0,none⟩=some (.int .i64 (s:Int)):=by obtain ⟨T,h⟩:=h;exact h.cell 0
theorem Nd.next {W:World} {b s:Nat} {p:Option Addr} (h:Nd W b s p):W.cell? ⟨b,1,none⟩=some (.pointer p):=by obtain ⟨T,h⟩:=h;exact h.cell 1
theorem Nd.free {W:World} {b s:Nat} {p:Option Addr} (h:Nd W b s p) (i:Nat):W.frozen? ⟨b,i,none⟩=false:=by obtain ⟨T,h⟩:=h;exact h.free i
theorem Nd.store {W:World} {b s:Nat} {p:Option Addr} (h:Nd W b s p) (q:Option Addr):Nd (W.setCell ⟨b,1,none⟩ (.pointer q)) b s q:=by
 obtain ⟨T,h⟩:=h
 exact ⟨T,by simpa using h.store 1 (.pointer q)⟩
theorem Nd.keep {W W':World} {b s:Nat} {p:Option Addr} (h:Nd W b s p) (hk:W'.heap[b]? = W.heap[b]?):Nd W' b s p:=by
 obtain ⟨T,h⟩:=h
 exact ⟨T,hk.trans h⟩
theorem Nd.away {W:World} {b s:Nat} {p:Option Addr} (h:Nd W b s p) {a:Addr} (ha:b≠a.block) (u:Value):Nd (W.setCell a u) b s p:=h.keep (Below.heap_setCell W a u b ha)
def hdP (c:List (Nat × Nat)) (p:Option Addr):Option Addr:=match c with
 | []=>p
 | q::_=>some ⟨q.1,0,none⟩
def Seg (W:World) (p:Option Addr):List (Nat × Nat)→Prop
 | []=>True
 | q::c=>Nd W q.1 q.2 (hdP c p)∧Seg W p c
theorem ALj (A B:List (Nat × Nat)) (p:Option Addr):hdP (A++B) p=hdP A (hdP B p):=by cases A <;> rfl
theorem AZz {W:World} {p:Option Addr} {A B:List (Nat × Nat)}:Seg W p (A++B)↔Seg W (hdP B p) A∧Seg W p B:=by
 induction A with
 | nil=>simp [Seg]
 | cons q A ih =>
   show Nd W q.1 q.2 (hdP (A++B) p)∧Seg W p (A++B)↔(Nd W q.1 q.2 (hdP A (hdP B p))∧Seg W (hdP B p) A)∧Seg W p B
   rw [ALj,ih,and_assoc]
theorem Seg.keep {W W':World} {p:Option Addr}:∀ {c:List (Nat × Nat)},Seg W p c→(∀ b∈c.map Prod.fst,W'.heap[b]? = W.heap[b]?)→Seg W' p c
 | [],_,_=>trivial
 | q::c,h,hk=>⟨h.1.keep (hk _ (List.mem_cons_self ..)),Seg.keep h.2 (fun b hb=>hk b (List.mem_cons_of_mem _ hb))⟩
theorem Seg.away {W:World} {p:Option Addr} {c:List (Nat × Nat)} (h:Seg W p c) {a:Addr} (ha:a.block ∉ c.map Prod.fst) (u:Value):Seg (W.setCell a u) p c :=
 h.keep fun b hb=>Below.heap_setCell W a u b (fun e=>ha (e ▸ hb))
theorem Seg.last {W:World} {p:Option Addr} {A:List (Nat × Nat)} {q:Nat × Nat} (h:Seg W p (A++[q])) (hn:q.1 ∉ A.map Prod.fst) (p':Option Addr):Seg (W.setCell ⟨q.1,1,none⟩ (.pointer p')) p' (A++[q]):=by
 obtain ⟨h1,h2⟩:=AZz.1 h
 exact AZz.2 ⟨h1.away hn _,h2.1.store p',trivial⟩
structure FLc (W:World) (base E h:Nat) (c:List (Nat × Nat)) (r:List Nat):Prop where
 row:c.map Prod.snd=r
 nodup:(h::c.map Prod.fst).Nodup
 lies:∀ b∈h::c.map Prod.fst,base≤b∧b<E
 seg:Seg W none ((h,0)::c)
def FL (W:World) (base E h:Nat) (r:List Nat):Prop:=∃ c,FLc W base E h c r
theorem FL.keep {W W':World} {base E h:Nat} {r:List Nat} (hF:FL W base E h r) (hk:∀ i,base≤i→i<E→W'.heap[i]? = W.heap[i]?):FL W' base E h r:=by
 obtain ⟨c,h1,h2,h3,h4⟩:=hF
 exact ⟨c,h1,h2,h3,h4.keep fun b hb=>hk b (h3 b hb).1 (h3 b hb).2⟩
def blk (h:Nat) (c:List (Nat × Nat)) (j:Nat):Nat:=(h::c.map Prod.fst).getD j 0
theorem APy {W:World} {p:Option Addr}:∀ {c:List (Nat × Nat)} (j:Nat),Seg W p c→j+1<c.length→∃ q q',c[j]? = some q∧c[j+1]? = some q'∧Nd W q.1 q.2 (some ⟨q'.1,0,none⟩)
 | [],_,_,h=>by simp at h
 | [q],_,_,h=>by simp at h
 | q::q'::c,0,h,_=>⟨q,q',rfl,rfl,h.1⟩
 | q::q'::c,j+1,h,hj=>by
   obtain ⟨u,u',h1,h2,h3⟩:=APy (c:=q'::c) j h.2 (by simp at hj ⊢;omega)
   exact ⟨u,u',by simpa using h1,by simpa using h2,h3⟩
theorem AGg {W:World} {p:Option Addr}:∀ {c:List (Nat × Nat)} (j:Nat) (q:Nat × Nat),Seg W p c→c[j]? = some q→∃ p',Nd W q.1 q.2 p'
 | [],_,_,_,h=>by simp at h
 | q::c,0,q',h,e=>by simp at e;subst e;exact ⟨_,h.1⟩
 | q::c,j+1,q',h,e=>AGg j q' h.2 (by simpa using e)
theorem FLc.node {W:World} {base E h:Nat} {c:List (Nat × Nat)} {r:List Nat} (hF:FLc W base E h c r) (j:Nat) (hj:j<r.length) :
 W.cell? ⟨blk h c j,1,none⟩=some (.pointer (some ⟨blk h c (j+1),0,none⟩))∧W.cell? ⟨blk h c (j+1),0,none⟩=some (.int .i64 ((r.getD j 0:Nat):Int)):=by
 have hl:c.length=r.length:=by rw [←hF.row];simp
 obtain ⟨q,q',h1,h2,h3⟩:=APy j hF.seg (by simp;omega)
 have b1:blk h c j=q.1:=by
  unfold blk
  have:(h::c.map Prod.fst)=((h,0)::c).map Prod.fst:=rfl
  rw [this,List.getD_eq_getElem?_getD,List.getElem?_map,h1];rfl
 have b2:blk h c (j+1)=q'.1:=by
  unfold blk
  have:(h::c.map Prod.fst)=((h,0)::c).map Prod.fst:=rfl
  rw [this,List.getD_eq_getElem?_getD,List.getElem?_map,h2];rfl
 obtain ⟨p',h4⟩:=AGg (j+1) q' hF.seg h2
 have s2:r.getD j 0=q'.2:=by
  have h5:c[j]? = some q':=by simpa using h2
  rw [←hF.row,List.getD_eq_getElem?_getD,List.getElem?_map,h5];rfl
 rw [b1,b2,s2]
 exact ⟨h3.next,h4.sym⟩
theorem AEn (h:Nat) (c:List (Nat × Nat)):blk h c 0=h:=rfl
theorem ARj {W:World} {h:Nat} {A B:List (Nat × Nat)} {x:Nat × Nat} (hs:Seg W none ((h,0)::(A++x::B))) (hnd:(h::(A++x::B).map Prod.fst).Nodup) :
 ∃ p1,W.cell? ⟨blk h (A++x::B) A.length,1,none⟩=some (.pointer (some ⟨x.1,0,none⟩))∧W.cell? ⟨x.1,1,none⟩=some (.pointer (hdP B none))∧W.cell? ⟨x.1,0,none⟩=some (.int .i64 (x.2:Int)) ∧
  (blk h (A++x::B) A.length≠h→W.cell? ⟨h,1,none⟩=some (.pointer p1))∧(blk h (A++x::B) A.length=h→p1=hdP B none)∧x.1≠h∧x.1≠blk h (A++x::B) A.length ∧
  W.frozen? ⟨blk h (A++x::B) A.length,1,none⟩=false∧W.frozen? ⟨x.1,1,none⟩=false∧W.frozen? ⟨h,1,none⟩=false ∧
  blk h (A++x::B) A.length∈h::(A++x::B).map Prod.fst ∧
  Seg (((W.setCell ⟨blk h (A++x::B) A.length,1,none⟩ (.pointer (hdP B none))).setCell ⟨x.1,1,none⟩ (.pointer p1)).setCell ⟨h,1,none⟩ (.pointer (some ⟨x.1,0,none⟩))) none ((h,0)::x::(A++B)):=by
 obtain ⟨hh,hAxB⟩:=hs
 obtain ⟨hA,hx,hBs⟩:=AZz.1 hAxB
 simp only [List.map_append,List.map_cons,List.nodup_cons,List.nodup_append,List.mem_append,List.mem_cons,not_or] at hnd
 obtain ⟨⟨nA,nx,nB⟩,dA,⟨nxB,dB⟩,dAB⟩:=hnd
 have hxA:x.1 ∉ A.map Prod.fst:=fun hm=>dAB x.1 hm x.1 (.inl rfl) rfl
 rcases List.eq_nil_or_concat A with rfl | ⟨A',q,rfl⟩
 ·simp only [List.nil_append,List.length_nil,AEn] at *
  refine ⟨hdP B none,hh.next,hx.next,hx.sym,fun e=>absurd rfl e,fun _=>rfl,fun e=>nx e.symm,fun e=>nx e.symm,hh.free 1,hx.free 1,hh.free 1,.inl rfl |> List.mem_cons.2,?_⟩
  refine ⟨((hh.store _).away (by exact nx) _).store _,((hx.away (fun e=>nx e.symm) _).store _).away (fun e=>nx e.symm) _,?_⟩
  exact ((hBs.away (by exact nB) _).away (by exact nxB) _).away (by exact nB) _
 ·have hq:blk h (A'++[q]++x::B) (A'++[q]).length=q.1:=by
   unfold blk
   simp [List.getD_eq_getElem?_getD]
  simp only [List.concat_eq_append] at *
  rw [hq]
  have hqm:q.1∈(A'++[q]).map Prod.fst:=by simp
  have hqh:q.1≠h:=fun e=>nA (e ▸ hqm)
  have hqx:q.1≠x.1:=fun e=>hxA (e ▸ hqm)
  have hq':q.1 ∉ A'.map Prod.fst:=by
   intro hm
   simp only [List.map_append,List.map_cons,List.map_nil,List.nodup_append,List.mem_singleton] at dA
   exact dA.2.2 _ hm _ rfl rfl
  have hqB:q.1 ∉ B.map Prod.fst:=fun hm=>dAB q.1 hqm q.1 (.inr hm) rfl
  obtain ⟨hA1,hqN,_⟩:=AZz.1 hA
  refine ⟨hdP (A'++[q]++x::B) none,hqN.next,hx.next,hx.sym,fun _=>hh.next,fun e=>absurd e hqh,fun e=>nx e.symm,Ne.symm hqx,hqN.free 1,hx.free 1,hh.free 1,List.mem_cons_of_mem _ (by simp),?_⟩
  have hcl:hdP (A'++[q]++B) none=hdP (A'++[q]++x::B) none:=by cases A' <;> rfl
  refine ⟨((hh.away (Ne.symm hqh) _).away nx _).store _,?_,?_⟩
  ·rw [hcl]
   exact ((hx.away (Ne.symm hqx) _).store _).away (fun e=>nx e.symm) _
  ·refine AZz.2 ⟨?_,?_⟩
   ·exact ((hA.last hq' _).away hxA _).away nA _
   ·exact ((hBs.away hqB _).away nxB _).away nB _
theorem ANa (h bb x s:Nat) (pB p1:Option Addr) (w:World) (c1:w.cell? ⟨bb,1,none⟩=some (.pointer (some ⟨x,0,none⟩))) (c2:w.cell? ⟨x,1,none⟩=some (.pointer pB)) (c3:w.cell? ⟨x,0,none⟩=some (.int .i64 (s:Int)))
 (c4:bb≠h→w.cell? ⟨h,1,none⟩=some (.pointer p1)) (c5:bb=h→p1=pB) (hxh:x≠h) (hxb:x≠bb)
 (f1:w.frozen? ⟨bb,1,none⟩=false) (f2:w.frozen? ⟨x,1,none⟩=false) (f3:w.frozen? ⟨h,1,none⟩=false) :
 Calls Tryz.prog 242 #[.pointer (some ⟨h,0,none⟩),.pointer (some ⟨bb,0,none⟩)] w fun e w'=>e=.returned (.int .i64 (s:Int)) ∧
  w'=((w.setCell ⟨bb,1,none⟩ (.pointer pB)).setCell ⟨x,1,none⟩ (.pointer p1)).setCell ⟨h,1,none⟩ (.pointer (some ⟨x,0,none⟩)):=by
 by_cases e:bb=h
 ·subst e
  obtain rfl:=c5 rfl
  go_enter Tryz.func242,Tryz.ntmps242
  go_wp2
  go_ret
  exact ⟨rfl,rfl⟩
 ·have c6:=c4 e
  have e2:¬ h=bb:=fun q=>e q.symm
  have e3:¬ h=x:=fun q=>hxh q.symm
  have e4:¬ bb=x:=fun q=>hxb q.symm
  go_enter Tryz.func242,Tryz.ntmps242
  go_wp2
  go_ret
  exact ⟨rfl,rfl⟩
theorem jG (base E h k:Nat) (c:List (Nat × Nat)) (r:List Nat) (w:World) (hF:FLc w base E h c r) (hk:k<r.length) :
 Calls Tryz.prog 242 #[.pointer (some ⟨h,0,none⟩),.pointer (some ⟨blk h c k,0,none⟩)] w fun e w'=>e=.returned (.int .i64 ((r.getD k 0:Nat):Int))∧FL w' base E h (Xf r k)∧Mid base E w w':=by
 have hl:c.length=r.length:=by rw [←hF.row];simp
 have hkc:k<c.length:=by omega
 obtain ⟨A,x,B,hc,hA⟩:∃ A x B,c=A++x::B∧A.length=k:=⟨c.take k,c[k],c.drop (k+1),by rw [←List.drop_eq_getElem_cons hkc,List.take_append_drop],by rw [List.length_take];omega⟩
 subst hA
 subst hc
 obtain ⟨p1,c1,c2,c3,c4,c5,n1,n2,f1,f2,f3,hm,hs⟩:=ARj hF.seg hF.nodup
 have hx2:r.getD A.length 0=x.2:=by rw [←hF.row];simp [List.getD_eq_getElem?_getD]
 rw [hx2]
 refine (ANa h _ x.1 x.2 (hdP B none) p1 w c1 c2 c3 c4 c5 n1 n2 f1 f2 f3).mono ?_
 rintro e w' ⟨rfl,rfl⟩
 have hxm:x.1∈h::(A++x::B).map Prod.fst:=by simp
 have hhm:h∈h::(A++x::B).map Prod.fst:=List.mem_cons_self ..
 have l1:=hF.lies _ hm
 have l2:=hF.lies _ hxm
 have l3:=hF.lies _ hhm
 refine ⟨rfl,⟨x::(A++B),?_,?_,?_,hs⟩,(((Mid.refl base E w).store l1.1 l1.2 _).store l2.1 l2.2 _).store l3.1 l3.2 _⟩
 ·unfold Xf
  rw [hx2,←hF.row,VR]
  simp [List.drop_append]
 ·have:=hF.nodup
  have hp:(h::(x::(A++B)).map Prod.fst).Perm (h::(A++x::B).map Prod.fst):=by
   refine List.Perm.cons _ (List.Perm.map _ ?_)
   exact List.perm_middle.symm
  exact hp.nodup_iff.2 this
 ·intro b hb
  apply hF.lies
  simp only [List.map_cons,List.map_append,List.mem_cons,List.mem_append] at hb ⊢
  rcases hb with h1 | h1 | h1 | h1
  ·exact .inl h1
  ·exact .inr (.inr (.inl h1))
  ·exact .inr (.inl h1)
  ·exact .inr (.inr (.inr h1))
theorem ANf (base E h n x:Nat) (r:List Nat) (w:World) (hF:FL w base E h r) (hP:Je n r) (hn:n≤256) (hx:x<n) :
 Calls Tryz.prog 241 #[.pointer (some ⟨h,0,none⟩),.int .i64 x] w fun e w'=>e=.returned (.int .i64 ((mtfF r x).1:Int))∧FL w' base E h (mtfF r x).2∧Mid base E w w':=by
 obtain ⟨c,hF⟩:=hF
 have HF:=Qa hF
 have HL:=Qa hP.len
 have hkn:=hP.idx hx
 have HIA:=Qa (zx r ((hP.mem x).2 hx))
 have HIF:=Qa (xe r x)
 have HB:=Qa (fun k hk=>jG base E h k c r w hF hk)
 have HZ:=Qa (AEn h c)
 rw [show mtfF r x=(r.idxOf x,Xf r (r.idxOf x)) from rfl]
 obtain ⟨k,hk⟩:∃ k,r.idxOf x=k:=⟨_,rfl⟩
 rw [hk] at hkn HIA HIF ⊢
 have HN:=Qa hF.node
 clear hF hk
 go_enter Tryz.func241,Tryz.ntmps241
 go_wp2
 go_loopw [5,6] (fun sj sb wr=>∃ j:Nat,j≤k∧sj=.int .i64 j∧sb=.pointer (some ⟨blk h c j,0,none⟩)∧w=wr) (fun sj _ _=>k-(intOf sj).toNat)
 case atStart=>exact ⟨0,by omega,rfl,by rw [HZ.out],by first | trivial | rfl⟩
 case round =>
  obtain ⟨j,hj,rfl,rfl,rfl⟩:=hrel
  obtain ⟨d1,d2⟩:=HN.out j (by rw [HL.out];omega)
  by_cases hlt:j<k
  ·have hne:=HIF.out j hlt
   obtain ⟨y,hy⟩:∃ y,r.getD j 0=y:=⟨_,rfl⟩
   obtain ⟨b1,hb1⟩:∃ b,blk h c (j+1)=b:=⟨_,rfl⟩
   obtain ⟨b0,hb0⟩:∃ b,blk h c j=b:=⟨_,rfl⟩
   rw [hy] at d2 hne
   rw [hb1] at d1 d2
   rw [hb0] at d1 ⊢
   have HB1:=Qa hb1
   have hneI:((y:Int) != (x:Int))=true:=by rw [bne_iff_ne];omega
   clear hy hb1 hb0
   go_wp2
   go_roundw
   case rel=>exact ⟨j+1,by omega,by go_num,by rw [HB1.out],by first | trivial | rfl⟩
   case measure=>simp [intOf];omega
  ·have hjk:j=k:=by omega
   subst hjk
   have KB:=Qa (HB.out j (by rw [HL.out];exact hkn))
   rw [HIA.out] at d2 KB
   obtain ⟨b1,hb1⟩:∃ b,blk h c (j+1)=b:=⟨_,rfl⟩
   obtain ⟨b0,hb0⟩:∃ b,blk h c j=b:=⟨_,rfl⟩
   rw [hb1] at d1 d2
   rw [hb0] at d1 KB ⊢
   have hneI:((x:Int) != (x:Int))=false:=by simp
   clear hb1 hb0
   go_wp2_with fail
   refine KB.out.mono ?_
   rintro e w3 ⟨rfl,hF3,hm3⟩
   go_wp2
   go_ret
   exact ⟨rfl,hF3,hm3⟩
theorem AOr {W:World}:∀ (m:Nat) (f:Nat→Nat × Nat),(∀ i,i<m→Nd W (f i).1 (f i).2 (if i+1<m then some ⟨(f (i+1)).1,0,none⟩ else none))→Seg W none ((List.range m).map f)
 | 0,_,_=>trivial
 | m+1,f,h=>by
   rw [List.range_succ_eq_map,List.map_cons,List.map_map]
   refine ⟨?_,AOr m (f ∘ Nat.succ) (fun i hi=>?_)⟩
   ·have:=h 0 (by omega)
    cases m with
    | zero=>simpa [hdP] using this
    | succ m =>
      rw [if_pos (by omega)] at this
      rw [List.range_succ_eq_map]
      exact this
   ·have:=h (i+1) (by omega)
    by_cases h2:i+1<m
    ·rw [if_pos (by omega)] at this
     rw [if_pos h2]
     exact this
    ·rw [if_neg (by omega)] at this
     rw [if_neg h2]
     exact this
theorem AZg {W:World} {h n:Nat} (hsz:W.heap.size=h+1+n) (hN:∀ i,i≤n→Nd W (h+i) (i-1) (if i<n then some ⟨h+i+1,0,none⟩ else none)):FL W h W.heap.size h (List.range n):=by
 have e:((h,0)::(List.range n).map fun i=>(h+(i+1),i))=(List.range (n+1)).map fun i=>(h+i,i-1):=by
  rw [List.range_succ_eq_map,List.map_cons,List.map_map]
  rfl
 have em:(h::((List.range n).map fun i=>(h+(i+1),i)).map Prod.fst)=(List.range (n+1)).map fun i=>h+i:=by
  rw [List.range_succ_eq_map,List.map_cons,List.map_map,List.map_map]
  rfl
 refine ⟨(List.range n).map fun i=>(h+(i+1),i),?_,?_,?_,?_⟩
 ·rw [List.map_map]
  conv=>rhs;rw [←List.map_id (List.range n)]
  rfl
 ·rw [em]
  unfold List.Nodup
  rw [List.pairwise_map]
  refine List.Pairwise.imp ?_ List.nodup_range
  intro a b hab he
  exact hab (by omega)
 ·rw [em]
  intro b hb
  obtain ⟨i,hi,rfl⟩:=List.mem_map.1 hb
  have:=List.mem_range.1 hi
  omega
 ·rw [e]
  refine AOr (n+1) _ fun i hi=>?_
  have:=hN i (by omega)
  by_cases h2:i<n
  ·rw [if_pos h2] at this
   rw [if_pos (by omega)]
   exact this
  ·rw [if_neg h2] at this
   rw [if_neg (by omega)]
   exact this
theorem yQ (n:Nat) (w:World) (hn:n≤256) :
 Calls Tryz.prog 240 #[.int .i64 n] w fun e w'=>e=.returned (.pointer (some ⟨w.heap.size,0,none⟩))∧FL w' w.heap.size w'.heap.size w.heap.size (List.range n)∧Below w.heap.size w w':=by
 have hH:=Has.fresh w 245 #[.int .i64 0,.pointer none]
 have hb0:Below w.heap.size w (w.alloc (.cells #[.int .i64 0,.pointer none] 245)):=(Below.refl _ _).alloc (Nat.le_refl _) _
 have HH0:Hid (∀ i,i≤0→Nd (w.alloc (.cells #[.int .i64 0,.pointer none] 245)) (w.heap.size+i) (i-1) (if i<0 then some ⟨w.heap.size+i+1,0,none⟩ else none)):=Qa (by
  intro i hi
  have h0:i=0:=by omega
  subst h0
  exact ⟨_,hH⟩)
 go_enter Tryz.func240,Tryz.ntmps240
 go_wp2
 go_loopw [4,5,12] (fun sl _ sk wr=>∃ k:Nat,k≤n∧sk=.int .i64 k∧sl=.pointer (some ⟨w.heap.size+k,0,none⟩)∧Hid (wr.heap.size=w.heap.size+1+k)∧Hid (∀ i,i≤k→Nd wr (w.heap.size+i) (i-1) (if i<k then some ⟨w.heap.size+i+1,0,none⟩ else none))∧Below w.heap.size w wr) (fun _ _ sk _=>n-(intOf sk).toNat)
 case atStart=>exact ⟨0,by omega,rfl,rfl,Qa (by simp),HH0,hb0⟩
 case round =>
  obtain ⟨k,hk,rfl,rfl,HS,HN,hbl⟩:=hrel
  clear hH hb0
  by_cases hlt:k<n
  ·have hl:=HN.out k (Nat.le_refl _)
   rw [if_neg (by omega)] at hl
   have d1:=hl.next
   have f1:=hl.free 1
   obtain ⟨lb,hlb⟩:∃ lb,w.heap.size+k=lb:=⟨_,rfl⟩
   have HLB:=Qa hlb
   rw [hlb] at d1 f1 ⊢
   have hll:lb<wr.heap.size:=by have:=HS.out;omega
   have hN2:Hid (∀ i,i≤k+1→Nd ((wr.setCell ⟨lb,1,none⟩ (.pointer (some ⟨wr.heap.size,0,none⟩))).alloc (.cells #[.int .i64 (k:Int),.pointer none] 243)) (w.heap.size+i) (i-1) (if i<k+1 then some ⟨w.heap.size+i+1,0,none⟩ else none)):=Qa (by
    intro i hi
    by_cases h1:i=k+1
    ·subst h1
     rw [if_neg (by omega)]
     exact ⟨243,Has.freshAt (by have:=HS.out;simp;omega) _ _⟩
    ·have hN1:=HN.out i (by omega)
     by_cases h2:i=k
     ·subst h2
      rw [if_pos (by omega)]
      have:=hN1.store (some ⟨wr.heap.size,0,none⟩)
      rw [HLB.out] at this ⊢
      rw [show lb+1=wr.heap.size by have:=HS.out;have:=HLB.out;omega]
      exact this.keep (Below.heap_alloc _ _ _ this.lt)
     ·rw [if_pos (by omega)] at hN1 ⊢
      have:=hN1.away (a:=⟨lb,1,none⟩) (by have:=HLB.out;simp;omega) (.pointer (some ⟨wr.heap.size,0,none⟩))
      exact this.keep (Below.heap_alloc _ _ _ this.lt))
   have hb2:Below w.heap.size w ((wr.setCell ⟨lb,1,none⟩ (.pointer (some ⟨wr.heap.size,0,none⟩))).alloc (.cells #[.int .i64 (k:Int),.pointer none] 243)):=(hbl.setCell (by have:=HLB.out;simp;omega) _).alloc (by simpa using hbl.size) _
   clear hl hlb
   go_wp2
   go_roundw
   case rel=>exact ⟨k+1,by omega,by go_num,by rw [HS.out,Nat.add_right_comm,Nat.add_assoc],Qa (by simp;have:=HS.out;omega),hN2,hb2⟩
   case measure=>simp [intOf];omega
  ·have hkn:k=n:=by omega
   subst hkn
   have HF:=Qa (AZg HS.out HN.out)
   go_wp2
   go_ret
   exact ⟨rfl,HF.out,hbl⟩
theorem AUp {σ:Type} (N:Nat) (p:Value) (St:World→σ→Prop) (f:σ→Nat→Nat × σ) (base E B:Nat) (a:Option Addr) (cap:Nat) (L:List Nat) (w:World) (s0:σ)
 (hz:Ints w B a (ints L)) (hB:B≤base) (hbE:base≤E) (hE:E≤w.heap.size) (hL6:L.length≤600) (h0:St w s0)
 (hcf:∀ (args:Array Value) (W:World),(callFunc N args).run Tryz.prog W=.ok (.enter N args) W)
 (hkeep:∀ (W W':World) (s:σ),St W s→(∀ i,base≤i→i<E→W'.heap[i]? = W.heap[i]?)→St W' s)
 (hnext:∀ (W:World) (s:σ) (x:Nat),St W s→x∈L→Calls Tryz.prog N #[p,.int .i64 (x:Int)] W fun e W'=>e=.returned (.int .i64 ((f s x).1:Int))∧St W' (f s x).2∧Mid base E W W') :
 Calls Tryz.prog 239 #[.slice a L.length cap,.func (.func N) #[p] #[]] w fun e w'=>∃ g,e=.returned (.slice (some ⟨g,0,none⟩) L.length L.length)∧w'.ownsRow w.heap.size 3 1 (.slice (some ⟨g,0,none⟩) L.length L.length) L.length (Qe (runF f s0 L))∧Below base w w':=by
 obtain ⟨j0,ji,jz0,jz1,jz2⟩:=info_parts Tryz.infoInt
 have HZ:=Qa hz
 have HK:=Qa hkeep
 have HX:=Qa hnext
 have H0:=Qa h0
 obtain ⟨A,hA⟩:∃ A,runF f s0 L=A:=⟨_,rfl⟩
 have HA:=Qa hA
 rw [hA]
 obtain ⟨n,hn⟩:∃ n,L.length=n:=⟨_,rfl⟩
 have HN:=Qa hn
 rw [hn] at hL6 ⊢
 clear hz hA hn hkeep hnext h0
 go_enter Tryz.func239,Tryz.ntmps239
 go_wp2_with (at_make;refine wpList_make_full _ rfl _ _ 24 rfl w.heap.size 3 j0 (.int .i64 0) 1 Tryz.underlying24 ji jz0 jz1 .i64 .i64 _ _ n rfl rfl rfl rfl ?cb1 ?cb2 ?cb3 ?_)
 case cb1=>rw [jz2];omega
 case cb2=>unfold maxLen;omega
 case cb3=>exact Nat.le_refl _
 intro w2 hown hgrow
 have hb2:=ZQ hgrow
 rw [Zl] at hown
 have H2:=Qa (HK.out _ w2 s0 H0.out (fun i _ hi=>hb2.block i (by omega)))
 have hbb:Below base w w2:=hb2.mono (by omega)
 clear hgrow hb2
 go_wp2
 go_loopw [6,7,13] (fun _ _ sk wr=>∃ (k:Nat) (s:σ) (D:List Nat) (F:Nat→Nat),k≤n∧sk=.int .i64 k∧Hid (A=D++runF f s (L.drop k))∧Hid (D.length=k∧∀ j,j<k→F j=D.getD j 0)∧Hid (St wr s)∧wr.ownsRow w.heap.size 3 1 (.slice (some ⟨w.heap.size,0,none⟩) n n) n (nats n F)∧Below base w wr) (fun _ _ sk _=>n-(intOf sk).toNat)
 case atStart=>exact ⟨0,s0,[],fun _=>0,by omega,rfl,Qa (by rw [←HA.out];rfl),Qa ⟨rfl,fun j hj=>by omega⟩,H2,hown,hbb⟩
 case round =>
  obtain ⟨k,s,D,F,hk,rfl,HD,HF,HSt,hownF,hblF⟩:=hrel
  clear hown hbb
  have hsz:=hblF.size
  by_cases hlt:k<n
  ·obtain ⟨b,off,rfl,hb,hc⟩:=(HZ.out.below (hblF.mono hB)).2.2 (by rw [Qj,HN.out];omega)
   have ck:=Xz (B:=B) hc k (by rw [HN.out];exact hlt)
   have HM:=Qa (ZE L k (by rw [HN.out];exact hlt))
   have HDR:=Qa (Zx L k (by rw [HN.out];exact hlt))
   obtain ⟨x,hx⟩:∃ x,L.getD k 0=x:=⟨_,rfl⟩
   rw [hx] at ck HM HDR
   have KX:=Qa (HX.out wr s x HSt.out HM.out)
   have HS2:Hid (A=(D++[(f s x).1])++runF f (f s x).2 (L.drop (k+1))):=Qa (by rw [HD.out,HDR.out,runF,List.append_assoc];rfl)
   obtain ⟨y,hy⟩:∃ y,(f s x).1=y:=⟨_,rfl⟩
   obtain ⟨s2,hs2⟩:∃ s2,(f s x).2=s2:=⟨_,rfl⟩
   rw [hy,hs2] at KX HS2
   have HO:=Qa hownF
   clear hx hc hy hs2 hownF
   go_wp2_with fail
   refine KX.out.mono ?_
   rintro e w3 ⟨rfl,hSt3,hm3⟩
   have hO3:=hm3.own HO.out hE
   have hb3:Below base w w3:=hblF.trans (hm3.below (by omega))
   have HSt3:=Qa hSt3
   have d0:=hO3.cellAt k (by omega)
   rw [Qw _ _ _ hlt] at d0
   have f0:=hO3.frozenAt k
   have hHN:Hid (w3.heap.size=w3.heap.size):=Qa rfl
   clear hSt3 hm3 hblF
   go_wp2
   go_roundw
   case rel=>exact ⟨k+1,s2,D++[y],fun t=>if t=k then y else F t,by omega,by go_num,HS2,Qa ⟨by simp [HF.out.1],fun j hj=>by
    by_cases e:j=k
    ·show (if j=k then y else F j)=_
     rw [if_pos e,e];simp [List.getD_eq_getElem?_getD,HF.out.1]
    ·show (if j=k then y else F j)=_
     rw [if_neg e,HF.out.2 j (by omega)];simp [List.getD_eq_getElem?_getD,List.getElem?_append_left (show j<D.length by rw [HF.out.1];omega)]⟩,Qa (HK.out _ _ s2 HSt3.out (fun i _ hi=>Below.heap_setCell _ _ _ i (by simp;omega))),by rw [←Zb];exact (hO3.stored k _).1,hb3.setCell (by simp;omega) _⟩
   case measure=>simp [intOf];omega
  ·have hkn:k=n:=by omega
   subst hkn
   have HE:Hid (nats k F=Qe A):=Qa (by
    rw [ZC]
    have e:A=D:=by rw [HD.out,←HN.out,List.drop_length,runF,List.append_nil]
    rw [e,HF.out.1]
    exact Qu fun j hj=>HF.out.2 j hj)
   go_wp2
   go_ret
   exact ⟨_,rfl,by rw [←HE.out];exact hownF,hblF⟩
theorem AJl (p:Nat) (w:World) (hp:p<16) :
 Calls Tryz.prog 118 #[.int .i64 p] w fun e w'=>e=.returned (.int .i64 ((2^(15-p):Nat):Int))∧w'=w:=by
 have hpI:(p:Int)<16:=by omega
 have h2:2^(15-p)≤2^15:=Nat.pow_le_pow_right (by omega) (by omega)
 obtain ⟨q,hq⟩:∃ q,2^(15-p)=q:=⟨_,rfl⟩
 have hwd:Value.int .i64 (wrap64 (2^(15-p)))=Value.int .i64 (q:Int):=by
  rw [show ((2:Int)^(15-p))=((2^(15-p):Nat):Int) by simp,hq,QT _ (by omega)]
 rw [hq]
 clear hq h2
 go_enter Tryz.func118,Tryz.ntmps118
 go_wp2
 go_ret
 exact ⟨congrArg Ending.returned hwd,rfl⟩
theorem yJ (k:Nat) (w:World) (h1:1≤k) (h2:k≤600) :
 Calls Tryz.prog 94 #[.int .i64 k] w fun e w'=>∃ v,e=.returned v∧w'.ownsRow w.heap.size 3 1 v (rsF k).length (Qe (rsF k))∧Below w.heap.size w w':=by
 obtain ⟨i0,hi,hz0,hz1,hz2⟩:=info_parts Tryz.infoInt
 obtain ⟨A,hA⟩:∃ A,rsF k=A:=⟨_,rfl⟩
 have HA:=Qa hA
 have HLe:Hid (A.length≤600):=Qa (by rw [←hA];have:=qi k;omega)
 rw [hA]
 clear hA
 go_enter Tryz.func94,Tryz.ntmps94
 go_wp2
 go_loopw [0,3] (fun sk vo wr=>∃ (q:Nat) (D:List Nat),q≤600∧sk=.int .i64 q∧Hid (A=D++rsF q)∧wr.ownsRow w.heap.size 3 1 vo D.length (Qe D)∧Below w.heap.size w wr) (fun sk _ _=>(intOf sk).toNat)
 case atStart=>exact ⟨k,[],h2,rfl,Qa (by rw [←HA.out];rfl),World.ownsRow_nil _ _ _ _,Below.refl _ _⟩
 case round =>
  obtain ⟨q,D,hq,rfl,HD,hown,hbl⟩:=hrel
  have hsz:=hbl.size
  have HDl:Hid (D.length≤600):=Qa (by have:=HLe.out;rw [HD.out,List.length_append] at this;omega)
  rcases Nat.eq_zero_or_pos q with rfl | h0
  ·have HE:Hid (A=D):=Qa (by rw [HD.out,XK,List.append_nil])
   go_wp2
   go_ret
   exact ⟨_,rfl,by rw [HE.out];exact hown,hbl⟩
  ·obtain ⟨l,hl⟩:∃ l,D.length=l:=⟨_,rfl⟩
   have hDl:=HDl.out
   rw [hl] at hown hDl
   have h0I:(0:Int)<(q:Int):=by omega
   have HD2:Hid (A=(D++[(q-1) % 2])++rsF ((q-1) / 2)):=Qa (by rw [HD.out,YR h0];simp)
   have HL2:Hid ((D++[(q-1) % 2]).length=l+1):=Qa (by simp [hl])
   obtain ⟨p,hp⟩:∃ p,q-1=p:=⟨_,rfl⟩
   have hpI:(q:Int)-1=(p:Int):=by omega
   have hp6:p<q∧p≤600:=by omega
   rw [hp] at HD2 HL2
   obtain ⟨d,hd⟩:∃ d,p % 2=d:=⟨_,rfl⟩
   obtain ⟨r,hr⟩:∃ r,p / 2=r:=⟨_,rfl⟩
   rw [hd] at HD2 HL2
   rw [hr] at HD2
   have e1:(p:Int) % 2=(d:Int):=by omega
   have e2:(p:Int) / 2=(r:Int):=by omega
   have hrq:r<q∧r≤600:=by omega
   clear hl hp hd hr
   go_wp2_with (at_builtin;refine wpList_append_own _ rfl _ _ 24 rfl w.heap.size 3 i0 (.int .i64 0) 1 8 Tryz.underlying24 hi hz0 hz1 hz2 rfl (by decide) _ _ _ rfl (hown.alloc _) ⟨wr.heap.size,0,none⟩ 1 1 [.int .i64 (d:Int)] rfl rfl ?c1 ?c2 ?c3 ?c4 ?c5 ?_)
   case c1=>exact cell_one_new _ _ _
   case c2=>exact fun u hu=>by simp at hu;subst hu;rfl
   case c3=>unfold maxLen;omega
   case c4=>omega
   case c5=>first | omega | (simp;omega)
   intro v5 w5 hown5 hgrow _
   have hb5:=Zf hbl hsz hown hgrow
   have hown6:w5.ownsRow w.heap.size 3 1 v5 (l+1) (Qe (D++[d])):=by rw [QX];exact hown5
   have HO5:Hid (w5.ownsRow w.heap.size 3 1 v5 (D++[d]).length (Qe (D++[d]))):=Qa (by rw [HL2.out];exact hown6)
   clear hown hown5 hown6 hgrow hbl
   go_wp2
   go_roundw
   case rel=>exact ⟨r,D++[d],hrq.2,by first | rfl | go_num,HD2,HO5.out,hb5⟩
   case measure=>simp [intOf];omega
theorem vt (a:Option Addr) (cap B:Nat) (z:List Int) (b:Int) (w:World) (hz:Ints w B a z) (hl:z.length≤1048576) :
 Calls Tryz.prog 139 #[.slice a z.length cap,.int .i64 b] w fun e w'=>e=.returned (.int .i64 (frZ b z))∧w=w':=by
 have HZ:=Qa hz
 have HDC:=Qa (fun j h=>AMn z j h)
 have HST:Hid (frZ b z=0+frZ b (z.drop 0)):=Qa (by rw [List.drop_zero,Nat.zero_add])
 have HEN:Hid (frZ b (z.drop z.length)=0):=Qa (by rw [List.drop_length];rfl)
 obtain ⟨A,hA⟩:∃ A,frZ b z=A:=⟨_,rfl⟩
 rw [hA] at HST ⊢
 obtain ⟨n,hn⟩:∃ n,z.length=n:=⟨_,rfl⟩
 have HN:=Qa hn
 rw [hn] at hl HDC HEN ⊢
 clear hz hA hn
 go_enter Tryz.func139,Tryz.ntmps139
 go_wp2
 go_loopw [5,6,9] (fun _ _ si wr=>∃ i:Nat,i≤n∧si=.int .i64 i∧Hid (A=i+frZ b (z.drop i))∧w=wr) (fun _ _ si _=>n-(intOf si).toNat)
 case atStart=>exact ⟨0,by omega,rfl,HST,by first | trivial | rfl⟩
 case round =>
  obtain ⟨i,hin,rfl,HA,rfl⟩:=hrel
  by_cases hlt:i<n
  ·have hiI:(i:Int)<(n:Int):=by omega
   obtain ⟨bl,off,rfl,hb,hc⟩:=HZ.out.2.2 (by rw [HN.out];omega)
   have ck:=hc i (by rw [HN.out];exact hlt)
   have HD:=Qa (HDC.out i hlt)
   obtain ⟨x,hx⟩:∃ x,z.getD i 0=x:=⟨_,rfl⟩
   rw [hx] at ck HD
   clear hx hc
   by_cases hxb:x<b
   ·have hxc:¬ b≤x:=by omega
    have HA2:Hid (A=(i+1)+frZ b (z.drop (i+1))):=Qa (by rw [HA.out,HD.out,frZ,if_pos hxb];omega)
    go_wp2
    go_roundw
    case rel=>exact ⟨i+1,by omega,by go_num,HA2,by first | trivial | rfl⟩
    case measure=>first | (simp [intOf];done) | (simp [intOf];omega)
   ·have hxc:b≤x:=by omega
    have HF:Hid (A=i):=Qa (by rw [HA.out,HD.out,frZ,if_neg hxb,Nat.add_zero])
    go_wp2
    go_ret
    exact ⟨by rw [HF.out];rfl,rfl⟩
  ·have hie:i=n:=by omega
   subst hie
   have HF:Hid (A=i):=Qa (by rw [HA.out,HEN.out,Nat.add_zero])
   go_wp2
   go_ret
   exact ⟨by rw [HF.out];rfl,rfl⟩
def iC (z:List Int):Array Value:=(Qo z).toArray
theorem qg (z:List Int) (j:Nat) (h:j<z.length):(iC z)[j]? = some (.int .i64 (z.getD j 0)):=by
 unfold iC;rw [List.getElem?_toArray,Xv _ _ h]
theorem AEa (z:List Int) (j:Nat) (x:Int):(iC z).setIfInBounds j (.int .i64 x)=iC (z.set j x):=by unfold iC;rw [List.setIfInBounds_toArray,ACe]
theorem AYe (n:Nat):madeCells #[Value.int .i64 0] n=iC (List.replicate n 0):=by
 have h:=ABn n
 unfold iC
 rw [←h]
theorem AXb (m:Nat) (hm:m≤1048576) (w:World):(Instr.makeSlice 24 (.int .i64 (m:Int)) (.int .i64 (m:Int))).run Tryz.prog w=.ok (.slice (some ⟨w.heap.size,0,none⟩) m m) (w.alloc (.cells (iC (List.replicate m 0)) 3)):=by
 obtain ⟨i,hi,h1,h2,h3⟩:=info_parts Tryz.infoInt
 have:=run_make (P:=Tryz.prog) w 24 3 i (.int .i64 0) Tryz.underlying24 hi h1 .i64 .i64 m m (by omega) (Int.le_refl _) (by rw [h3];omega) (by omega)
 have hz:(Value.int .i64 0).cells=#[Value.int .i64 0]:=rfl
 simp only [Int.toNat_natCast,h2,Nat.mul_one,hz,AYe] at this
 exact this
theorem AVs (D:List Int) (n:Nat) (x:Int) (h:D.length<n):(D++List.replicate (n-D.length) 0).set D.length x=(D++[x])++List.replicate (n-(D.length+1)) 0:=by
 rw [List.set_append_right _ _ (Nat.le_refl _),Nat.sub_self,show n-D.length=(n-(D.length+1))+1 by omega,List.replicate_succ,List.set_cons_zero,List.append_assoc]
 rfl
end Go.Proofs.YtembljihmnmmfaaGreat
