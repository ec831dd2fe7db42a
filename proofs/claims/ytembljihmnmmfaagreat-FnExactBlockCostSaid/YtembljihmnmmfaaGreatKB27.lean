/- Texts of the proof, merged. -/
import Derived.Lib.Bytealg
import Derived.Lib.IndexLaws
import Derived.Lib.Walk
import Derived.Laws.Externs
import Derived.Test.YtembljihmnmmfaaGreatKB12
import Derived.Test.YtembljihmnmmfaaGreatKB16
namespace Go.Proofs.YtembljihmnmmfaaGreat
set_option maxHeartbeats 1000000
set_option maxRecDepth 100000
set_option linter.unusedVariables false
set_option linter.unusedSimpArgs false
open Go.RowKit
theorem AIe (s:ByteArray) (b:Nat) (hb:b<256):Lib.indexByte s.data.toList (b:Int).toNat.toUInt8=Zu (Qb s) b:=by
 have hl:(Qb s).length=s.data.toList.length:=by simp [Qb]
 have hg:∀ k,s.data.toList[k]? = some b.toUInt8↔k<(Qb s).length∧(Qb s).getD k 0=b:=by
  intro k
  rcases Nat.lt_or_ge k s.data.toList.length with h | h
  ·rw [List.getElem?_eq_getElem h]
   have h2:(Qb s).getD k 0=(s.data.toList[k]).toNat:=by
    simp only [Qb,List.getD_eq_getElem?_getD,List.getElem?_map,List.getElem?_eq_getElem h,Option.map_some,Option.getD_some]
   rw [h2,hl]
   constructor
   ·intro e
    refine ⟨h,?_⟩
    injection e with e
    rw [e,UInt8.toNat_ofNat',Nat.mod_eq_of_lt hb]
   ·rintro ⟨_,e⟩
    congr 1
    apply UInt8.toNat_inj.1
    rw [e,UInt8.toNat_ofNat',Nat.mod_eq_of_lt hb]
  ·rw [List.getElem?_eq_none h]
   constructor
   ·intro e;cases e
   ·rintro ⟨h2,_⟩;omega
 rw [Int.toNat_natCast]
 have h1:=Lib.indexByte_ge s.data.toList b.toUInt8
 by_cases h:Lib.indexByte s.data.toList b.toUInt8<0
 ·have h2:Lib.indexByte s.data.toList b.toUInt8=-1:=by omega
  rw [h2,jw]
  intro j hj e
  exact Lib.indexByte_none h2 j ((hg j).2 ⟨hj,e⟩)
 ·obtain ⟨o,ho⟩:∃ o:Nat,Lib.indexByte s.data.toList b.toUInt8=o:=⟨(Lib.indexByte s.data.toList b.toUInt8).toNat,by omega⟩
  have h3:=Lib.indexByte_some ho
  have h4:=(hg o).1 h3.1
  rw [ho,jL h4.1 h4.2]
  intro j hj e
  exact h3.2 j hj ((hg j).2 ⟨by omega,e⟩)
theorem ACp (s:ByteArray) (b:Nat) (w:World) (hb:b<256) :
 Calls Tryz.prog 140 #[.string s,.int .u8 b] w fun e w'=>e=.returned (.int .i64 (Zu (Qb s) b))∧w'=w:=by
 have HP:=AIe s b hb
 have hx:∀ W:World,(callFunc 189 #[.string s,.int .u8 b]).run Tryz.prog W=.ok (.value (.int .i64 (Zu (Qb s) b))) W:=fun W=>by
  rw [run_callFunc_extern Tryz.func189 (by kernel_rfl) (by kernel_rfl) (by kernel_rfl) (e:=Extern.BytealgIndexByte.indexByte) (by kernel_rfl),Lib.run_indexByteString,HP]
  rfl
 have K1:Hid (∀ W:World,Calls Tryz.prog 169 #[.string s,.int .u8 b] W fun e w'=>e=.returned (.int .i64 (Zu (Qb s) b))∧w'=W):=Qa (fun W=>by
  clear HP
  go_enter Tryz.func169,Tryz.ntmps169
  go_wp2
  go_ret
  exact ⟨rfl,rfl⟩)
 clear hx HP
 go_enter Tryz.func140,Tryz.ntmps140
 go_wp2_with fail
 refine (K1.out _).mono ?_
 rintro e w1 ⟨rfl,rfl⟩
 go_wp2
 go_ret
 exact ⟨rfl,rfl⟩
theorem ACq {D:List Int} {k:Nat} (y:Int) (h:k<D.length):(D.set k y).take (k+1)=D.take k++[y]:=by
 have hk:k<(D.set k y).length:=by rw [List.length_set];exact h
 rw [List.take_succ_eq_append_getElem hk,List.take_set_of_le (Nat.le_refl _),List.getElem_set_self]
theorem JP (s o:ByteArray) (w:World) (hs:s.size≤1048576) (ho:o.size≤1048576) :
 Calls Tryz.prog 95 #[.string s,.string o] w fun e w'=>∃ v,e=.returned (.tuple #[v,.bool (rkOk (Qb s) (Qb o))])∧w'.ownsRow w.heap.size 3 1 v (rkL (Qb s) (Qb o)).length (Qo (rkL (Qb s) (Qb o)))∧Below w.heap.size w w':=by
 have K1:=Qa (fun W=>VD o W ho)
 have HNIL:Hid (rkOk (Qb s) (Qb o)=false→rkL (Qb s) (Qb o)=[]):=Qa (fun h=>by unfold rkL;rw [if_neg (by rw [h];decide)])
 have HLs:=Qa (Qf s)
 by_cases h6:s.size≤600
 ·by_cases hok:ZA (Qb o)=true
  ·obtain ⟨j0,ji,jz0,jz1,jz2⟩:=info_parts Tryz.infoI
   have ho256:o.size≤256:=by rw [←Qf];exact QK (QA o) ((Xw _).1 hok).2
   have KP:=Qa (fun (W:World) (b:Nat) (hb:b<256)=>ACp o b W hb)
   have HIT:=Qa (XD (Qb s) (Qb o))
   have HOK:=Qa hok
   have HGT:Hid (∀ k (h:k<s.size),s[k].toNat=(Qb s).getD k 0):=Qa (fun k h=>by rw [Xi _ _ h,Zn])
   have HME:Hid (∀ k,k<s.size→(Qb s).getD k 0∈Qb s):=Qa (fun k h=>by
    have h2:k<(Qb s).length:=by rw [Qf];exact h
    rw [List.getD_eq_getElem?_getD,List.getElem?_eq_getElem h2];exact List.getElem_mem h2)
   have HRS:=Qa (fun k h=>AAy (Qb s) (Qb o) k h)
   have HRL:=Qa (fun k h=>AEm (Qb s) (Qb o) k h)
   have HAL:Hid (rkOk (Qb s) (Qb o)=true→rkL (Qb s) (Qb o)=rkTo (Qb s) (Qb o) s.size):=Qa (fun h=>by unfold rkL;rw [if_pos h,Qf])
   have HIX:Hid (∀ b,b∈Qb o→(Qb o).idxOf b<o.size):=Qa (fun b h=>by rw [←Qf];exact qc h)
   rw [hok] at K1
   have HMA:Hid (∀ x,(x∈Qb s→∃ k,k<s.size∧(Qb s).getD k 0=x)):=Qa (fun x hx=>by
    obtain ⟨k,hk,rfl⟩:=List.getElem_of_mem hx
    exact ⟨k,by rw [←Qf];exact hk,by simp [List.getD_eq_getElem?_getD,hk]⟩)
   obtain ⟨S,hS⟩:∃ S,Qb s=S:=⟨_,rfl⟩
   obtain ⟨O,hO⟩:∃ O,Qb o=O:=⟨_,rfl⟩
   rw [hS] at HNIL HIT HGT HME HRS HRL HAL HLs HMA
   rw [hO] at HNIL HIT HRS HRL HAL HOK KP HIX
   rw [hS,hO]
   clear hS hO hok
   go_enter Tryz.func95,Tryz.ntmps95
   go_wp2_with fail
   refine (K1.out _).mono ?_
   rintro e w1 ⟨rfl,b1⟩
   have hs1:=b1.size
   go_wp2_with (at_make;refine wpList_make_full _ rfl _ _ 24 rfl w.heap.size 3 j0 (.int .i64 0) 1 Tryz.underlying24 ji jz0 jz1 .i64 .i64 _ _ s.size rfl rfl rfl rfl ?cb1 ?cb2 ?cb3 ?_)
   case cb1=>rw [jz2];omega
   case cb2=>unfold maxLen;omega
   case cb3=>exact hs1
   intro w2 hown hgrow
   have hbl:Below w.heap.size w w2:=b1.trans ⟨hgrow.os,hgrow.tape,hgrow.output,hgrow.size,fun i hi=>hgrow.block i (by omega) (by simp)⟩
   rw [ABn] at hown
   obtain ⟨g,hg⟩:∃ g,w1.heap.size=g:=⟨_,rfl⟩
   rw [hg] at hown ⊢
   have hgw:w.heap.size≤g:=by omega
   clear hgrow hg b1 hs1
   go_wp2
   go_loopw [7,21] (fun _ sk wr=>∃ (k:Nat) (D:List Int),k≤s.size∧sk=.int .i64 k∧Hid (D.length=s.size∧D.take k=rkTo S O k)∧Hid (∀ j,j<k→S.getD j 0∈O)∧wr.ownsRow w.heap.size 3 1 (.slice (some ⟨g,0,none⟩) s.size s.size) s.size (Qo D)∧Below w.heap.size w wr) (fun _ sk _=>s.size-(intOf sk).toNat)
   case atStart=>exact ⟨0,List.replicate s.size 0,by omega,rfl,Qa ⟨by simp,by simp [rkTo]⟩,Qa (fun j hj=>by omega),hown,hbl⟩
   case round =>
    obtain ⟨k,D,hk,rfl,HD,HA,hownD,hblD⟩:=hrel
    clear hown hbl
    by_cases hlt:k<s.size
    ·have hx256:s[k].toNat<256:=UInt8.toNat_lt _
     have hgk:=HGT.out k hlt
     have HM:=Qa (HME.out k hlt)
     have HR:=Qa (HRS.out k (by rw [HLs.out];exact hlt))
     obtain ⟨x,hx⟩:∃ x,s[k].toNat=x:=⟨_,rfl⟩
     rw [hx] at hgk hx256
     rw [←hgk] at HM HR
     have KX:=Qa (KP.out wr x hx256)
     have HGK:=Qa hgk
     have d0:=hownD.cellAt k (by omega)
     rw [Xv D k (by rw [HD.out.1];exact hlt)] at d0
     have f0:=hownD.frozenAt k
     clear hgk
     by_cases hin:x∈O
     ·have hix:=HIX.out x hin
      rw [Zu,if_pos hin] at KX
      obtain ⟨y,hy⟩:∃ y,O.idxOf x=y:=⟨_,rfl⟩
      rw [hy] at KX HR hix
      have HA2:Hid (∀ j,j<k+1→S.getD j 0∈O):=Qa (fun j hj=>by
       rcases Nat.lt_or_ge j k with h | h
       ·exact HA.out j h
       ·rw [show j=k by omega,←HGK.out];exact hin)
      have HD2:Hid ((D.set k (y:Int)).length=s.size∧(D.set k (y:Int)).take (k+1)=rkTo S O (k+1)):=Qa ⟨by rw [List.length_set,HD.out.1],by rw [ACq _ (by rw [HD.out.1];exact hlt),HD.out.2,HR.out]⟩
      have hy0:¬ (y:Int)<0:=by omega
      clear hy
      go_wp2_with fail
      refine KX.out.mono ?_
      rintro e w2 ⟨rfl,rfl⟩
      go_wp2
      go_roundw
      case rel=>exact ⟨k+1,D.set k y,by omega,by go_num,HD2,HA2,by rw [←ACe];exact (hownD.stored k _).1,hblD.setCell hgw _⟩
      case measure=>simp [intOf];omega
     ·rw [Zu,if_neg hin] at KX
      have HF:Hid (rkOk S O=false):=Qa (QC (fun h=>hin ((HIT.out.1 h).2.2 x HM.out)))
      go_wp2_with fail
      refine KX.out.mono ?_
      rintro e w2 ⟨rfl,rfl⟩
      go_wp2
      go_ret2
      exact ⟨_,XX HF.out.symm,by rw [HNIL.out HF.out];exact World.ownsRow_nil _ _ _ _,hblD.setCell hgw _⟩
    ·have hks:k=s.size:=by omega
     subst hks
     have HT:Hid (rkOk S O=true):=Qa (HIT.out.2 ⟨by rw [HLs.out];exact h6,HOK.out,fun b hb=>by
      obtain ⟨j,hj,rfl⟩:=HMA.out b hb
      exact HA.out j hj⟩)
     have HL2:=Qa (HRL.out s.size (by rw [HLs.out];exact Nat.le_refl _))
     have HDE:Hid (D=rkTo S O s.size):=Qa (by
      have:=HD.out.2
      rwa [List.take_of_length_le (by rw [HD.out.1];exact Nat.le_refl _)] at this)
     go_wp2
     go_ret2
     exact ⟨_,XX HT.out.symm,by rw [HAL.out HT.out,HL2.out,←HDE.out];exact hownD,hblD⟩
  ·have HF:Hid (rkOk (Qb s) (Qb o)=false):=Qa (QC (fun h=>hok ((XD _ _).1 h).2.1))
   rw [QC hok] at K1
   clear hok
   go_enter Tryz.func95,Tryz.ntmps95
   go_wp2_with fail
   refine (K1.out _).mono ?_
   rintro e w1 ⟨rfl,b1⟩
   go_wp2
   go_ret2
   exact ⟨_,XX HF.out.symm,by rw [HNIL.out HF.out];exact World.ownsRow_nil _ _ _ _,b1⟩
 ·have HF:Hid (rkOk (Qb s) (Qb o)=false):=Qa (QC (fun h=>h6 (by rw [←Qf];exact ((XD _ _).1 h).1)))
  have h6I:(600:Int)<s.size:=by omega
  go_enter Tryz.func95,Tryz.ntmps95
  go_wp2
  go_ret2
  exact ⟨_,XX HF.out.symm,by rw [HNIL.out HF.out];exact World.ownsRow_nil _ _ _ _,Below.refl _ _⟩
end Go.Proofs.YtembljihmnmmfaaGreat
