/- Texts of the proof, merged. -/
import Derived.Test.YtembljihmnmmfaaGreatKB26
import Derived.Test.YtembljihmnmmfaaGreatKB18
import Derived.Test.YtembljihmnmmfaaGreatKB15
import Derived.Test.YtembljihmnmmfaaGreatKB12
namespace Go.Proofs.YtembljihmnmmfaaGreat
set_option maxHeartbeats 4000000
set_option maxRecDepth 100000
set_option linter.unusedVariables false
set_option linter.unusedSimpArgs false
open Go.RowKit Go.Maps
theorem AOq:Lib.len8 0=0:=by decide +kernel
theorem yr (w:World):Calls Tryz.prog 153 #[.int .u64 0] w fun e w'=>e=.returned (.int .i64 0)∧w'=w:=by
 have hz:=Qa Lib.len8tab_size
 go_enter Tryz.func153,Tryz.ntmps153
 go_wp2
 go_ret
 exact ⟨congrArg Ending.returned (by rw [AOq];exact congrArg (Value.int IntKind.i64) (by decide +kernel:wrap64 (wrap64 0)=0)),rfl⟩
theorem AJh (x:Nat) (w:World) (hx:x≤255) :
 Calls Tryz.prog 112 #[.int .u64 x] w fun e w'=>e=.returned (.int .i64 ((if x=0 then 0 else Nat.log2 x+1:Nat):Int))∧w'=w:=by
 have K:Hid (∀ W:World,Calls Tryz.prog 153 #[.int .u64 x] W fun e w'=>e=.returned (.int .i64 ((if x=0 then 0 else Nat.log2 x+1:Nat):Int))∧w'=W):=Qa (fun W=>by
  by_cases h:x=0
  ·subst h;exact yr W
  ·rw [if_neg h]
   have:=Ye x W (by omega) (by omega)
   rwa [Int.toNat_natCast] at this)
 obtain ⟨g,hg⟩:∃ g,(if x=0 then 0 else Nat.log2 x+1)=g:=⟨_,rfl⟩
 rw [hg] at K ⊢
 clear hg
 go_enter Tryz.func112,Tryz.ntmps112
 go_wp2_with fail
 refine (K.out _).mono ?_
 rintro e w1 ⟨rfl,rfl⟩
 go_wp2
 go_ret
 exact ⟨rfl,rfl⟩
theorem ACs (lb mb:Nat) (u:List Nat) (w:World) (h:BL w lb mb u) (hu:u.Nodup) (hb:Byt u) (h0:u≠[]) :
 Calls Tryz.prog 122 #[.pointer (some ⟨lb,0,none⟩)] w fun e w'=>e=.returned (.int .i64 (Xh u.length:Int))∧w=w':=by
 have hl:=QK hb hu
 have hp:0<u.length:=List.length_pos_iff.2 h0
 have KS:=Qa (ASd lb mb u w h hu hb)
 have KL:=Qa (fun W=>AJh (u.length-1) W (by omega))
 have HE:Hid ((if u.length-1=0 then 0 else Nat.log2 (u.length-1)+1)=Xh u.length):=Qa (by
  unfold Xh
  by_cases h1:u.length≤1
  ·rw [if_pos h1,if_pos (by omega)]
  ·rw [if_neg h1,if_neg (by omega)])
 rw [HE.out] at KL
 obtain ⟨m,hm⟩:∃ m,u.length=m+1:=⟨u.length-1,by omega⟩
 obtain ⟨g,hg⟩:∃ g,Xh u.length=g:=⟨_,rfl⟩
 rw [hg] at KL ⊢
 rw [hm] at KS KL
 have hm256:m≤255:=by omega
 rw [Nat.add_sub_cancel] at KL
 clear hg hm HE h h0 hp hl
 go_enter Tryz.func122,Tryz.ntmps122
 go_wp2_with fail
 refine KS.out.mono ?_
 rintro e w1 ⟨rfl,rfl⟩
 have h1:((m+1:Nat):Int)-1=(m:Int):=by omega
 go_wp2_with fail
 refine (KL.out _).mono ?_
 rintro e w1 ⟨rfl,rfl⟩
 go_wp2
 go_ret
 exact ⟨rfl,rfl⟩
theorem AMg:Tryz.prog.arrayLen 137=16:=by kernel_rfl
theorem AQx:Tryz.prog.elem 137=3:=by kernel_rfl
theorem AVv:Tryz.prog.underlying 137=some (.array (Tryz.prog.arrayLen 137) (Tryz.prog.elem 137)):=by kernel_rfl
theorem ARa (w:World):(sizeOf 3).run Tryz.prog w=.ok 1 w:=by kernel_rfl
theorem AWk (lb b:Nat) (hb:b<256) (w:World):(Instr.sliceAt 137 (.pointer (some ⟨lb,1,none⟩)) none (some (.int .u8 ((b:Int) / 16))) none).run Tryz.prog w=.ok (.slice (some ⟨lb,1,none⟩) (b / 16) 16) w:=by
 rw [run_sliceAt_array_h w 137 _ AVv .u8 _ (by omega) (by rw [AMg];omega),AQx,ARa,AMg]
 have:((b:Int) / 16).toNat=b / 16:=by omega
 simp [slicedAt,Result.andThen,Addr.add,this]
theorem AIv (lb mb b:Nat) (u:List Nat) (w:World) (h:BL w lb mb u) (hb:b<256) (hul:u.length≤256) :
 Calls Tryz.prog 121 #[.pointer (some ⟨lb,0,none⟩),.int .u8 b] w fun e w'=>e=.returned (.int .i64 (befB u b:Int))∧w=w':=by
 obtain ⟨hB,D,hown,hC⟩:=h
 have HC:=Qa hC.2.2.1
 have hlb:=hB.lt
 have c0:=hB.cell 0
 rw [qb] at c0
 have HB:=Qa hB
 have HGS:=Qa (AQa u)
 have HBS:=Qa (APr u)
 have HG:=Qa (ALh u)
 have HGl:=Qa (AWa u)
 have HBl:=Qa (AZc u)
 have HG0:=Qa (ARe u)
 have hq16:b / 16≤16:=by omega
 have hq16I:(b:Int) / 16≤16:=by omega
 have HOW:=Qa hown
 clear hC hB hown c0
 go_enter Tryz.func121,Tryz.ntmps121
 have hsl:=AWk lb b hb
 go_wp2
 go_loopw [5,7,16] (fun si _ sk wr=>∃ k:Nat,k≤b / 16∧sk=.int .i64 k∧si=.int .i64 (befG u k:Int)∧Hid (w=wr)) (fun _ _ sk _=>b / 16-(intOf sk).toNat)
 case atStart=>exact ⟨0,by omega,rfl,by rw [HG0.out];rfl,Qa rfl⟩
 case round =>
  obtain ⟨k,hk,rfl,rfl,HW⟩:=hrel
  have HBr:Hid (Has wr lb 170 (blC mb (grpN u))):=Qa (by rw [←HW.out];exact HB.out)
  have hownr:wr.ownsMap Tryz.prog 5 (plainElem (H:=Unit) Tryz.prog 3) mb 1048576 D:=by rw [←HW.out];exact HOW.out
  have c0:=HBr.out.cell 0
  rw [qb] at c0
  have hl1:=HGl.out k
  have hl2:=HGl.out (k+1)
  by_cases hlt:k<b / 16
  ·have d0:=HBr.out.cell (1+k)
   rw [AAc _ _ _ (by omega)] at d0
   have HS:=Qa (HGS.out k)
   obtain ⟨x,hx⟩:∃ x,befG u k=x:=⟨_,rfl⟩
   obtain ⟨y,hy⟩:∃ y,grpN u k=y:=⟨_,rfl⟩
   rw [hx,hy] at HS
   rw [HS.out] at hl2
   rw [hx] at hl1 ⊢
   rw [hy] at d0
   clear hx hy
   go_wp2
   go_roundw
   case rel=>exact ⟨k+1,by omega,by go_num,by rw [HS.out];go_num,HW⟩
   case measure=>simp [intOf];omega
  ·have hkn:k=b / 16:=by omega
   subst hkn
   rw [←HG.out] at hl1 ⊢
   have hsub:(b:Int)-(b:Int) % 16=((16*(b / 16):Nat):Int):=by omega
   clear hl2
   go_wp2
   go_loopw [5,8] (fun si sx wq=>∃ x:Nat,16*(b / 16)≤x∧x≤b∧sx=.int .u8 x∧si=.int .i64 (befB u x:Int)∧Hid (w=wq)) (fun _ sx _=>b-(intOf sx).toNat)
   case atStart=>exact ⟨16*(b / 16),Nat.le_refl _,by omega,rfl,rfl,HW⟩
   case round =>
    obtain ⟨x,hx1,hx2,rfl,rfl,HW2⟩:=hrel
    clear c0 hownr HBr
    have HBq:Hid (Has wr lb 170 (blC mb (grpN u))):=Qa (by rw [←HW2.out];exact HB.out)
    have hownq:wr.ownsMap Tryz.prog 5 (plainElem (H:=Unit) Tryz.prog 3) mb 1048576 D:=by rw [←HW2.out];exact HOW.out
    have c0:=HBq.out.cell 0
    rw [qb] at c0
    have hm1:=HBl.out x
    have hm2:=HBl.out (x+1)
    by_cases hlt2:x<b
    ·have hxI:(x:Int)<b:=by omega
     have hx256:x<256:=by omega
     have HS:=Qa (HBS.out x)
     have HAT:=Qa (HC.out x hx256)
     have hkey:=keyB hx256
     obtain ⟨p,hp⟩:∃ p,befB u x=p:=⟨_,rfl⟩
     obtain ⟨q,hq⟩:∃ q,u.count x=q:=⟨_,rfl⟩
     rw [hp,hq] at HS
     rw [HS.out] at hm2
     rw [hq] at HAT
     rw [hp] at hm1 ⊢
     have hx8:((x:Int)+1) % 256=(x:Int)+1:=by omega
     clear hp hq
     go_wp2_with (at_lookup;refine wpList_lookup_own_int _ rfl _ _ 119 rfl 5 3 .i64 JC Tryz.underlying119 Tryz.underlying3 (yO _) mb 1048576 D rfl hownq _ _ rfl hkey ?_;intro c hat hwc;obtain rfl:c=(q:Int):=(by have h1:=hat.symm.trans HAT.out;simpa using h1))
     go_roundw
     case rel =>
      repeat apply Exists.intro
      refine ⟨?_,rfl⟩
      exact ⟨x+1,by omega,by omega,by go_num,by rw [HS.out];go_num,HW2⟩
     case measure=>simp [intOf];omega
    ·have hxb:x=b:=by omega
     subst hxb
     go_wp2
     go_ret
     exact ⟨rfl,HW2.out⟩
theorem Zh.isMap {W:World} {b n:Nat} {f:Nat→Nat} (h:Zh W b n f):∃ es c,W.heap[b]? = some (.map es c):=by
 obtain ⟨D,⟨es,c,hh,_⟩,_⟩:=h
 exact ⟨es,c,hh⟩
theorem Zh.keeps {W W':World} {b n g:Nat} {f:Nat→Nat} (h:Zh W b n f) (hk:QG g W W') (hne:b≠g):Zh W' b n f:=by
 obtain ⟨D,⟨es,c,hh,hr⟩,h2⟩:=h
 exact ⟨D,⟨es,c,hk b _ hne (fun cs fr e=>by cases e) hh,hr⟩,h2⟩
theorem BL.keeps {W W':World} {lb mb g:Nat} {u:List Nat} (h:BL W lb mb u) (hk:QG g W W') (h1:lb≠g) (h2:mb≠g):BL W' lb mb u :=
 ⟨hk.has h1 (by decide) h.1,h.2.keeps hk h2⟩
theorem Qp.two {w w':World} {base g lb mb:Nat} {l u:List Nat} (h:Qp w base g l) (hB:BL w lb mb u) (ht:Two lb mb w w') (h1:g≠lb) (h2:g≠mb):Qp w' base g l:=by
 obtain ⟨v,D,hH,hR,hP,hn⟩:=h
 refine ⟨v,D,ht.has hH h1 h2,hR.keep fun q hq=>ht.2.2.2.2 q (hR.lt q hq).2 ?_ ?_,hP,hn⟩
 ·intro e
  exact hR.neHas hB.1 (by decide) (by rw [hq,e])
 ·intro e
  obtain ⟨es,c,hm⟩:=hB.2.isMap
  exact hR.notOther (fun cs fr e=>by cases e) hm (by rw [hq,e])
theorem ANe {l:List Nat} {k m:Nat}:(l++Qh k m).length=l.length+m:=by rw [List.length_append,Qt]
theorem jS (s:ByteArray) (w:World) (hs:s.size≤1048576) (hok:ZA (Qb s)=true) :
 Calls Tryz.prog 81 #[.string s] w fun e w'=>∃ D,Packs D (putO (Qm (Qb s)) (Qb s))∧e=.returned (.tuple #[.agg #[.string (Qg D),.int .i64 ((putO (Qm (Qb s)) (Qb s)).length:Int)],.bool true])∧Below w.heap.size w w':=by
 have bb:Below w.heap.size w (w.alloc (.cells #[.string ⟨#[]⟩,.int .i64 0] 32)):=(Below.refl _ _).alloc (Nat.le_refl _) _
 have hR:=Has.fresh w 32 #[.string ⟨#[]⟩,.int .i64 0]
 have hnd:=((Xw _).1 hok).2
 have hs256:s.size≤256:=by rw [←Qf];exact QK (QA s) hnd
 have K0:=Qa (fun W=>VD s W hs)
 rw [hok] at K0
 have K4:=Qa (fun (W:World)=>Zw ⟨#[]⟩ 0 W (by decide))
 have KL:=Qa (fun W=>AMu s W hs)
 have HX:=Qa (AKv s)
 have HLn:=Qa (Qf s)
 have HP0:=Qa (ABi (QA s) hnd)
 have HAs:=Qa (ZL (Qb s))
 have HB:=Qa (QA s)
 have HND:=Qa hnd
 obtain ⟨O,hO⟩:∃ O,Qb s=O:=⟨_,rfl⟩
 rw [hO] at KL HX HLn HP0 HAs HB HND ⊢
 obtain ⟨A,hA⟩:∃ A,putO (Qm O) O=A:=⟨_,rfl⟩
 have HA:=Qa hA
 rw [hA]
 clear hA hnd hok hO
 go_enter Tryz.func81,Tryz.ntmps81
 go_wp2_with fail
 refine (K0.out _).mono ?_
 rintro e w1 ⟨rfl,b1⟩
 replace bb:=Qc b1 bb.size bb
 replace hR:=hR.below b1 hR.lt
 have hs1:=bb.size
 have hRl1:=hR.lt
 clear b1
 go_wp2_with fail
 refine (K4.out _).mono ?_
 rintro e w2 ⟨g,rfl,hW2,hg2,b2⟩
 replace bb:=Qc b2 hs1 bb
 replace hR:=hR.below b2 hR.lt
 have hs2:=bb.size
 have hs12:=b2.size
 rw [show row ⟨#[]⟩ 0 0=[] from rfl] at hW2
 obtain ⟨base,hbase⟩:∃ base,w1.heap.size=base:=⟨_,rfl⟩
 rw [hbase] at hW2 hg2 hs12 hRl1 hs1
 have hgl2:=hW2.lt
 clear b2
 go_wp2_with fail
 refine (KL.out _).mono ?_
 rintro e w3 ⟨lb,rfl,hlb,hBL,b3⟩
 replace bb:=Qc b3 hs2 bb
 replace hR:=hR.below b3 hR.lt
 have hW3:=hW2.below b3
 have hs3:=b3.size
 obtain ⟨mb,hmb⟩:∃ mb,w2.heap.size=mb:=⟨_,rfl⟩
 rw [hmb] at hBL hlb hs3 hgl2
 have hbm:base≤mb:=by omega
 have hgm:g<mb:=hgl2
 have hHb:w.heap.size<base:=hRl1
 clear b3 hW2 hmb hs12 hs1 hs2
 go_wp2
 go_loopw [6,17] (fun _ si wr=>∃ (i:Nat) (P D:List Nat),i≤s.size∧si=.int .i64 i∧Hid (A=D++putO P (O.drop i))∧Hid (P.Perm (O.drop i))∧Hid (P.Pairwise (·<·))∧D.length≤8*i∧Qp wr base g D∧BL wr lb mb (O.drop i)∧Has wr w.heap.size 32 #[.string ⟨#[]⟩,.int .i64 0]∧Below w.heap.size w wr∧base≤wr.heap.size) (fun _ si _=>s.size-(intOf si).toNat)
 case atStart=>exact ⟨0,Qm O,[],by omega,rfl,Qa (by rw [←HA.out];rfl),HP0,HAs,by simp,hW3,by simpa using hBL,hR,bb,by omega⟩
 case round =>
  obtain ⟨i,P,D,hi2,rfl,HD,HP,HPA,hDl,hW,hL,hR,hbl,hsz⟩:=hrel
  clear bb hBL hW3
  by_cases hlt:i<s.size
  ·obtain ⟨x,hx⟩:∃ x,s[i].toNat=x:=⟨_,rfl⟩
   have hx256:x<256:=by rw [←hx];exact UInt8.toNat_lt _
   have hdr:=HX.out i hlt
   rw [hx] at hdr
   have hdn:(O.drop i).Nodup:=HND.out.sublist (List.drop_sublist i O)
   have hdb:Byt (O.drop i):=fun b hb=>HB.out b (List.mem_of_mem_drop hb)
   have hxd:x∈O.drop i:=by rw [hdr];exact List.mem_cons_self ..
   have hxP:x∈P:=HP.out.mem_iff.2 hxd
   have hdl:(O.drop i).length≤256:=QK hdb hdn
   have hk:=qc hxP
   have hPl:=HP.out.length_eq
   have hbef:befB (O.drop i) x=P.idxOf x:=by rw [AYj HPA.out hxP,AOa HP.out]
   have KI:=Qa (AIv lb mb x (O.drop i) wr hL hx256 hdl)
   rw [hbef] at KI
   have KB:=Qa (ACs lb mb (O.drop i) wr hL hdn hdb (by rw [hdr];simp))
   rw [←hPl] at KB hdl
   have hup:=xx P.length
   have hnd8:=xu P.length hdl
   have her:(O.drop i).erase x=O.drop (i+1):=by rw [hdr,List.erase_cons_head]
   have KR:=Qa (fun (W:World) (h:BL W lb mb (O.drop i))=>AMq lb mb x (O.drop i) W h hdn hxd hx256 (by omega) (by omega))
   rw [her] at KR
   obtain ⟨k,hkk⟩:∃ k,P.idxOf x=k:=⟨_,rfl⟩
   obtain ⟨m,hmm⟩:∃ m,Xh P.length=m:=⟨_,rfl⟩
   have hE:Hid (putO P (x::O.drop (i+1))=Qh k m++putO (P.erase x) (O.drop (i+1))):=Qa (by rw [putO,hkk,hmm])
   have HP2:Hid ((P.erase x).Perm (O.drop (i+1))):=Qa (by have:=HP.out.erase x;rwa [her] at this)
   have HPA2:Hid ((P.erase x).Pairwise (·<·)):=Qa (HPA.out.sublist List.erase_sublist)
   rw [hkk] at KI hk
   rw [hmm] at KB hup hnd8
   have hkm:k<2^m:=by omega
   have HD2:Hid (A=(D++Qh k m)++putO (P.erase x) (O.drop (i+1))):=Qa (by rw [HD.out,hdr,hE.out,List.append_assoc])
   have KPut:=Qa (QS g base D k m wr hW hg2 hsz (by omega) hkm (by omega))
   have HW:=Qa hW
   have HL:=Qa hL
   clear hkk hmm hbef hdr hdn hdb hxd hxP hdl hk hPl hup her hW hL hkm
   go_wp2_with fail
   refine KI.out.mono ?_
   rintro e w4 ⟨rfl,rfl⟩
   go_wp2_with fail
   refine KB.out.mono ?_
   rintro e w5 ⟨rfl,rfl⟩
   go_wp2_with fail
   refine KPut.out.mono ?_
   rintro e w6 ⟨rfl,hW6,b6,hK6⟩
   have hL6:=HL.out.keeps hK6 (by omega) (by omega)
   have hR6:=hR.below b6 hHb
   have hbl6:Below w.heap.size w w6:=hbl.trans (b6.mono (by omega))
   have hs6:=b6.size
   clear hR hbl hK6 b6
   go_wp2_with fail
   refine (KR.out _ hL6).mono ?_
   rintro e w7 ⟨rfl,hL7,ht7⟩
   have hW7:=hW6.two hL6 ht7 (by omega) (by omega)
   have hR7:=ht7.has hR6 (by omega) (by omega)
   have hbl7:Below w.heap.size w w7:=hbl6.trans ((ht7.below (B:=base) (by omega) (by omega) (by omega)).mono (by omega))
   have hs7:=ht7.2.2.2.1
   clear hL6 hW6 hR6 hbl6 ht7
   go_wp2
   go_roundw
   case rel=>exact ⟨i+1,P.erase x,D++Qh k m,by omega,by go_num,HD2,HP2,HPA2,by rw [ANe];omega,hW7,hL7,hR7,hbl7,by omega⟩
   case measure=>simp [intOf];omega
  ·have hie:i=s.size:=by omega
   have HF:Hid (D=A):=Qa (by rw [HD.out,hie,←HLn.out,List.drop_length,putO,List.append_nil])
   subst hie
   have KF:=Qa (Xm g base D wr hW)
   rw [HF.out] at KF
   clear hW hL
   go_wp2_with fail
   refine KF.out.mono ?_
   rintro e w7 ⟨E,hE,rfl,b7⟩
   have hbs:=hbl.size
   have bb7:=Qc b7 hbs hbl
   have hR7:=hR.below b7 hR.lt
   have e0:=hR7.cell 0
   have e1:=hR7.cell 1
   have g0:=hR7.free 0
   have g1:=hR7.free 1
   simp at e0 e1
   have hs7:=bb7.size
   clear b7 hR hR7
   go_wp2
   refine bodyPost_ret (v:=.tuple #[.agg #[.string (Qg E),.int .i64 (A.length:Int)],.bool true]) (by simp [results,Tryz.results81,go_sem,e0,e1,g0,g1]) rfl ⟨E,hE,rfl,?_⟩
   repeat (first | exact Below.refl _ _ | assumption | refine Below.alloc ?_ (by (try simp);(try omega)) _ | refine Below.setCell ?_ (by (try simp);(try omega)) _ | refine Below.drew ?_ | refine Qc (by assumption) (by (try simp);(try omega)) ?_)
end Go.Proofs.YtembljihmnmmfaaGreat
