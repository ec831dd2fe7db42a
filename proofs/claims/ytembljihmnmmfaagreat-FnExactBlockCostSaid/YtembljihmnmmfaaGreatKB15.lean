/- Texts of the proof, merged. -/
import Derived.BigRegion
import Derived.Deep.DeepCutAuto
import Derived.Test.YtembljihmnmmfaaGreatKB4
import Derived.Test.YtembljihmnmmfaaGreatKB6
import Derived.Deep.LoopGhost
import Derived.Test.YtembljihmnmmfaaGreatKB2
import Derived.Test.YtembljihmnmmfaaGreatKB3
import Derived.Deep.RegionWith
import Derived.Maps.AppendAt
namespace Go.Proofs.YtembljihmnmmfaaGreat
set_option maxHeartbeats 4000000
set_option maxRecDepth 100000
set_option linter.unusedVariables false
set_option linter.unusedSimpArgs false
open Go.RowKit
theorem QS (g base:Nat) (l:List Nat) (y k:Nat) (w:World) (h:Qp w base g l) (hg:base≤g) (hbase:base≤w.heap.size) (hk:k≤32) (hy:y<2^k) (hl:l.length+k≤400000) :
 Calls Tryz.prog 35 #[.pointer (some ⟨g,0,none⟩),.int .i64 y,.int .i64 k] w fun e w'=>e=.returned (.tuple #[])∧Qp w' base g (l++Qh y k)∧Below base w w'∧QG g w w':=by
 obtain ⟨i0,hi,hz0,hz1,hz2⟩:=info_parts Tryz.info5
 have hy32:y<2^32:=Nat.lt_of_lt_of_le hy (Nat.pow_le_pow_right (by omega) hk)
 go_enter Tryz.func35,Tryz.ntmps35
 go_wp2
 go_loopw [2,6,7,8] (fun n _ _ _ wr=>∃ (r:Nat) (L:List Nat) (N:Nat),r≤k∧Hid (L=l++Qh (y / 2^r) (k-r))∧Hid (L.length=N)∧N+r≤400000∧n=.int .i64 r∧Qp wr base g L∧Below base w wr∧QG g w wr) (fun n _ _ _ _=>(intOf n).toNat)
 case atStart=>exact ⟨k,l,l.length,Nat.le_refl _,Qa (by simp [Qh]),Qa rfl,hl,rfl,h,Below.refl _ _,QG.refl _ _⟩
 case round =>
  obtain ⟨r,L,N,hr,HL,HN,hN,rfl,⟨v,D,hB,hR,hP,hne⟩,hbl,hK⟩:=hrel
  have HNo:=HN.out
  have c0:=hB.cell 0
  have c1:=hB.cell 1
  have f0:=hB.free 0
  have f1:=hB.free 1
  simp [HNo] at c0 c1
  have hDl:=hP.len
  rw [HNo] at hDl
  have HD:=Qa hDl
  clear hDl HNo
  by_cases hlt:0<r
  ·go_upto_if 17 with (go_at_call 74;refine (AGp _ _ (by omega)).mono ?_;rintro e w1 ⟨rfl,rfl⟩)
   go_cut [6] (fun s6 wx=>∃ (f M:Nat) (v':Value) (D':List Nat),s6=.int .i64 f∧0<f∧f≤8∧Hid (f=8-N % 8)∧Hid (M=N / 8)∧M≤50000∧Has wx g 102 #[v',.int .i64 N]∧Row wx base 5 v' (M+1) (u8s D')∧PK (M+1) D' L∧some g≠v'.ownBlock∧Below base w wx∧QG g w wx)
   case first =>
    by_cases h8:N % 8=0
    ·have hu1:((upN N:Int) == 0)=true:=by simp [upN];omega
     go_wp2_with (at_builtin;refine xX _ rfl _ _ 61 rfl 5 i0 Tryz.underlying61 hi hz0 hz1 hz2 v D.length base (u8s D) rfl (hR.alloc _) ⟨wr.heap.size,0,none⟩ 1 (.int .u8 0) rfl ?c1 rfl ?c3 ?c4 ?_)
     case c1=>have:=(Has.fresh wr 5 #[.int .u8 0]).cell 0;simp at this;simp [this]
     case c3=>have:=HD.out;omega
     case c4=>have:=hbl.size;simp;omega
     intro v3 w3 hR3 hgr
     obtain ⟨gd3,cp3,hv3,_⟩:=hR3.form
     subst hv3
     have hB3:=(hB.alloc (.cells #[.int .u8 0] 5)).grown hgr hne
     have hsz:=hbl.size
     have hbl3:Below base w w3:=(hbl.alloc (by omega) _).grown hgr (by simp;omega) (fun b hb=>(hR.lt b hb).1)
     have hK3:=(hK.alloc (.cells #[.int .u8 0] 5)).grown (hR.alloc _) hgr
     have hne3:=hR3.neHas hB3 (by decide)
     have d0:=hB3.cell 0
     have d1:=hB3.cell 1
     have k0:=hB3.free 0
     have hB4:=hB3.store 0 (.slice (some ⟨gd3,0,none⟩) (D.length+1) cp3)
     simp [HN.out] at d0 d1 hB4
     have hP3:=hP.pk.zero (by have:=hP.len;omega)
     rw [show u8s D++[.int .u8 0]=u8s (D++[0]) by simp [u8s]] at hR3
     have hDM:D.length=N / 8:=by have:=HD.out;omega
     rw [hDM] at hR3 hP3 hB4 hne3
     simp only [hDM]
     have HDM:=Qa hDM
     clear hDM hB3 hgr
     go_wp2
     go_meet
     case rel=>exact ⟨8,N / 8,.slice (some ⟨gd3,0,none⟩) (N / 8+1) cp3,D++[0],rfl,by omega,by omega,Qa (by omega),Qa rfl,by omega,hB4,hR3.storeAway hne3 _,hP3,fun h=>hne3 h.symm,hbl3.setCell hg _,hK3.store 0 _⟩
    ·have hu0:((upN N:Int) == 0)=false:=by simp [upN];omega
     have hDM:D.length=N / 8+1:=by have:=HD.out;omega
     have hP3:=hP.pk
     rw [hDM] at hR hP3
     have HDM:=Qa hDM
     simp [HN.out] at hB
     clear hDM
     go_wp2
     go_meet
     case rel=>exact ⟨upN N,N / 8,v,D,rfl,by unfold upN;omega,by unfold upN;omega,Qa (by unfold upN;omega),Qa rfl,by omega,hB,hR,hP3,hne,hbl,hK⟩
   case rest =>
    obtain ⟨f,M,v',D',rfl,hf0,hf8,HF,HM,hM,hB',hR',hP',hne',hbl',hK'⟩:=hcut
    obtain ⟨gd,cp,hv,hgd,hgdl,hcap⟩:=hR'.form
    subst hv
    clear c0 c1 f0 f1 hB hR hP hne hbl HD
    have hD'len:=hR'.len
    rw [Zo] at hD'len
    go_upto_region 5 with fail
    go_cut [7] (fun s7 wx=>∃ kk:Nat,s7=.int .i64 kk∧0<kk∧kk≤r∧kk≤f∧wx=wc)
    case first =>
     by_cases hm:r≤f
     ·go_wp2
      go_meet
      case rel=>exact ⟨r,rfl,by omega,by omega,by omega,rfl⟩
     ·go_wp2
      go_meet
      case rel=>exact ⟨f,rfl,by omega,by omega,by omega,rfl⟩
    case rest =>
     obtain ⟨kk,rfl,hk0,hkr,hkf,rfl⟩:=hcut
     obtain ⟨p,hp⟩:∃ p:Nat,p=y / 2^(r-kk) % 2^kk:=⟨_,rfl⟩
     obtain ⟨x,hx⟩:∃ x:Nat,x=D'.getD M 0:=⟨_,rfl⟩
     have c0:=hB'.cell 0
     have c1:=hB'.cell 1
     have f1:=hB'.free 1
     have c2:=hR'.cell M (.int .u8 (x:Int)) (by rw [xt _ _ (by omega),hx])
     have f2:=hR'.free M (by omega)
     simp at c0 c1
     have hgg:¬ g=gd:=fun e=>hne' (by rw [e];rfl)
     have hgg':¬ gd=g:=fun e=>hgg e.symm
     have hyd:y / 2^(r-kk)≤y:=Nat.div_le_self _ _
     have hE:bits BinOp.and IntKind.i64 ((y:Int) / 2^(r-kk)) (wrap64 (wrap64 (2^kk)-1))=(p:Int):=by
      rw [hp,←AEf _ _ (by omega) (by omega)];simp
     have HP:=Qa hp
     have HX:=Qa hx
     have hDl:=Qa hD'len
     clear hp hx hD'len hyd
     go_wp2
     go_quiet (fail)
     go_wp2
     go_region
     all_goals go_wp2
     have hN':=HN.out
     have hq:bits BinOp.or IntKind.u8 (x:Int) (wrap64 ((p:Int)*2^(f-kk)) % 256)=((x ||| p*2^(f-kk):Nat):Int):=by
      have hpk:p<2^kk:=by rw [HP.out];exact Nat.mod_lt _ (Nat.two_pow_pos kk)
      have hpf:p*2^(f-kk)<256:=by
       have e8:2^kk*2^(f-kk)=2^f:=by rw [←Nat.pow_add];congr 1;omega
       have e9:2^f≤2^8:=Nat.pow_le_pow_right (by omega) hf8
       have e10:p*2^(f-kk)<2^kk*2^(f-kk):=Nat.mul_lt_mul_of_pos_right hpk (Nat.two_pow_pos _)
       omega
      have hx:x<256:=by rw [HX.out];exact hP'.small M
      rw [←u8_or_nat x (p*2^(f-kk)) hx hpf,show ((p:Int)*2^(f-kk))=((p*2^(f-kk):Nat):Int) by simp,QT _ (by omega)]
      congr 1
      omega
     have hor:=hP'.or_k kk (y / 2^(r-kk)) (by rw [hN',HM.out]) (by rw [hN'];have:=HF.out;omega)
     rw [←HP.out,show M+1-1=M by omega,←HX.out,hN',←HF.out] at hor
     have hrow:=(((hR'.drewN (nq+1)).store M (.int .u8 ((x ||| p*2^(f-kk):Nat):Int))).storeAway (p:=⟨g,1,none⟩) (by simpa [Value.ownBlock] using hgg') (.int .i64 (↑N+↑kk)))
     rw [←xA] at hrow
     have hhas:=(((hB'.drewN (nq+1)).storeAway (p:=⟨gd,M,none⟩) hgg (.int .u8 ((x ||| p*2^(f-kk):Nat):Int))).store 1 (.int .i64 (↑N+↑kk)))
     have hlen2:(L++Qh p kk).length=N+kk:=by rw [List.length_append,Qt,hN']
     have hpks:=hor.packs (by rw [hlen2,HM.out];have:=HF.out;omega)
     have hbl2:=((Zy hbl' (nq+1)).setCell (p:=⟨gd,M,none⟩) hgd (.int .u8 ((x ||| p*2^(f-kk):Nat):Int))).setCell (p:=⟨g,1,none⟩) hg (.int .i64 (↑N+↑kk))
     have hK2:=((hK'.drewN (nq+1)).storeRow (hR'.drewN (nq+1)) M (.int .u8 ((x ||| p*2^(f-kk):Nat):Int))).store 1 (.int .i64 (↑N+↑kk))
     rw [hq]
     refine ⟨⟨r-kk,L++Qh p kk,N+kk,by omega,Qa ?_,Qa hlen2,by omega,by rw [Int.ofNat_sub hkr],⟨.slice (some ⟨gd,0,none⟩) (M+1) cp,_,?_,?_,hpks,hne'⟩,hbl2,hK2⟩,by simp [intOf];omega⟩
     ·rw [HL.out,List.append_assoc,HP.out]
      congr 1
      rw [show k-(r-kk)=(k-r)+kk by omega,Jz (y / 2^(r-kk)) (k-r) kk,Nat.div_div_eq_div_mul,←Nat.pow_add,show r-kk+kk=r by omega]
     ·rw [hlen2];simpa using hhas
     ·rw [hor.len];exact hrow
  ·go_wp2
   go_end0
   have hr0:r=0:=by omega
   subst hr0
   have hLL:=HL.out
   simp only [Nat.pow_zero,Nat.div_one,Nat.sub_zero] at hLL
   subst hLL
   exact ⟨rfl,⟨v,D,hB,hR,hP,hne⟩,hbl,hK⟩
theorem zM (l:List Nat) (h:∀ b∈l,b<2):Qh (num l) l.length=l:=by
 induction l with
 | nil=>rfl
 | cons b l ih =>
   have hb:=h b (by simp)
   have ih':=ih fun c hc=>h c (by simp [hc])
   have hlt:=YV l fun c hc=>h c (by simp [hc])
   have e:num (b::l)=b*2^l.length+num l:=by
    have:=JQ [b] l
    simpa [num] using this
   rw [List.length_cons,show l.length+1=1+l.length by omega,e,Jz,Nat.add_comm (b*_),Nat.add_mul_div_right _ _ (Nat.two_pow_pos _),Nat.div_eq_of_lt hlt,Nat.add_mul_mod_self_right,Nat.mod_eq_of_lt hlt,ih']
   simp [Qh];omega
theorem ZH (g base:Nat) (l:List Nat) (s:ByteArray) (n:Nat) (w:World) (h:Qp w base g l) (hg:base≤g) (hbase:base≤w.heap.size) (hok:okB s n=true) (hl:l.length+n≤400000) :
 Calls Tryz.prog 36 #[.pointer (some ⟨g,0,none⟩),.agg #[.string s,.int .i64 n]] w fun e w'=>e=.returned (.tuple #[])∧Qp w' base g (l++row s 0 n)∧Below base w w'∧QG g w w':=by
 have hroom:=qL hok
 have hgl:=h.lt
 have hW2:=(h.alloc (.cells #[.string s,.int .i64 n] 32)).alloc (.cells #[.string s,.int .i64 0] 105)
 go_enter Tryz.func36,Tryz.ntmps36
 go_wp2
 go_loopg [5] n (fun gk v wr=>∃ a:Nat,Hid (a+gk=n)∧a≤n∧Has wr w.heap.size 32 #[.string s,.int .i64 n]∧Has wr (w.heap.size+1) 105 #[.string s,.int .i64 a]∧Qp wr base g (l++row s 0 a)∧Below base w wr∧QG g w wr)
 case atStart =>
  refine ⟨0,Qa (by omega),by omega,(Has.fresh w _ _).alloc _,Has.freshAt (by simp) _ _,?_,?_,((QG.refl _ _).alloc _).alloc _⟩
  ·simpa [row] using hW2
  ·exact ((Below.refl _ _).alloc hbase _).alloc (by simp;omega) _
 case round =>
  obtain ⟨a,Ha,han,hB,hRd,hW,hbl,hK⟩:=hrel
  have c0:=hB.cell 0
  have c1:=hB.cell 1
  have d0:=hRd.cell 0
  have d1:=hRd.cell 1
  simp at c0 c1 d0 d1
  by_cases hlt:a<n
  ·by_cases hm:n-a≤32
   ·obtain ⟨kk,hkk⟩:∃ kk:Nat,kk=n-a:=⟨_,rfl⟩
    have e1:((n:Int)-(a:Int))=(kk:Int):=by omega
    have h0k:0<kk:=by omega
    have hkn:a+kk≤n:=by omega
    have hk32:kk≤32:=by omega
    clear hkk hm
    go_wp2_with fail
    refine (AHa s a kk _ _ _ (by omega) (by omega) (by omega) hRd).mono ?_
    rintro e w1 ⟨rfl,hRd1,hO1⟩
    have hB1:=hO1.has hB (by omega)
    have hW1:=hW.only hO1 hRd (by decide) (by omega)
    have hbl1:Below base w w1:=hbl.trans (hO1.below (by omega) (by have:=hbl.size;omega))
    have hK1:QG g w w1:=fun b o q1 q2 q3=>(hO1.block b (Js (hK b o q1 q2 q3)) (by have:=Js q3;simp;omega)).trans (hK b o q1 q2 q3)
    clear hB hRd hW hO1
    go_wp2_with fail
    refine (QS g base _ _ kk _ hW1 hg (by have:=hbl1.size;omega) (by omega) (qX s a kk) (by rw [List.length_append,ZY];omega)).mono ?_
    rintro e w2 ⟨rfl,hW2',hbl2,hK2⟩
    have hB2:=hK2.has (by omega) (by decide) hB1
    have hRd2:=hK2.has (by omega) (by decide) hRd1
    have hnn:=zM (row s a kk) (qI s a kk)
    rw [ZY] at hnn
    rw [hnn,List.append_assoc,show row s 0 a++row s a kk=row s 0 (a+kk) by rw [xy,Nat.zero_add]] at hW2'
    clear hW1 hB1 hRd1 hnn
    go_wp2
    go_roundg (gk-kk)
    case rel=>exact ⟨a+kk,Qa (by have:=Ha.out;omega),by omega,hB2,hRd2,hW2',hbl1.trans hbl2,hK1.trans hK2⟩
    case measure=>have:=Ha.out;omega
   ·go_wp2_with fail
    refine (AHa s a 32 _ _ _ (by omega) (by omega) (by omega) hRd).mono ?_
    rintro e w1 ⟨rfl,hRd1,hO1⟩
    have hB1:=hO1.has hB (by omega)
    have hW1:=hW.only hO1 hRd (by decide) (by omega)
    have hbl1:Below base w w1:=hbl.trans (hO1.below (by omega) (by have:=hbl.size;omega))
    have hK1:QG g w w1:=fun b o q1 q2 q3=>(hO1.block b (Js (hK b o q1 q2 q3)) (by have:=Js q3;simp;omega)).trans (hK b o q1 q2 q3)
    clear hB hRd hW hO1
    go_wp2_with fail
    refine (QS g base _ _ 32 _ hW1 hg (by have:=hbl1.size;omega) (by omega) (qX s a 32) (by rw [List.length_append,ZY];omega)).mono ?_
    rintro e w2 ⟨rfl,hW2',hbl2,hK2⟩
    have hB2:=hK2.has (by omega) (by decide) hB1
    have hRd2:=hK2.has (by omega) (by decide) hRd1
    have hnn:=zM (row s a 32) (qI s a 32)
    rw [ZY] at hnn
    rw [hnn,List.append_assoc,show row s 0 a++row s a 32=row s 0 (a+32) by rw [xy,Nat.zero_add]] at hW2'
    clear hW1 hB1 hRd1 hnn
    go_wp2
    go_roundg (gk-32)
    case rel=>exact ⟨a+32,Qa (by have:=Ha.out;omega),by omega,hB2,hRd2,hW2',hbl1.trans hbl2,hK1.trans hK2⟩
    case measure=>have:=Ha.out;omega
  ·have hn:a=n:=by omega
   subst hn
   go_wp2
   go_end0
   exact ⟨rfl,hW,hbl,hK⟩
theorem ADj (s:ByteArray) (n:Nat) (s2:ByteArray) (m:Nat) (w:World) (hs:s.size≤maxLen) (hs2:s2.size≤maxLen) (hok:okB s n=true) (hok2:okB s2 m=true) (hr:n+m≤400000) :
 Calls Tryz.prog 79 #[.agg #[.string s,.int .i64 n],.agg #[.string s2,.int .i64 m]] w fun e w' =>
  ∃ D,Packs D (row s 0 n++row s2 0 m)∧e=.returned (.tuple #[.agg #[.string (Qg D),.int .i64 ((n+m:Nat):Int)],.bool true])∧Below w.heap.size w w':=by
 have hroom:=qL hok
 have hroom2:=qL hok2
 have hfit:¬ ((400000:Int)-n<m):=by omega
 go_enter Tryz.func79,Tryz.ntmps79
 go_wp2_with fail
 refine (qn s n _ hs (by omega) (by omega)).mono ?_
 rintro e wa ⟨rfl,Ba⟩
 obtain ⟨Ca,Fa,La⟩:=AGa Ba
 have ya:=Ba.size;(try simp at ya)
 have za:w.heap.size+1<wa.heap.size:=by omega
 have za2:w.heap.size<wa.heap.size:=by omega
 go_wp2_with fail
 refine (qn s2 m _ hs2 (by omega) (by omega)).mono ?_
 rintro e wb ⟨rfl,Bb⟩
 obtain ⟨Cb,Fb,Lb⟩:=AGa Bb
 have yb:=Bb.size;(try simp at yb)
 have zb:w.heap.size+1<wb.heap.size:=by omega
 have zb2:w.heap.size<wb.heap.size:=by omega
 go_wp2_with fail
 refine (Zw s n _ hok).mono ?_
 rintro e wc ⟨g,rfl,hW,hg,Bc⟩
 have yc:=Bc.size
 have yg:=hW.lt
 obtain ⟨Cc,Fc,Lc⟩:=AGa Bc
 have zc:w.heap.size+1<wc.heap.size:=by omega
 have zc2:w.heap.size<wc.heap.size:=by omega
 go_wp2_with fail
 refine (ZH g wb.heap.size _ s2 m _ hW hg (by omega) hok2 (by rw [ZY];omega)).mono ?_
 rintro e wd ⟨rfl,hW2,Bd,_⟩
 have yd:=Bd.size
 go_wp2_with fail
 refine (Xm g _ _ _ hW2).mono ?_
 rintro e we ⟨D,hD,rfl,Be⟩
 have ye:=Be.size
 have hlen:(row s 0 n++row s2 0 m).length=n+m:=by rw [List.length_append,ZY,ZY]
 have hR:=(((((Has.freshAt (by simp) 32 #[.string ⟨#[]⟩,.int .i64 0]:Has (((w.alloc (.cells #[.string s,.int .i64 n] 32)).alloc (.cells #[.string s2,.int .i64 m] 32)).alloc _) (w.heap.size+1+1) _ _).below Ba (by (try simp);(try omega))).below Bb (by omega)).below Bc (by omega)).below Bd (by omega)).below Be (by omega)
 have e0:=hR.cell 0
 have e1:=hR.cell 1
 have g0:=hR.free 0
 have g1:=hR.free 1
 simp at e0 e1
 rw [hlen]
 clear hR hW hW2 Ca Fa La Cb Fb Lb Cc Fc Lc
 go_wp2
 refine bodyPost_ret (v:=.tuple #[.agg #[.string (Qg D),.int .i64 ((n+m:Nat):Int)],.bool true]) (by simp [results,Tryz.results79,go_sem,e0,e1,g0,g1]) rfl ⟨D,hD,rfl,?_⟩
 repeat (first | exact Below.refl _ _ | assumption | refine Below.alloc ?_ (by (try simp);(try omega)) _ | refine Below.setCell ?_ (by (try simp);(try omega)) _ | refine Below.drew ?_ | refine Qc (by assumption) (by (try simp);(try omega)) ?_ | refine VA (by assumption) (by (try simp);(try omega)) (by (try simp);(try omega)) ?_ | refine VG (by assumption) (by (try simp);(try omega)) ?_)
theorem xd (s:ByteArray) (h:s.size≤50000):okB s ((8*s.size:Nat):Int)=true:=by
 rw [YP];exact ⟨by omega,by omega,fun k h1 h2=>by omega⟩
theorem AIg {s:ByteArray} {D:List Nat} (h:s.size≤50000) (hD:Packs D (row ⟨#[]⟩ 0 0++row s 0 (8*s.size))):Qg D=s:=by
 have:=hD.unique (by simpa [row] using zy (xd s h))
 rw [this,Yv]
theorem AAb (s:ByteArray) (w:World) (hs:s.size≤50000) :
 Calls Tryz.prog 40 #[.string s] w fun e w'=>e=.returned (.tuple #[.agg #[.string s,.int .i64 ((8*s.size:Nat):Int)],.bool true])∧Below w.heap.size w w':=by
 have hj:=fun W=>ADj ⟨#[]⟩ 0 s (8*s.size) W (Nat.zero_le _) (by unfold maxLen;omega) (by decide) (xd s hs) (by omega)
 go_enter Tryz.func40,Tryz.ntmps40
 go_wp2_with fail
 have q1:(((8*s.size:Nat)):Int)=8*(s.size:Int):=by omega
 simp only [q1] at hj
 refine (hj _).mono ?_
 rintro e wa ⟨D,hD,rfl,Ba⟩
 have ya:=Ba.size;(try simp at ya)
 have hR:=((Has.fresh w 32 #[.string ⟨#[]⟩,.int .i64 0]).below Ba (by (try simp);(try omega)))
 have e0:=hR.cell 0
 have e1:=hR.cell 1
 have g0:=hR.free 0
 have g1:=hR.free 1
 simp at e0 e1
 rw [AIg hs hD,Nat.zero_add]
 clear hR hj
 go_wp2
 refine bodyPost_ret (v:=.tuple #[.agg #[.string s,.int .i64 ((8*s.size:Nat):Int)],.bool true]) (by simp [results,Tryz.results40,go_sem,e0,e1,g0,g1]) rfl ⟨rfl,?_⟩
 repeat (first | exact Below.refl _ _ | assumption | refine Below.alloc ?_ (by (try simp);(try omega)) _ | refine Below.setCell ?_ (by (try simp);(try omega)) _ | refine Below.drew ?_ | refine Qc (by assumption) (by (try simp);(try omega)) ?_ | refine VA (by assumption) (by (try simp);(try omega)) (by (try simp);(try omega)) ?_ | refine VG (by assumption) (by (try simp);(try omega)) ?_)
end Go.Proofs.YtembljihmnmmfaaGreat
