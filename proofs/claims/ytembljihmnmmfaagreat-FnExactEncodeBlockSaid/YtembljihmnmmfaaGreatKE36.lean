/- Texts of the proof, merged. -/
import Derived.Test.YtembljihmnmmfaaGreatKE24
import Derived.Test.YtembljihmnmmfaaGreatKE17
import Derived.Test.YtembljihmnmmfaaGreatKE6
import Derived.Deep.RegionHeld3
import Derived.Test.YtembljihmnmmfaaGreatKE13
import Derived.Test.YtembljihmnmmfaaGreatKE3
import Derived.Test.YtembljihmnmmfaaGreatKE2
import Derived.RegionTactic
import Derived.ChangeAlike
namespace Go.Proofs.YtembljihmnmmfaaGreat
set_option maxHeartbeats 8000000
set_option maxRecDepth 100000
set_option linter.unusedVariables false
set_option linter.unusedSimpArgs false
open Go.RowKit
theorem Tryz.infoIntRow:(Tryz.prog.info? 24).map (fun i=>(i.zero,i.size,i.bytes))=some (some (.slice none 0 0),1,24):=by kernel_rfl
theorem Vx {S G:List Int} {T:List (List Int)} (h:cdOk S T G=true):CdArg S T G (tbN T):=by
 obtain ⟨h1,h2,h3,h4⟩:=(zo S T G).1 h
 obtain ⟨⟨h5,h6⟩,h7⟩:=(XS _ _).1 h1
 obtain ⟨_,h10,h11⟩:=(Js _ _).1 h2
 exact ⟨fun j hj=>⟨by have:=(h7 j hj).1;omega,(h7 j hj).2⟩,((Zv _ _).1 h4).2,h3,h11⟩
theorem QU.grownR {w w':World} {base b2 n:Nat} {V xs:List Value} {T:List (List Int)} {vo:Value} (h:QU w base V T) (hown:w.ownsRow b2 24 1 vo n xs) (hg:w.grownBy w' vo.ownBlock):QU w' base V T :=
 ⟨h.1,fun j hj=>Qt (h.2 j hj) hg (fun g h1=>Qy (h.2 j hj) hown (by decide) h1)⟩
theorem QU.code {w:World} {base:Nat} {V:List Value} {T:List (List Int)} {M k:Nat} (h:QU w base V (cdT T M)) (hk:k<M) (hok:lOk (T.getD k [])=true):w.ownsRow base 3 1 (V.getD k undef) (T.getD k []).length (nats (T.getD k []).length (cdF (T.getD k []))):=by
 have:=h.2 k (by rw [ALe];exact hk)
 rw [AXp T M k hk,Ql,QB,AFx hok,ALx hok] at this
 exact this
theorem yE (a at2 a3:Option Addr) (cap capT cap3 B:Nat) (S G:List Int) (T:List (List Int)) (w:World) (hz:Ints w B a S) (hT:Tabs w B at2 T) (hz3:Ints w B a3 G) (hB:B≤w.heap.size) (hok:cdOk S T G=true) :
 Calls Tryz.prog 73 #[.slice a S.length cap,.slice at2 T.length capT,.slice a3 G.length cap3] w fun e w'=>∃ v,e=.returned v∧w'.ownsRow w.heap.size 5 1 v (cpN S T G S.length) (u8s (cpF S T G S.length))∧Below w.heap.size w w':=by
 obtain ⟨i0,hi,hz0,hz1,hz2'⟩:=info_parts Tryz.info5
 obtain ⟨j0,ji,jz0,jz1,jz2⟩:=info_parts Tryz.infoIntRow
 have HA:=Qa (Vx hok)
 obtain ⟨_,hM1,hM4,hn1,hn2,hGl,_,_⟩:=jD hok
 have hSl:=(jD hok).1.2.2
 have HLE:=Qa (qC HA.out)
 have HST:Hid (∀ i,cpF S T G (i+1)=cpF S T G i++Yi (JV T G i) (S.getD i 0).toNat):=Qa (fun i=>rfl)
 have HSN:Hid (∀ i,cpN S T G (i+1)=cpN S T G i+lnF (JV T G i) (S.getD i 0).toNat):=Qa (fun i=>rfl)
 have HZ:=Qa hz
 have HT:=Qa hT
 have HZ3:=Qa hz3
 obtain ⟨Q,hQ⟩:∃ Q,G.length=Q:=⟨_,rfl⟩
 obtain ⟨M,hM⟩:∃ M,T.length=M:=⟨_,rfl⟩
 obtain ⟨N,hN⟩:∃ N,S.length=N:=⟨_,rfl⟩
 obtain ⟨n,hn⟩:∃ n,tbN T=n:=⟨_,rfl⟩
 have HN:=Qa hN
 have HM:=Qa hM
 have HQ:=Qa hQ
 rw [hn] at HA hn1 hn2
 rw [hM] at hM1 hM4 ⊢
 rw [hN] at hSl HLE ⊢
 rw [hQ]
 clear hz hT hz3 hok hGl hQ hM hN hn
 go_enter Tryz.func73,Tryz.ntmps73
 go_wp2
 go_loopw [8,9] (fun vo st wr=>∃ (t:Nat) (V:List Value),t≤M∧st=.int .i64 t∧wr.ownsRow w.heap.size 24 1 vo t V∧Hid (QU wr w.heap.size V (cdT T t))∧Below w.heap.size w wr) (fun _ st _=>M-(intOf st).toNat)
 case atStart=>exact ⟨0,[],by omega,rfl,World.ownsRow_nil _ _ _ _,Qa (QU.nil _ _),Below.refl _ _⟩
 case round =>
  obtain ⟨t,V,ht,rfl,hown,HR,hbl⟩:=hrel
  obtain ⟨u,hu⟩:∃ u,u=wr:=⟨_,rfl⟩
  subst hu
  by_cases hlt:t<M
  ·have hsz:=hbl.size
   obtain ⟨tb,to,at4,ct4,rfl,htb,ck,hck,zk⟩:=(HT.out.below (hbl.mono hB)).at (i:=t) (by rw [HM.out];exact hlt)
   obtain ⟨l1,l2⟩:=HA.out.tab t (by rw [HM.out];exact hlt)
   rw [l1] at ck hck
   have K:=Qa (ACp at4 ct4 B (T.getD t []) u zk (Nat.le_trans hB hsz) l2)
   rw [l1] at K
   have HCD:Hid (nats n (cdF (T.getD t []))=Qn (ints (cdL (T.getD t [])))∧(ints (cdL (T.getD t []))).length=n):=Qa (by
    rw [QB,AFx l2,Ql,ALx l2,l1];exact ⟨rfl,rfl⟩)
   have HO:=Qa hown
   have HBL:=Qa hbl
   clear hown hbl zk l1 l2
   go_wp2_with fail
   refine K.out.mono ?_
   rintro e w3 ⟨vl,rfl,o3,b3⟩
   obtain ⟨al,cl,rfl⟩:=Qv o3
   have hB3:=Qc b3 HBL.out.size HBL.out
   have hs3:=hB3.size
   have HR3:=Qa (HR.out.below b3)
   have hO3:=Qd HO.out b3
   have HV3:Hid (w3.ownsRow w.heap.size 3 1 (.slice al n cl) (ints (cdL (T.getD t []))).length (Qn (ints (cdL (T.getD t []))))):=Qa (by
    rw [←HCD.out.1,HCD.out.2]
    exact ZG o3 hsz)
   clear K o3 b3
   go_wp2_with (at_builtin;refine wpList_append_own _ rfl _ _ 124 rfl w.heap.size 24 j0 (.slice none 0 0) 1 24 Tryz.underlying124 ji jz0 jz1 jz2 rfl (by decide) _ _ _ rfl (hO3.alloc _) ⟨w3.heap.size,0,none⟩ 1 1 [.slice al n cl] rfl rfl ?c1 ?c2 ?c3 ?c4 ?c5 ?_)
   case c1=>exact cell_one_new _ _ _
   case c2=>exact fun u hu=>by simp at hu;subst hu;rfl
   case c3=>unfold maxLen;omega
   case c4=>omega
   case c5=>first | omega | (simp;omega)
   intro v5 w5 hown5 hgrow _
   have hb5:=Zl hB3 hs3 hO3 hgrow
   have HR5:Hid (QU w5 w.heap.size (V++[.slice al n cl]) (cdT T (t+1))):=Qa (by
    rw [ATn]
    have ha:Below w3.heap.size w3 (w3.alloc (.cells #[.slice al n cl] 24)):=(Below.refl _ _).alloc (Nat.le_refl _) _
    have h1:QU w3 w.heap.size V (cdT T t):=HR3.out
    have h2:=(Qd HV3.out ha)
    rw [HCD.out.2] at h2
    exact QU.snoc ((h1.below ha).grownR (hO3.alloc _) hgrow) (by
     rw [HCD.out.2]
     exact Qt h2 hgrow (fun g h1=>Qy h2 (hO3.alloc _) (by decide) h1)))
   have HO5:=Qa hown5
   clear hO3 hown5 hgrow hB3
   go_wp2
   go_roundw
   case rel=>exact ⟨t+1,V++[.slice al n cl],by omega,by go_num,HO5.out,HR5,hb5⟩
   case measure=>simp [intOf];omega
  ·obtain rfl:t=M:=by omega
   obtain ⟨gc,cc,hvc⟩:=Joins.ownsRow_form hown (by omega)
   subst hvc
   have hgc:=hown.lt gc rfl
   have hsz:=hbl.size
   have HOC:=Qa hown
   have HBL:=Qa hbl
   clear hown hbl
   go_wp2
   go_loopw [7,10,11] (fun vo si _ wx=>∃ i:Nat,i≤N∧si=.int .i64 i∧wx.ownsRow u.heap.size 5 1 vo (cpN S T G i) (u8s (cpF S T G i))∧Below u.heap.size u wx) (fun _ si _ _=>N-(intOf si).toNat)
   case atStart=>exact ⟨0,Nat.zero_le _,rfl,by exact World.ownsRow_nil _ _ _ _,Below.refl _ _⟩
   case round =>
    obtain ⟨i,hi2,rfl,hownO,hbx⟩:=hrel
    have hszx:=hbx.size
    by_cases hil:i<N
    ·obtain ⟨k,x,hk,hxn,e1,e2,e3,hgi⟩:=HA.out.of (i:=i) (by rw [HN.out];exact hil)
     rw [HM.out] at hk
     rw [HQ.out] at hgi
     have bw:Below w.heap.size w wr:=HBL.out.trans (hbx.mono hsz)
     obtain ⟨b,off,f1,hb,hcell⟩:=(HZ.out.below (bw.mono hB)).2.2 (by rw [HN.out];omega)
     obtain ⟨b3,off3,f3,hb3,hcell3⟩:=(HZ3.out.below (bw.mono hB)).2.2 (by rw [HQ.out];omega)
     obtain ⟨tb,to,at4,ct4,f2,htb,ct,hct,zk⟩:=(HT.out.below (bw.mono hB)).at (i:=k) (by rw [HM.out];exact hk)
     obtain ⟨l1,l2⟩:=HA.out.tab k (by rw [HM.out];exact hk)
     rw [l1] at ct hct
     have ck:=hcell i (by rw [HN.out];exact hil)
     have cg:=hcell3 (i / 10) (by rw [HQ.out];exact hgi)
     rw [e2] at ck
     rw [e1] at cg
     obtain ⟨b4,off4,f4,hb4,hcell4⟩:=zk.2.2 (by rw [l1];omega)
     have cl:=hcell4 x (by rw [l1];exact hxn)
     have hcd:=HR.out.code (k:=k) (by omega) l2
     rw [l1] at hcd
     obtain ⟨gk,hlk,hvk⟩:=Joins.ownsRow_form hcd (by omega)
     have hgk:=hcd.lt gk (by rw [hvk];rfl)
     have cc0:=(Qd HOC.out hbx).cellAt k (by omega)
     have hVk:V[k]? = some (V.getD k undef):=by
      have:k<V.length:=by have:=HR.out.1;rw [ALe] at this;omega
      rw [List.getD_eq_getElem?_getD,List.getElem?_eq_getElem this];rfl
     rw [hVk,hvk] at cc0
     rw [hvk] at hcd
     have cv:=(Qd hcd hbx).cellAt x (by omega)
     rw [Qx _ _ x hxn] at cv
     have hln:=QZ (Za l2) x (by rw [l1];exact hxn)
     rw [Jw (Za l2) x (by rw [l1];exact hxn)] at cl
     have hcl:=jZ l2 x (by rw [l1];exact hxn)
     have hnx:=HST.out i
     have hnn:=HSN.out i
     rw [e3,e2,Int.toNat_natCast] at hnx hnn
     unfold Yi at hnx
     have hle:=HLE.out i (by omega)
     obtain ⟨y,hy⟩:∃ y,lnF (T.getD k []) x=y:=⟨_,rfl⟩
     obtain ⟨c,hcy⟩:∃ c,cdF (T.getD k []) x=c:=⟨_,rfl⟩
     rw [hy] at cl hln hnx hnn
     rw [hcy] at cv hcl hnx
     have HK:=Qa (fun W=>QY c y W (by omega) (by omega))
     obtain ⟨p,hp⟩:∃ p,cpN S T G i=p:=⟨_,rfl⟩
     obtain ⟨Pp,hPp⟩:∃ Pp,cpF S T G i=Pp:=⟨_,rfl⟩
     rw [hp,hPp] at hownO
     rw [hp] at hle hnn
     rw [hPp] at hnx
     have HNX:=Qa hnx
     have HNN:=Qa hnn
     have hq:(i:Int).tdiv 10=((i / 10:Nat):Int):=by rw [Int.tdiv_eq_ediv_of_nonneg (by omega)];omega
     have hq2:(i:Int) / 10=((i / 10:Nat):Int):=by omega
     obtain ⟨d,hd⟩:∃ d,i / 10=d:=⟨_,rfl⟩
     rw [hd] at cg hgi hq hq2
     have m1:(x:Int)<(n:Int):=by omega
     have m2:(0:Int)≤(x:Int):=by omega
     have m3:(i:Int)<(N:Int):=by omega
     have m4:(0:Int)≤(i:Int):=by omega
     have m5:(k:Int)<(t:Int):=by omega
     have m6:(0:Int)≤(k:Int):=by omega
     have q1:b<wr.heap.size:=by omega
     have q2:tb<wr.heap.size:=by omega
     have q3:b4<wr.heap.size:=by omega
     have q4:gc<wr.heap.size:=by omega
     have q5:gk<wr.heap.size:=by omega
     have bb:Below u.heap.size u wr:=hbx
     have hl8:(u8s (Qe c y)).length=y*1:=by rw [QS,QD];omega
     have hm8:p+y≤maxLen:=by unfold maxLen;omega
     have hb8:(p+y)*1≤140737488355328:=by omega
     subst f1 f2 f3 f4
     clear hcell hcell3 hcell4 zk hcd hvk hVk hcy hy hp hPp e1 e2 e3 hd l1 l2 hnx hnn bw hbx
     go_wp2
     go_region_held3 (fun w'=>w'.cell? ⟨b,off+i,none⟩=some (.int .i64 (x:Int))∧w'.cell? ⟨tb,to+k,none⟩=some (.slice (some ⟨b4,off4,none⟩) n ct4)∧w'.cell? ⟨b4,off4+x,none⟩=some (.int .i64 (y:Int))∧w'.cell? ⟨gc,k,none⟩=some (.slice (some ⟨gk,0,none⟩) n hlk)∧w'.cell? ⟨gk,x,none⟩=some (.int .i64 (c:Int))) (go_keep) (first | (go_at_call 64;refine (HK.out _).mono ?_;rintro e wp ⟨rfl,hownN,Bp⟩;have g1:=(Bp.cell (p:=⟨b,off+i,none⟩) q1).trans ck;have g2:=(Bp.cell (p:=⟨tb,to+k,none⟩) q2).trans ct;have g3:=(Bp.cell (p:=⟨b4,off4+x,none⟩) q3).trans cl;have g4:=(Bp.cell (p:=⟨gc,k,none⟩) q4).trans cc0;have g5:=(Bp.cell (p:=⟨gk,x,none⟩) q5).trans cv;have hownP:=AWv hownO (fun i hi=>Bp.block i hi);have bP:Below u.heap.size u wp:=Qc Bp hszx ⟨bb.os,bb.tape,bb.output,bb.size,bb.block⟩) | (refine vi _ (by rfl) _ _ _ (by rfl) u.heap.size 5 i0 (.int .u8 0) 1 1 Tryz.underlying61 hi hz0 hz1 hz2' (by rfl) (by decide) u7 p _ (by rfl) (by exact hownP) ⟨wr.heap.size,0,none⟩ y y (u8s (Qe c y)) (by rfl) hl8 (AVn hownN) (QC _) hm8 hb8 (by exact bP.size) ?_;intro v2 wB oB gB;have k1:=JS gB g1 (Yy hownP (by show b<u.heap.size;omega));have k2:=JS gB g2 (Yy hownP (by show tb<u.heap.size;omega));have k3:=JS gB g3 (Yy hownP (by show b4<u.heap.size;omega));have k4:=JS gB g4 (Yy hownP (by show gc<u.heap.size;omega));have k5:=JS gB g5 (Yy hownP (by show gk<u.heap.size;omega));have bB:Below u.heap.size u wB:=bP.grown gB bP.size (fun b hb=>(hownP.lt b hb).1)))
     all_goals
      have oB2:wB.ownsRow u.heap.size 5 1 v2 (cpN S T G (i+1)) (u8s (cpF S T G (i+1))):=by
       rw [HNX.out,HNN.out,Qq];exact oB
      go_wp2
      exact ⟨⟨i+1,by omega,by go_num,oB2,bB⟩,by simp [intOf];omega⟩
    ·obtain rfl:i=N:=by omega
     have BB:=Qc hbx hsz HBL.out
     have OO:=ZG hownO hsz
     clear hownO hbx
     go_wp2
     go_ret
     exact ⟨_,rfl,OO,BB⟩
theorem Tabs.keep {w w':World} {B:Nat} {a:Option Addr} {T:List (List Int)} (h:Tabs w B a T) (hk:∀ p:Addr,p.block<B→w'.cell? p=w.cell? p):Tabs w' B a T :=
 ⟨h.1,fun h0=>by
  obtain ⟨b,off,e,hB,hc⟩:=h.2 h0
  refine ⟨b,off,e,hB,fun i hi=>?_⟩
  obtain ⟨v,hv,a2,c2,e2,h1,h2⟩:=hc i hi
  exact ⟨v,(hk ⟨b,off+i,none⟩ hB).trans hv,a2,c2,e2,h1,h2.keep hk⟩⟩
def gdOk (T:List (List Int)) (G:List Int):Bool:=tbOk T (tbN T) && (decide (G.length≤600) && ZI T.length G)
theorem yf (T:List (List Int)) (G:List Int):gdOk T G=true↔tbOk T (tbN T)=true∧G.length≤600∧ZI T.length G=true:=by
 unfold gdOk;rw [Bool.and_eq_true,Bool.and_eq_true,decide_eq_true_eq]
end Go.Proofs.YtembljihmnmmfaaGreat
