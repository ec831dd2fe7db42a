/- Texts of the proof, merged. -/
import Derived.Maps.AppendAt
import Derived.OwnWalk
import Derived.Deep.RegionHeld3
import Derived.Test.YtembljihmnmmfaaGreatKE3
import Derived.RegionTactic
import Derived.ChangeAlike
import Derived.Deep.QuietTactic
import Derived.BigQuiet
import Derived.Test.YtembljihmnmmfaaGreatKE5
namespace Go.Proofs.YtembljihmnmmfaaGreat
set_option maxHeartbeats 4000000
set_option maxRecDepth 100000
set_option linter.unusedVariables false
set_option linter.unusedSimpArgs false
open Go.RowKit
theorem ADm (a:Option Addr) (cap B:Nat) (ls:List Int) (w:World) (hz:Ints w B a ls) (hB:B≤w.heap.size) (hok:lOk ls=true) :
 Calls Tryz.prog 151 #[.slice a ls.length cap] w fun e w'=>∃ v,e=.returned v∧w'.ownsRow w.heap.size 3 1 v ls.length (Qg (ordF ls))∧Below w.heap.size w w':=by
 obtain ⟨i0,hi,hz0,hz1,hz2⟩:=info_parts Tryz.infoInt
 have hr:=Za hok
 have K1:=Qa (AAi a cap B ls w hz)
 rw [hok] at K1
 have HLEN:=Qa (jM hr)
 have HLN:Hid (∀ s,s<ls.length→ls.getD s 0=(lnF ls s:Int)):=Qa (fun s hs=>Jw hr s hs)
 have HO:Hid (ordF ls=ordU ls.length (lnF ls) 20):=Qa rfl
 obtain ⟨n,hn⟩:∃ n,ls.length=n:=⟨_,rfl⟩
 have hn1:1≤n:=by rw [←hn];exact hr.1
 have hn2:n≤260:=by rw [←hn];exact hr.2.1
 obtain ⟨b,off,rfl,hb,hc⟩:=hz.2.2 (by omega)
 have HC:=Qa hc
 obtain ⟨l,hl⟩:∃ l,lnF ls=l:=⟨_,rfl⟩
 rw [hn] at K1 HLEN HLN HC HO ⊢
 rw [hl] at HLN HO
 have hbw:b<w.heap.size:=by omega
 clear hz hr hn hc hok hl
 go_enter Tryz.func151,Tryz.ntmps151
 go_wp2_with fail
 refine K1.out.mono ?_
 rintro e w' ⟨rfl,rfl⟩
 go_wp2
 go_loopw [3,4] (fun v sn wr=>∃ m:Nat,m≤20∧sn=.int .i64 ((m:Int)+1)∧wr.ownsRow w'.heap.size 3 1 v (ordU n l m).length (Qg (ordU n l m))∧Below w'.heap.size w' wr) (fun _ sn _=>21-(intOf sn).toNat)
 case atStart=>exact ⟨0,Nat.zero_le _,rfl,World.ownsRow_nil _ _ _ _,Below.refl _ _⟩
 case round =>
  obtain ⟨m,hm,rfl,hown,hbl⟩:=hrel
  by_cases hm20:m<20
  ·have hmI:(m:Int)+1≤20:=by omega
   have e0:ordU n l m++QV n l (m+1) 0=ordU n l m:=by simp [QV]
   go_wp2
   go_loopw [3,5] (fun v si wx=>∃ i:Nat,i≤n∧si=.int .i64 i∧wx.ownsRow w'.heap.size 3 1 v (ordU n l m++QV n l (m+1) i).length (Qg (ordU n l m++QV n l (m+1) i))∧Below w'.heap.size w' wx) (fun _ si _=>n-(intOf si).toNat)
   case atStart=>exact ⟨0,Nat.zero_le _,rfl,by rw [e0];exact hown,hbl⟩
   case round =>
    obtain ⟨i,hi1,rfl,hown1,hbl1⟩:=hrel
    have hsz:=hbl1.size
    by_cases hlt:i<n
    ·have ck:=(hbl1.cell (p:=⟨b,off+i,none⟩) hbw).trans (HC.out i hlt)
     rw [HLN.out i hlt] at ck
     have hP:=Yp n l m i (by omega)
     obtain ⟨P,hPe⟩:∃ P,ordU n l m++QV n l (m+1) i=P:=⟨_,rfl⟩
     rw [hPe] at hown1 hP
     by_cases he:l i=m+1
     ·have heI:((l i:Int) == (m:Int)+1)=true:=by rw [beq_iff_eq];omega
      have HN:Hid (ordU n l m++QV n l (m+1) (i+1)=P++[i]):=Qa (by rw [JP,if_pos he,←List.append_assoc,hPe])
      have hPl:P.length<n:=by
       have:=Yp n l m (i+1) (by omega)
       rw [HN.out] at this;simp at this;omega
      obtain ⟨p,hp⟩:∃ p,P.length=p:=⟨_,rfl⟩
      rw [hp] at hown1 hPl
      have HPL:=Qa hp
      clear hPe he hP hp
      go_wp2_with (at_builtin;refine wpList_append_own_at _ rfl _ _ 24 rfl w'.heap.size 3 i0 (.int .i64 0) 1 8 Tryz.underlying24 hi hz0 hz1 hz2 rfl (by decide) _ _ _ rfl (hown1.alloc _) ⟨wr.heap.size,0,none⟩ 1 1 [.int .i64 (i:Int)] rfl rfl ?ca2 ?ca3 ?ca4 ?ca5 ?ca6 ?_)
      case ca2=>exact Ju _ _ _
      case ca3=>exact fun u hu=>by simp at hu;subst hu;rfl
      case ca4=>unfold maxLen;omega
      case ca5=>omega
      case ca6=>simp;omega
      intro v3 w3 hown3 hgrow _ _
      have hbl3:Below w'.heap.size w' w3:=(hbl1.alloc (by omega) _).grown hgrow (by simp;omega) (fun b hb=>(hown1.lt b hb).1)
      have hownN:w3.ownsRow w'.heap.size 3 1 v3 (P++[i]).length (Qg (P++[i])):=by rw [ZH,List.length_append,HPL.out];exact hown3
      clear hown3 hgrow hown1 hbl1
      go_wp2
      go_roundw
      case rel=>exact ⟨i+1,by omega,by go_num,by rw [HN.out];exact hownN,hbl3⟩
      case measure=>simp [intOf];omega
     ·have heI:((l i:Int) == (m:Int)+1)=false:=by rw [beq_eq_false_iff_ne];omega
      have HN:Hid (ordU n l m++QV n l (m+1) (i+1)=P):=Qa (by rw [JP,if_neg he,hPe])
      clear hPe he hP
      go_wp2
      go_roundw
      case rel=>exact ⟨i+1,by omega,by go_num,by rw [HN.out];exact hown1,hbl1⟩
      case measure=>simp [intOf];omega
    ·have hin:i=n:=by omega
     subst hin
     go_wp2
     refine ⟨⟨m+1,by omega,by go_num,hown1,hbl1⟩,by simp [intOf];omega⟩
  ·have hm2:m=20:=by omega
   have HE:ordU n l m=ordF ls:=by rw [HO.out,hm2]
   rw [HE,HLEN.out] at hown
   have hmI:¬ (m:Int)+1≤20:=by omega
   clear HE HO hm2
   go_wp2
   go_ret
   exact ⟨_,rfl,hown,hbl⟩
theorem ACp (a:Option Addr) (cap B:Nat) (ls:List Int) (w:World) (hz:Ints w B a ls) (hB:B≤w.heap.size) (hok:lOk ls=true) :
 Calls Tryz.prog 111 #[.slice a ls.length cap] w fun e w'=>∃ v,e=.returned v∧w'.ownsRow w.heap.size 3 1 v ls.length (nats ls.length (cdF ls))∧Below w.heap.size w w':=by
 obtain ⟨j0,ji,jz0,jz1,jz2⟩:=info_parts Tryz.infoInt
 have hr:=Za hok
 have K1:=Qa (ADm a cap B ls w hz hB hok)
 obtain ⟨O,hO,hlen,hnd,hmem,hall,h0,hstep⟩:=AAs hr
 have HLN:Hid (∀ s,s<ls.length→ls.getD s 0=(lnF ls s:Int)∧1≤lnF ls s∧lnF ls s≤20):=Qa (fun s hs=>⟨Jw hr s hs,QZ hr s hs⟩)
 have HLT:=Qa (fun s hs=>jZ hok s hs)
 have HLEN:=Qa hlen
 have HMEM:=Qa hmem
 have HSTEP:=Qa hstep
 have H0:=Qa h0
 have HND:=Qa hnd
 have HALL:=Qa hall
 rw [hO] at K1
 clear hO hlen hnd hmem hall h0 hstep
 obtain ⟨n,hn⟩:∃ n,ls.length=n:=⟨_,rfl⟩
 have hn1:1≤n:=by rw [←hn];exact hr.1
 have hn2:n≤260:=by rw [←hn];exact hr.2.1
 obtain ⟨b,off,rfl,hb,hc⟩:=hz.2.2 (by omega)
 have HC:=Qa hc
 obtain ⟨cd,hcd⟩:∃ cd,cdF ls=cd:=⟨_,rfl⟩
 obtain ⟨l,hl⟩:∃ l,lnF ls=l:=⟨_,rfl⟩
 rw [hcd] at HSTEP H0 HLT ⊢
 rw [hl] at HLN HSTEP
 rw [hn] at K1 HLEN HLN HLT HMEM HALL HC ⊢
 have hbw:b<w.heap.size:=by omega
 clear hz hr hn hc hok hcd hl
 go_enter Tryz.func111,Tryz.ntmps111
 go_wp2_with fail
 refine K1.out.mono ?_
 rintro e w1 ⟨v,rfl,hown,hb1⟩
 obtain ⟨g1,c1,hv⟩:=Joins.ownsRow_form hown (by omega)
 subst hv
 have hnz:((n:Int) == 0)=false:=by rw [beq_eq_false_iff_ne];omega
 have hsz1:=hb1.size
 have hg1:=hown.lt g1 rfl
 go_wp2_with (at_make;refine wpList_make_full _ rfl _ _ 24 rfl w1.heap.size 3 j0 (.int .i64 0) 1 Tryz.underlying24 ji jz0 jz1 .i64 .i64 _ _ n rfl rfl rfl rfl ?cb1 ?cb2 ?cb3 ?_)
 case cb1=>rw [jz2];omega
 case cb2=>unfold maxLen;omega
 case cb3=>exact Nat.le_refl _
 intro w2 hown2 hgrow
 have hb2:Below w1.heap.size w1 w2:=⟨hgrow.os,hgrow.tape,hgrow.output,hgrow.size,fun i hi=>hgrow.block i hi (by simp)⟩
 rw [Zm] at hown2
 have HOW:=Qa hown
 clear hgrow hown
 go_wp2
 go_loopw [5] (fun si wr=>∃ k:Nat,1≤k∧k≤n∧si=.int .i64 k∧wr.ownsRow w1.heap.size 3 1 (.slice (some ⟨w1.heap.size,0,none⟩) n n) n (nats n fun s=>if s∈O.take k then cd s else 0)∧Below w1.heap.size w1 wr) (fun si _=>n-(intOf si).toNat)
 case atStart=>exact ⟨1,Nat.le_refl _,hn1,rfl,by
  rw [Qw (g:=fun _=>0) fun s hs=>?_]
  ·exact hown2
  ·by_cases h:s∈O.take 1
   ·rw [if_pos h]
    cases hOe:O with
    | nil=>rw [hOe] at h;simp at h
    | cons x T =>
      rw [hOe] at h
      simp at h
      rw [h];exact H0.out x T hOe
   ·rw [if_neg h],hb2⟩
 case round =>
  obtain ⟨k,hk1,hkn,rfl,hD,hbl⟩:=hrel
  have hW:=Qd HOW.out hbl
  have hszr:=hbl.size
  by_cases hlt:k<n
  ·obtain ⟨q,hq⟩:∃ q,k=q+1:=⟨k-1,by omega⟩
   have hkO:q+1<O.length:=by rw [HLEN.out];omega
   obtain ⟨t,ht⟩:∃ t,O[q]=t:=⟨_,rfl⟩
   obtain ⟨s,hs⟩:∃ s,O[q+1]=s:=⟨_,rfl⟩
   have hts:=HSTEP.out q t s hkO ht hs
   have htn:=HMEM.out t (by rw [←ht];exact List.getElem_mem _)
   have hsn:=HMEM.out s (by rw [←hs];exact List.getElem_mem _)
   have o0:=hW.cellAt q (by omega)
   have o1:=hW.cellAt k (by omega)
   rw [Yx O q (by omega),ht] at o0
   have hs':O[k]'(by omega)=s:=by rw [←hs];congr 1
   rw [Yx O k (by omega),hs'] at o1
   have l0:=((hb1.trans (hbl.mono hsz1)).cell (p:=⟨b,off+t,none⟩) hbw).trans (HC.out t htn)
   have l1:=((hb1.trans (hbl.mono hsz1)).cell (p:=⟨b,off+s,none⟩) hbw).trans (HC.out s hsn)
   rw [(HLN.out t htn).1] at l0
   rw [(HLN.out s hsn).1] at l1
   have htin:t∈O.take k:=by
    rw [hq,List.take_succ_eq_append_getElem (by omega),ht];simp
   have hsin:s ∉ O.take k:=by
    intro hmem
    rw [hq] at hmem
    have h1:=HND.out
    rw [←List.take_append_drop (q+1) O,List.nodup_append] at h1
    have h2:s∈O.drop (q+1):=by rw [←List.getElem_cons_drop (h:=hkO),hs];simp
    exact h1.2.2 s hmem s h2 rfl
   have hne:¬ s=t:=fun e=>hsin (by rw [e];exact htin)
   have d0:=hD.cellAt t (by omega)
   have d1:=hD.cellAt s (by omega)
   rw [Qx _ _ t htn,if_pos htin] at d0
   rw [Qx _ _ s hsn,if_neg hsin] at d1
   have f1:=hD.frozenAt s
   have HST:Hid ((nats n fun x=>if x∈O.take k then cd x else 0).set s (.int .i64 (cd s:Int))=nats n fun x=>if x∈O.take (k+1) then cd x else 0):=Qa (by
    rw [Zg,hq]
    refine Qw fun x hx=>?_
    rw [List.take_succ_eq_append_getElem hkO,hs]
    by_cases e:x=s
    ·subst e;rw [if_pos rfl,if_pos (by simp)]
    ·rw [if_neg e]
     by_cases h:x∈O.take (q+1)
     ·rw [if_pos h,if_pos (by simp [h])]
     ·rw [if_neg h,if_neg (by simp [h,e])])
   obtain ⟨ct,hct⟩:∃ c,cd t=c:=⟨_,rfl⟩
   obtain ⟨cs,hcs⟩:∃ c,cd s=c:=⟨_,rfl⟩
   have hct2:=HLT.out t htn
   have hcs2:=HLT.out s hsn
   obtain ⟨x,hx⟩:∃ x,l t=x:=⟨_,rfl⟩
   obtain ⟨y,hy⟩:∃ y,l s=y:=⟨_,rfl⟩
   have hxr:=(HLN.out t htn).2
   have hyr:=(HLN.out s hsn).2
   rw [hct] at d0 hct2 hts
   rw [hcs] at hcs2 hts HST
   rw [hx] at l0 hxr hts
   rw [hy] at l1 hyr hts
   obtain ⟨d,hd⟩:∃ d,y-x=d:=⟨_,rfl⟩
   rw [hd] at hts
   have hdI:(y:Int)-(x:Int)=(d:Int):=by omega
   have i0:IntKind.i64.wrap ((y:Int)-(x:Int))=(d:Int):=by rw [hdI];exact IntWalk.i64_in _ (by omega)
   have i1:IntKind.i64.wrap ((ct:Int)+1)=(ct:Int)+1:=IntWalk.i64_in _ (by omega)
   have hd64:min d 64=d:=by omega
   have i2:IntKind.i64.wrap (((ct:Int)+1)*2^min d 64)=(cs:Int):=by
    rw [hd64,hts.2]
    have:(((ct+1)*2^d:Nat):Int)=((ct:Int)+1)*2^d:=by simp
    rw [←this,←hts.2];exact IntWalk.i64_in _ (by omega)
   have i3:(k:Int)-1=(q:Int):=by omega
   have i4:IntKind.i64.wrap ((k:Int)-1)=(q:Int):=by rw [i3];exact IntWalk.i64_in _ (by omega)
   have n1:¬ g1=w1.heap.size:=by omega
   have n2:¬ b=w1.heap.size:=by omega
   have n3:¬ w1.heap.size=g1:=by omega
   have n4:¬ w1.heap.size=b:=by omega
   have n5:¬ t=s:=fun e=>hne e.symm
   have m1:(q:Int)<(n:Int):=by omega
   have m2:(t:Int)<(n:Int):=by omega
   have m3:(s:Int)<(n:Int):=by omega
   have m4:(k:Int)<(n:Int):=by omega
   have m8:(0:Int)≤(k:Int):=by omega
   have m5:(0:Int)≤(q:Int):=by omega
   have m6:(0:Int)≤(t:Int):=by omega
   have m7:(0:Int)≤(s:Int):=by omega
   have hkeep:(wr.setCell ⟨w1.heap.size,s,none⟩ (.int .i64 (cs:Int))).cell? ⟨w1.heap.size,t,none⟩=some (.int .i64 (ct:Int)):=by
    rw [World.cell?_setCell_other]
    ·exact d0
    ·intro e
     exact hne (by injection e)
   clear hW hs hs' ht hct hcs hx hy hts hd hsin htin hkO hdI hq hd64 i3
   go_wp2
   go_region_held3 (fun w'=>w'.cell? ⟨g1,q,none⟩=some (.int .i64 (t:Int))∧w'.cell? ⟨g1,k,none⟩=some (.int .i64 (s:Int))∧w'.cell? ⟨b,off+t,none⟩=some (.int .i64 (x:Int))∧w'.cell? ⟨b,off+s,none⟩=some (.int .i64 (y:Int))∧w'.cell? ⟨w1.heap.size,t,none⟩=some (.int .i64 (ct:Int))) (first | go_keep | (refine ⟨?_,?_,?_,?_,?_⟩;go_keep;go_keep;go_keep;go_keep;exact hkeep)) (fail)
   all_goals
    go_wp2
    exact ⟨⟨k+1,by omega,by omega,by go_num,by
     have:=(hD.stored s (.int .i64 (cs:Int))).1
     rw [HST.out] at this
     exact this,(hbl.setCell (Nat.le_refl _) _).drew⟩,by simp [intOf];omega⟩
  ·have hkn2:k=n:=by omega
   subst hkn2
   go_wp2
   go_ret
   refine ⟨_,rfl,Joins.ownsRow_le (?_:World.ownsRow _ w1.heap.size _ _ _ _ _) hsz1,hb1.trans (hbl.mono hsz1)⟩
   rw [Qw (f:=cd) (g:=fun s=>if s∈O.take k then cd s else 0) fun s hs=>by
    rw [List.take_of_length_le (by rw [HLEN.out];exact Nat.le_refl _),if_pos (HALL.out s hs)]]
   exact hD
theorem AFx {ls:List Int} (h:lOk ls=true):Qg (cdL ls)=nats ls.length (cdF ls):=by
 unfold cdL;rw [if_pos h]
 unfold Qg nats
 rw [List.map_map];rfl
theorem AHh (a:Option Addr) (cap B n:Nat) (ss:List Int) (w:World) (hz:Ints w B a ss) (hn:n≤140737488355328) :
 Calls Tryz.prog 149 #[.int .i64 n,.slice a ss.length cap] w fun e w'=>e=.returned (.bool (ZI n ss))∧w'=w:=by
 have hl:=hz.1
 by_cases h2:2000<ss.length
 ·have HF:Hid (ZI n ss=false):=Qa (by rw [Bool.eq_false_iff,Ne,Zv];omega)
  obtain ⟨m,hm⟩:∃ m,ss.length=m:=⟨_,rfl⟩
  rw [hm] at h2 hl ⊢
  clear hz hm
  go_enter Tryz.func149,Tryz.ntmps149
  go_wp2
  go_ret
  exact ⟨Qo HF.out.symm,rfl⟩
 ·obtain ⟨m,hm⟩:∃ m,ss.length=m:=⟨_,rfl⟩
  have HM:=Qa hm
  have HZ:=Qa hz
  rw [hm] at h2 hl ⊢
  clear hz hm
  go_enter Tryz.func149,Tryz.ntmps149
  go_wp2
  go_loop [5] (fun si=>∃ k:Nat,k≤m∧si=.int .i64 k∧Hid (∀ j,j<k→0≤ss.getD j 0∧ss.getD j 0<(n:Int))) (fun si=>m-(intOf si).toNat)
  case atStart=>exact ⟨0,by omega,rfl,Qa fun j hj=>by omega⟩
  case round =>
   obtain ⟨k,hk,rfl,H⟩:=hrel
   by_cases hlt:k<m
   ·obtain ⟨b,off,rfl,hb,hc⟩:=HZ.out.2.2 (by rw [HM.out];omega)
    have ck:=hc k (by rw [HM.out];exact hlt)
    obtain ⟨x,hx⟩:∃ x,ss.getD k 0=x:=⟨_,rfl⟩
    rw [hx] at ck
    have HX:=Qa hx
    clear hx hc
    by_cases c1:x<0
    ·have HF:Hid (ZI n ss=false):=Qa (by rw [Bool.eq_false_iff,Ne,Zv];intro g;have:=g.2 k (by rw [HM.out];exact hlt);rw [HX.out] at this;omega)
     go_wp2
     go_ret
     exact ⟨Qo HF.out.symm,rfl⟩
    ·by_cases c2:(n:Int)≤x
     ·have HF:Hid (ZI n ss=false):=Qa (by rw [Bool.eq_false_iff,Ne,Zv];intro g;have:=g.2 k (by rw [HM.out];exact hlt);rw [HX.out] at this;omega)
      go_wp2
      go_ret
      exact ⟨Qo HF.out.symm,rfl⟩
     ·go_wp2
      go_round
      case rel=>exact ⟨k+1,by omega,by go_num,Qa fun j hj=>by
       rcases Nat.lt_or_ge j k with g | g
       ·exact H.out j g
       ·obtain rfl:j=k:=by omega
        rw [HX.out];omega⟩
      case measure=>simp [intOf];omega
   ·have HF:Hid (ZI n ss=true):=Qa (by rw [Zv,HM.out];exact ⟨by omega,fun j hj=>H.out j (by omega)⟩)
    go_wp2
    go_ret
    exact ⟨Qo HF.out.symm,rfl⟩
theorem AAn {ls:List Int} (h:lOk ls=true):(put5 ls).length≤20000:=by
 have hr:=Za h
 have:=vU hr ls.length (Nat.le_refl _)
 have:=hr.2.1
 unfold put5
 omega
end Go.Proofs.YtembljihmnmmfaaGreat
