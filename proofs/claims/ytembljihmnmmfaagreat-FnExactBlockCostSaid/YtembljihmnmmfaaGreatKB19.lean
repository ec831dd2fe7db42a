/- Texts of the proof, merged. -/
import Derived.Deep.LoopGhost
import Derived.Test.YtembljihmnmmfaaGreatKB14
import Derived.Test.YtembljihmnmmfaaGreatKB3
namespace Go.Proofs.YtembljihmnmmfaaGreat
set_option maxHeartbeats 4000000
set_option maxRecDepth 100000
set_option linter.unusedVariables false
set_option linter.unusedSimpArgs false
open Go.RowKit
theorem ARt (n:Nat) (l:Nat→Nat) (m i k:Nat):Zt n l m i <+: Zt n l m (i+k):=by
 induction k with
 | zero=>exact List.prefix_refl _
 | succ k ih =>
   rw [←Nat.add_assoc,qD]
   split
   ·exact ih.trans (List.prefix_append _ _)
   ·exact ih
theorem AUi (n:Nat) (l:Nat→Nat) (m k:Nat):ordU n l m <+: ordU n l (m+k):=by
 induction k with
 | zero=>exact List.prefix_refl _
 | succ k ih=>exact ih.trans (List.prefix_append _ _)
theorem AUd (n:Nat) (l:Nat→Nat) (h:∀ s,s<n→1≤l s∧l s≤20) (m i:Nat) (hm:m<20) (hi:i≤n) (he:(ordU n l m++Zt n l (m+1) i).length=n):ordU n l m++Zt n l (m+1) i=ordU n l 20:=by
 have p1:ordU n l m++Zt n l (m+1) i <+: ordU n l (m+1):=by
  have:=ARt n l (m+1) i (n-i)
  rw [show i+(n-i)=n by omega] at this
  rw [ordU]
  exact (List.prefix_append_right_inj _).2 this
 have p2:=AUi n l (m+1) (19-m)
 rw [show m+1+(19-m)=20 by omega] at p2
 exact (p1.trans p2).eq_of_length (by rw [he,AFf n l h])
theorem AJb (a:Option Addr) (cap B:Nat) (ls:List Int) (w:World) (hz:Ints w B a ls) (hB:B≤w.heap.size) (hok:lOk ls=true) :
 Calls Tryz.prog 166 #[.slice a ls.length cap] w fun e w'=>∃ v,e=.returned v∧w'.ownsRow w.heap.size 3 1 v ls.length (Qe (ordF ls))∧Below w.heap.size w w':=by
 obtain ⟨i0,hi,hz0,hz1,hz2⟩:=info_parts Tryz.infoInt
 have hr:=Zq hok
 have HLEN:=Qa (AFu hr)
 have HLN:Hid (∀ s,s<ls.length→ls.getD s 0=(lnF ls s:Int)):=Qa (fun s hs=>YQ hr s hs)
 have HFU:=Qa (fun m i h1 h2 h3=>AUd ls.length (lnF ls) (Zk hr) m i h1 h2 h3)
 have HO:Hid (ordF ls=ordU ls.length (lnF ls) 20):=Qa rfl
 obtain ⟨n,hn⟩:∃ n,ls.length=n:=⟨_,rfl⟩
 have hn1:1≤n:=by rw [←hn];exact hr.1
 have hn2:n≤260:=by rw [←hn];exact hr.2.1
 obtain ⟨b,off,rfl,hb,hc⟩:=hz.2.2 (by omega)
 have HC:=Qa hc
 obtain ⟨l,hl⟩:∃ l,lnF ls=l:=⟨_,rfl⟩
 rw [hn] at HLEN HLN HC HO HFU ⊢
 rw [hl] at HLN HO HFU
 have hbw:b<w.heap.size:=by omega
 clear hz hr hn hc hok hl
 go_enter Tryz.func166,Tryz.ntmps166
 go_wp2
 go_step3
 go_wp2_with (at_make;refine wpList_make_own _ rfl _ _ 24 rfl w.heap.size 3 i0 (.int .i64 0) 1 Tryz.underlying24 hi hz0 hz1 _ _ _ n rfl rfl rfl ?b2 ?b3 (Nat.le_refl _) ?_)
 case b2=>rw [hz2];omega
 case b3=>unfold maxLen;omega
 intro w1 hown0 hg0
 have hbl0:Below w.heap.size w w1:=(Below.refl _ _).grown hg0 (Nat.le_refl _) (by simp)
 clear hg0
 go_wp2
 go_step3
 go_wp2
 go_loopg [3,4,5,6] 21 (fun g v sn _ _ wr=>∃ m:Nat,m+g=21∧m≤20∧sn=.int .i64 ((m:Int)+1)∧(ordU n l m).length<n+1∧wr.ownsRow w.heap.size 3 1 v (ordU n l m).length (Qe (ordU n l m))∧Below w.heap.size w wr)
 case atStart=>exact ⟨0,rfl,by omega,rfl,by simp [ordU],hown0,hbl0⟩
 case round =>
  obtain ⟨m,hmg,hm,rfl,hml,hown,hbl⟩:=hrel
  have HGK:=Qa hmg
  by_cases hm20:m<20
  ·have hmI:(m:Int)+1≤20:=by omega
   have e0:ordU n l m++Zt n l (m+1) 0=ordU n l m:=by simp [Zt]
   clear hmg
   go_wp2
   obtain ⟨wo,rfl⟩:∃ wo:World,wo=wr:=⟨_,rfl⟩
   have HGO:=Qa (rfl:gk=gk)
   obtain ⟨go,rfl⟩:∃ go:Nat,go=gk:=⟨_,rfl⟩
   go_loopg [3,5,6,16] n (fun g v _ _ si wx=>∃ i:Nat,i+g=n∧si=.int .i64 i∧wx.ownsRow w.heap.size 3 1 v (ordU n l m++Zt n l (m+1) i).length (Qe (ordU n l m++Zt n l (m+1) i))∧Below w.heap.size w wx)
   case atStart=>exact ⟨0,by omega,rfl,by rw [e0];exact hown,hbl⟩
   case round =>
    obtain ⟨i,hig,rfl,hown1,hbl1⟩:=hrel
    have hsz:=hbl1.size
    by_cases hlt:i<n
    ·have ck:=(hbl1.cell (p:=⟨b,off+i,none⟩) hbw).trans (HC.out i hlt)
     rw [HLN.out i hlt] at ck
     have hP:=jl n l m i (by omega)
     obtain ⟨P,hPe⟩:∃ P,ordU n l m++Zt n l (m+1) i=P:=⟨_,rfl⟩
     rw [hPe] at hown1 hP
     have HIG:=Qa hig
     clear hig
     by_cases he:l i=m+1
     ·have heI:((l i:Int) != (m:Int)+1)=false:=by rw [bne_eq_false_iff_eq];omega
      have HN:Hid (ordU n l m++Zt n l (m+1) (i+1)=P++[i]):=Qa (by rw [qD,if_pos he,←List.append_assoc,hPe])
      have hPl:P.length<n:=by
       have:=jl n l m (i+1) (by omega)
       rw [HN.out] at this;simp at this;omega
      obtain ⟨p,hp⟩:∃ p,P.length=p:=⟨_,rfl⟩
      rw [hp] at hown1 hPl
      have HPL:=Qa hp
      clear hPe he hP hp
      by_cases hfull:p+1=n
      ·have hfI:((p:Int)+1 == (n:Int))=true:=by rw [beq_iff_eq];omega
       have hfN:((((p+1:Nat):Int)) == (n:Int))=true:=by rw [beq_iff_eq];omega
       have HF:Hid (P++[i]=ordF ls):=Qa (by rw [←HN.out,HO.out];exact HFU.out m (i+1) hm20 (by omega) (by rw [HN.out,List.length_append,HPL.out];exact hfull))
       go_wp2_with (at_builtin;refine wpList_append_own_at _ rfl _ _ 24 rfl w.heap.size 3 i0 (.int .i64 0) 1 8 Tryz.underlying24 hi hz0 hz1 hz2 rfl (by decide) _ _ _ rfl (hown1.alloc _) ⟨wr.heap.size,0,none⟩ 1 1 [.int .i64 (i:Int)] rfl rfl ?ca2 ?ca3 ?ca4 ?ca5 ?ca6 ?_)
       case ca3=>first | rfl | exact fun u hu=>by simp at hu;subst hu;rfl
       case ca4=>unfold maxLen;omega
       case ca5=>omega
       case ca6=>first | omega | (simp;omega)
       intro v3 w3 hown3 hgrow _ _
       have hbl3:Below w.heap.size w w3:=(hbl1.alloc (by omega) _).grown hgrow (by simp;omega) (fun b hb=>(hown1.lt b hb).1)
       have hownN:w3.ownsRow w.heap.size 3 1 v3 n (Qe (ordF ls)):=by rw [←HF.out,ZM];first | exact hown3 | (rw [←hfull];exact hown3)
       obtain ⟨g3,c3,hv3⟩:=Joins.ownsRow_form hownN (by omega)
       subst hv3
       have hnn:((n:Int) == (n:Int))=true:=by simp
       clear hown3 hgrow hown1 hbl1 hfI hfN hown ck hbl
       go_wp2
       (try rw [Exit.noGoto_ret])
       go_ret
       exact ⟨_,rfl,hownN,hbl3⟩
      ·have hfI:((p:Int)+1 == (n:Int))=false:=by rw [beq_eq_false_iff_ne];omega
       have hfN:((((p+1:Nat):Int)) == (n:Int))=false:=by rw [beq_eq_false_iff_ne];omega
       go_wp2_with (at_builtin;refine wpList_append_own_at _ rfl _ _ 24 rfl w.heap.size 3 i0 (.int .i64 0) 1 8 Tryz.underlying24 hi hz0 hz1 hz2 rfl (by decide) _ _ _ rfl (hown1.alloc _) ⟨wr.heap.size,0,none⟩ 1 1 [.int .i64 (i:Int)] rfl rfl ?cb2 ?cb3 ?cb4 ?cb5 ?cb6 ?_)
       case cb3=>first | rfl | exact fun u hu=>by simp at hu;subst hu;rfl
       case cb4=>unfold maxLen;omega
       case cb5=>omega
       case cb6=>first | omega | (simp;omega)
       intro v3 w3 hown3 hgrow _ _
       have hbl3:Below w.heap.size w w3:=(hbl1.alloc (by omega) _).grown hgrow (by simp;omega) (fun b hb=>(hown1.lt b hb).1)
       have hownN:w3.ownsRow w.heap.size 3 1 v3 (p+1) (Qe (P++[i])):=by rw [ZM];exact hown3
       obtain ⟨g3,c3,hv3⟩:=Joins.ownsRow_form hownN (by omega)
       subst hv3
       clear hown3 hgrow hown1 hbl1 hown ck hbl
       go_wp2
       go_roundg (gk-1)
       case measure=>have:=HIG.out;omega
       case rel=>exact ⟨i+1,by have:=HIG.out;omega,by go_num,by rw [HN.out,List.length_append,HPL.out];exact hownN,hbl3⟩
     ·have heI:((l i:Int) != (m:Int)+1)=true:=by rw [bne_iff_ne];omega
      have HN:Hid (ordU n l m++Zt n l (m+1) (i+1)=P):=Qa (by rw [qD,if_neg he,hPe])
      clear hPe he hP
      go_wp2
      go_roundg (gk-1)
      case measure=>have:=HIG.out;omega
      case rel=>exact ⟨i+1,by have:=HIG.out;omega,by go_num,by rw [HN.out];exact hown1,hbl1⟩
    ·have hin:i=n:=by omega
     subst hin
     have hle:=jm i l (m+1)
     have HLE:=Qa hle
     clear hown hbl hle
     go_wp2
     go_roundg (go-1)
     case measure=>have:=HGK.out;omega
     case rel=>exact ⟨m+1,by have:=HGK.out;omega,by omega,by go_num,by have:=HLE.out;omega,hown1,hbl1⟩
  ·have hm2:m=20:=by omega
   have HE:ordU n l m=ordF ls:=by rw [HO.out,hm2]
   rw [HE,HLEN.out] at hown
   have hmI:¬ (m:Int)+1≤20:=by omega
   clear HE HO hm2 hml hmg
   go_wp2
   (try rw [Exit.noGoto_ret])
   go_ret
   exact ⟨_,rfl,hown,hbl⟩
theorem AId (a:Option Addr) (cap B:Nat) (ls:List Int) (w:World) (hz:Ints w B a ls) (hB:B≤w.heap.size) (hok:lOk ls=true) :
 Calls Tryz.prog 133 #[.slice a ls.length cap] w fun e w'=>∃ v,e=.returned v∧w'.ownsRow w.heap.size 3 1 v ls.length (nats ls.length (cdF ls))∧Below w.heap.size w w':=by
 obtain ⟨j0,ji,jz0,jz1,jz2⟩:=info_parts Tryz.infoInt
 have hr:=Zq hok
 have HZ:=Qa hz
 have K1:=Qa (fun W h1 h2=>AJb a cap B ls W h1 h2 hok)
 obtain ⟨O,hO,hlen,hnd,hmem,hall,h0,hstep⟩:=AOs hr
 have HLN:Hid (∀ s,s<ls.length→ls.getD s 0=(lnF ls s:Int)∧1≤lnF ls s∧lnF ls s≤20):=Qa (fun s hs=>⟨YQ hr s hs,Zk hr s hs⟩)
 have HLT:=Qa (fun s hs=>AVm hok s hs)
 have HLEN:=Qa hlen
 have HMEM:=Qa hmem
 have HSTEP:=Qa hstep
 have H0:=Qa h0
 have HND:=Qa hnd
 have HALL:=Qa hall
 rw [hO] at K1
 clear hO hlen hnd hmem hall h0 hstep
 obtain ⟨n,hn⟩:∃ n,ls.length=n:=⟨_,rfl⟩
 have hn1:1≤n:=by rw [←hn];exact hr.1
 have hn2:n≤260:=by rw [←hn];exact hr.2.1
 obtain ⟨b,off,rfl,hb,hc⟩:=hz.2.2 (by omega)
 have HC:=Qa hc
 obtain ⟨cd,hcd⟩:∃ cd,cdF ls=cd:=⟨_,rfl⟩
 obtain ⟨l,hl⟩:∃ l,lnF ls=l:=⟨_,rfl⟩
 rw [hcd] at HSTEP H0 HLT ⊢
 rw [hl] at HLN HSTEP
 rw [hn] at K1 HLEN HLN HLT HMEM HALL HC ⊢
 have hbw:b<w.heap.size:=by omega
 clear hz hr hn hc hok hcd hl
 go_enter Tryz.func133,Tryz.ntmps133
 go_wp2_with (at_make;refine wpList_make_full _ rfl _ _ 24 rfl w.heap.size 3 j0 (.int .i64 0) 1 Tryz.underlying24 ji jz0 jz1 .i64 .i64 _ _ n rfl rfl rfl rfl ?cb1 ?cb2 ?cb3 ?_)
 case cb1=>rw [jz2];omega
 case cb2=>unfold maxLen;omega
 case cb3=>exact Nat.le_refl _
 intro w1 hown1 hgrow
 have hb1:Below w.heap.size w w1:=⟨hgrow.os,hgrow.tape,hgrow.output,hgrow.size,fun i hi=>hgrow.block i hi (by simp)⟩
 rw [Zl] at hown1
 have hsz1:=hb1.size
 have hwl:=hown1.lt w.heap.size rfl
 clear hgrow
 go_wp2_with fail
 refine (K1.out _ (HZ.out.below (hb1.mono hB)) (by omega)).mono ?_
 rintro e w2 ⟨v,rfl,hown2,hb2⟩
 obtain ⟨g1,c1,hv⟩:=Joins.ownsRow_form hown2 (by omega)
 subst hv
 have hsz2:=hb2.size
 have hg1:=hown2.lt g1 rfl
 have hD0:=Ql hown1 hb2
 have hb12:Below w.heap.size w w2:=hb1.trans (hb2.mono hsz1)
 have HOW:=Qa hown2
 clear hown1 hown2
 go_wp2
 go_loopw [4,5,7,14] (fun s4 s5 _ si wr=>∃ k nx ln:Nat,k≤n∧si=.int .i64 k∧s4=.int .i64 nx∧s5=.int .i64 ln∧nx≤1048576∧ln≤20∧Hid (∀ s (h:k<O.length),O[k]=s→ln≤l s∧cd s=nx*2^(l s-ln))∧wr.ownsRow w.heap.size 3 1 (.slice (some ⟨w.heap.size,0,none⟩) n n) n (nats n fun s=>if s∈O.take k then cd s else 0)∧wr.ownsRow w1.heap.size 3 1 (.slice (some ⟨g1,0,none⟩) n c1) n (Qe O)∧Below w.heap.size w wr) (fun _ _ _ si _=>n-(intOf si).toNat)
 case atStart=>exact ⟨0,0,0,Nat.zero_le _,rfl,rfl,rfl,by omega,by omega,Qa (fun s h hs=>⟨by omega,by
  cases hOe:O with
  | nil=>rw [hOe] at h;simp at h
  | cons x T =>
    have hx:x=s:=by simp only [hOe,List.getElem_cons_zero] at hs;exact hs
    rw [←hx,H0.out x T hOe,Nat.zero_mul]⟩),by simpa [nats] using hD0,HOW.out,hb12⟩
 case round =>
  obtain ⟨k,nx,ln,hkn,rfl,rfl,rfl,hnx,hln,HK,hD,hW,hbl⟩:=hrel
  by_cases hlt:k<n
  ·have hkO:k<O.length:=by rw [HLEN.out];omega
   obtain ⟨s,hs⟩:∃ s,O[k]=s:=⟨_,rfl⟩
   have hks:=HK.out s hkO hs
   have hsn:=HMEM.out s (by rw [←hs];exact List.getElem_mem _)
   have o1:=hW.cellAt k (by omega)
   rw [zq O k (by omega),hs] at o1
   have l1:=(hbl.cell (p:=⟨b,off+s,none⟩) hbw).trans (HC.out s hsn)
   rw [(HLN.out s hsn).1] at l1
   have hsin:s ∉ O.take k:=by
    intro hmem
    have h1:=HND.out
    rw [←List.take_append_drop k O,List.nodup_append] at h1
    have h2:s∈O.drop k:=by rw [←List.getElem_cons_drop (h:=hkO),hs];simp
    exact h1.2.2 s hmem s h2 rfl
   have d1:=hD.cellAt s (by omega)
   rw [Qw _ _ s hsn,if_neg hsin] at d1
   have f1:=hD.frozenAt s
   have HST:Hid ((nats n fun x=>if x∈O.take k then cd x else 0).set s (.int .i64 (cd s:Int))=nats n fun x=>if x∈O.take (k+1) then cd x else 0):=Qa (by
    rw [Zb]
    refine Qu fun x hx=>?_
    rw [List.take_succ_eq_append_getElem hkO,hs]
    by_cases e:x=s
    ·subst e;rw [if_pos rfl,if_pos (by simp)]
    ·rw [if_neg e]
     by_cases h:x∈O.take k
     ·rw [if_pos h,if_pos (by simp [h])]
     ·rw [if_neg h,if_neg (by simp [h,e])])
   have HNX:Hid (∀ s2 (h:k+1<O.length),O[k+1]=s2→l s≤l s2∧cd s2=(cd s+1)*2^(l s2-l s)):=Qa (fun s2 h h2=>HSTEP.out k s s2 h hs h2)
   obtain ⟨cs,hcs⟩:∃ c,cd s=c:=⟨_,rfl⟩
   have hcs2:=HLT.out s hsn
   obtain ⟨y,hy⟩:∃ y,l s=y:=⟨_,rfl⟩
   have hyr:=(HLN.out s hsn).2
   rw [hcs] at hcs2 hks HST HNX
   rw [hy] at l1 hyr hks HNX
   obtain ⟨d,hd⟩:∃ d,y-ln=d:=⟨_,rfl⟩
   rw [hd] at hks
   have hdI:(y:Int)-(ln:Int)=(d:Int):=by omega
   have i2:Value.int .i64 (wrap64 ((nx:Int)*2^d))=Value.int .i64 (cs:Int):=by
    rw [show ((nx:Int)*2^d)=((nx*2^d:Nat):Int) by simp,←hks.2]
    rw [QT _ (by omega)]
   have n2:¬ b=w.heap.size:=by omega
   have hD20:d≤20:=by omega
   have m3:(s:Int)<(n:Int):=by omega
   clear hs hcs hy hks hd hsin hkO
   go_wp2
   clear i2 hdI
   refine ⟨⟨k+1,cs+1,y,by omega,by go_num,by go_num,rfl,by omega,by omega,HNX,?_,Zm hW (by simpa using hwl.2) _,hbl.setCell (Nat.le_refl _) _⟩,by simp [intOf];omega⟩
   have:=(hD.stored s (.int .i64 (cs:Int))).1
   rw [HST.out] at this
   exact this
  ·have hkn2:k=n:=by omega
   subst hkn2
   go_wp2
   go_ret
   refine ⟨_,rfl,?_,hbl⟩
   rw [Qu (f:=cd) (g:=fun s=>if s∈O.take k then cd s else 0) fun s hs=>by
    rw [List.take_of_length_le (by rw [HLEN.out];exact Nat.le_refl _),if_pos (HALL.out s hs)]]
   exact hD
end Go.Proofs.YtembljihmnmmfaaGreat
