/- Texts of the proof, merged. -/
import Derived.Deep.RegionHeld3
import Derived.Test.YtembljihmnmmfaaGreatKB3
import Derived.Test.YtembljihmnmmfaaGreatKB14
import Derived.Test.YtembljihmnmmfaaGreatKB15
namespace Go.Proofs.YtembljihmnmmfaaGreat
set_option maxHeartbeats 4000000
set_option maxRecDepth 100000
set_option linter.unusedVariables false
set_option linter.unusedSimpArgs false
open Go.RowKit
theorem yD (a:Option Addr) (cap B:Nat) (ls:List Int) (w:World) (hz:Ints w B a ls) (hB:B≤w.heap.size) (hok:lOk ls=true) :
 Calls Tryz.prog 85 #[.slice a ls.length cap] w fun e w'=>∃ D,Packs D (put5 ls)∧e=.returned (.tuple #[.agg #[.string (Qg D),.int .i64 ((put5 ls).length:Int)],.bool true])∧Below w.heap.size w w':=by
 have hr:=Zq hok
 have HI:=Qa hz
 have bb:Below w.heap.size w (w.alloc (.cells #[.string ⟨#[]⟩,.int .i64 0] 32)):=(Below.refl _ _).alloc (Nat.le_refl _) _
 have hR:=Has.fresh w 32 #[.string ⟨#[]⟩,.int .i64 0]
 have K1:=Qa (fun W h=>VY a cap B ls W h)
 have K4:=Qa (fun (W:World)=>Zw ⟨#[]⟩ 0 W (by decide))
 have HLN:Hid (∀ s,s<ls.length→ls.getD s 0=(lnF ls s:Int)∧1≤lnF ls s∧lnF ls s≤20):=Qa (fun s hs=>⟨YQ hr s hs,Zk hr s hs⟩)
 have HLE:=Qa (fun k hk=>AKp hr k hk)
 have HNR:=Qa (fun k hk=>yH hr k hk)
 have HPS:Hid (∀ k,k<ls.length→putN ls (k+1)=putN ls k++Vt (nowN ls k) (lnF ls k)∧nowN ls (k+1)=lnF ls k):=Qa (fun k hk=>⟨xn ls k hk,xk ls k hk⟩)
 have HP0:Hid (putN ls 0=Qh (lnF ls 0) 5∧nowN ls 0=lnF ls 0):=Qa ⟨zp ls,ACc ls⟩
 have HPA:Hid (put5 ls=putN ls ls.length):=Qa rfl
 obtain ⟨P5,hP5⟩:∃ P,put5 ls=P:=⟨_,rfl⟩
 obtain ⟨P,hP⟩:∃ P,putN ls=P:=⟨_,rfl⟩
 obtain ⟨Nw,hN⟩:∃ N,nowN ls=N:=⟨_,rfl⟩
 obtain ⟨l,hl⟩:∃ l,lnF ls=l:=⟨_,rfl⟩
 obtain ⟨n,hn⟩:∃ n,ls.length=n:=⟨_,rfl⟩
 have hn1:1≤n:=by rw [←hn];exact hr.1
 have hn2:n≤260:=by rw [←hn];exact hr.2.1
 obtain ⟨b,off,rfl,hb,hc⟩:=hz.2.2 (by omega)
 have HC:=Qa hc
 rw [hok] at K1
 rw [hP] at HLE HPS HP0 HPA
 rw [hN] at HNR HPS HP0
 rw [hl] at HLN HPS HP0
 rw [hn] at K1 HLN HLE HNR HPS HC HPA ⊢
 rw [hP5] at HPA ⊢
 have hbw:b<w.heap.size:=by omega
 have h0:=HLN.out 0 (by omega)
 have c0:=hc 0 (by rw [hn];omega)
 rw [h0.1] at c0
 simp only [Nat.add_zero] at c0
 obtain ⟨x0,hx0⟩:∃ x,l 0=x:=⟨_,rfl⟩
 rw [hx0] at h0 c0 HP0
 have h0r:=h0.2
 clear hz hr hn hc hok hl hP hP5 hN h0 hx0
 go_enter Tryz.func85,Tryz.ntmps85
 go_wp2_with fail
 refine (K1.out _ (HI.out.below (bb.mono hB))).mono ?_
 rintro e w1 ⟨rfl,hw1⟩
 rw [←hw1] at hR bb
 clear hw1
 have hs1:=bb.size
 go_wp2_with fail
 refine (K4.out _).mono ?_
 rintro e w2 ⟨g,rfl,hW2,hg2,b2⟩
 replace bb:=Qc b2 hs1 bb
 have hRl1:=hR.lt
 replace hR:=hR.below b2 hR.lt
 have hs2:=bb.size
 have hs12:=b2.size
 have c02:=(bb.cell (p:=⟨b,off,none⟩) hbw).trans c0
 rw [show row ⟨#[]⟩ 0 0=[] from rfl] at hW2
 obtain ⟨base,hbase⟩:∃ base,w1.heap.size=base:=⟨_,rfl⟩
 rw [hbase] at hW2 hg2 hs12 hRl1 hs1
 clear b2 c0
 have K5:=Qa (QS g base [] x0 5 w2 hW2 hg2 hs12 (by omega) (by omega) (by simp))
 rw [List.nil_append,←HP0.out.1] at K5
 have HR:=Qa hR
 have HBB:=Qa bb
 clear hR bb hW2
 go_wp2_with fail
 refine K5.out.mono ?_
 rintro e w3 ⟨rfl,hW3,b3,_⟩
 have hs23:=b3.size
 clear K5
 go_wp2
 go_loopw [5,7,22] (fun sn _ si wr=>∃ k:Nat,k≤n∧si=.int .i64 k∧sn=.int .i64 (Nw k)∧Qp wr base g (P k)∧Below base w2 wr) (fun _ _ si _=>n-(intOf si).toNat)
 case atStart=>exact ⟨0,by omega,rfl,by rw [HP0.out.2],hW3,b3⟩
 case round =>
  obtain ⟨k,hk,rfl,rfl,hW,hbl⟩:=hrel
  have hsz:=hbl.size
  have hbw4:Below w.heap.size w wr:=HBB.out.trans (hbl.mono hs1)
  by_cases hlt:k<n
  ·have hln:=HLN.out k hlt
   have hnr:=HNR.out k (by omega)
   have hle:=HLE.out (k+1) (by omega)
   have hle0:=HLE.out k (by omega)
   obtain ⟨hps,hnw⟩:=HPS.out k hlt
   have hcx:=HC.out k hlt
   rw [hln.1] at hcx
   have hcx:=(hbw4.cell (p:=⟨b,off+k,none⟩) hbw).trans hcx
   obtain ⟨x,hx⟩:∃ x,l k=x:=⟨_,rfl⟩
   obtain ⟨now,hnow⟩:∃ x,Nw k=x:=⟨_,rfl⟩
   obtain ⟨L,hL⟩:∃ L,P k=L:=⟨_,rfl⟩
   rw [hx] at hln hps hnw hcx
   rw [hnow] at hnr hps ⊢
   rw [hL] at hps hle0 hW
   have hxr:=hln.2
   rw [AXt] at hps
   have HS:=Qa hps
   have HW:=Qa hnw
   have HLl:=Qa hle0
   clear hps hnw hnow hL hx hln hle hle0 hW3 b3 hbw4 c02
   go_wp2
   go_loopw [5] (fun sn wx=>∃ j:Nat,j≤x-now∧sn=.int .i64 ((now+j:Nat):Int)∧Qp wx base g (L++upP j)∧Below base w2 wx) (fun sn _=>x-(intOf sn).toNat)
   case atStart=>exact ⟨0,by omega,rfl,by simpa [upP] using hW,hbl⟩
   case round =>
    obtain ⟨j,hj,rfl,hW2,hbl2⟩:=hrel
    have hsz2:=hbl2.size
    have HPl:=Qa (show (L++upP j).length≤20000 by rw [List.length_append,AXq];have:=HLl.out;omega)
    by_cases hlt2:now+j<x
    ·have hI:((now+j:Nat):Int)<(x:Int):=by omega
     have K6:=Qa (QS g base (L++upP j) 2 2 wr hW2 hg2 (by omega) (by omega) (by omega) (by have:=HPl.out;omega))
     rw [show Qh 2 2=[1,0] from rfl,List.append_assoc,show upP j++[1,0]=upP (j+1) from rfl] at K6
     obtain ⟨y,hy⟩:∃ y,now+j=y:=⟨_,rfl⟩
     rw [hy] at hI ⊢
     have HY:=Qa hy
     clear hy hlt2 hj hW2
     go_wp2_with fail
     refine K6.out.mono ?_
     rintro e w5 ⟨rfl,hW5,b5,_⟩
     have hbl5:Below base w2 w5:=hbl2.trans b5
     clear K6 b5 hbl2
     go_wp2
     go_roundw
     case rel=>exact ⟨j+1,by have:=HY.out;omega,by have:=HY.out;rw [show now+(j+1)=y+1 by omega];go_num,hW5,hbl5⟩
     case measure=>simp [intOf];have:=HY.out;omega
    ·have hjx:j=x-now:=by omega
     have hI:¬ ((now+j:Nat):Int)<(x:Int):=by omega
     obtain ⟨M,hM⟩:∃ M,L++upP j=M:=⟨_,rfl⟩
     rw [hM] at hW2 HPl
     have HM:=Qa hM
     obtain ⟨y,hy⟩:∃ y,now+j=y:=⟨_,rfl⟩
     rw [hy] at hI ⊢
     have HY:=Qa (show y=max now x by omega)
     have hyr:y≤20:=by omega
     have HJ:=Qa hjx
     clear hM hlt2 hy hj hjx
     go_wp2
     go_loopw [5] (fun sn wy=>∃ q:Nat,q≤now-x∧sn=.int .i64 ((y-q:Nat):Int)∧Qp wy base g (M++dnP q)∧Below base w2 wy) (fun sn _=>(intOf sn).toNat)
     case atStart=>exact ⟨0,by omega,rfl,by simpa [dnP] using hW2,hbl2⟩
     case round =>
      obtain ⟨q,hq,rfl,hW4,hbl4⟩:=hrel
      have hsz4:=hbl4.size
      have HMl:=Qa (show (M++dnP q).length≤30000 by rw [List.length_append,AXw];have:=HPl.out;omega)
      by_cases hlt4:x<y-q
      ·have hI:(x:Int)<((y-q:Nat):Int):=by omega
       have K6:=Qa (QS g base (M++dnP q) 3 2 wr hW4 hg2 (by omega) (by omega) (by omega) (by have:=HMl.out;omega))
       rw [show Qh 3 2=[1,1] from rfl,List.append_assoc,show dnP q++[1,1]=dnP (q+1) from rfl] at K6
       obtain ⟨z,hz⟩:∃ z,y-q=z:=⟨_,rfl⟩
       rw [hz] at hI ⊢
       have hz20:z≤20:=by omega
       have HZ:=Qa hz
       have HQ:=Qa (show q+1≤now-x by have:=HY.out;omega)
       clear hz hlt4 hq hW4
       go_wp2_with fail
       refine K6.out.mono ?_
       rintro e w5 ⟨rfl,hW5,b5,_⟩
       have hbl5:Below base w2 w5:=hbl4.trans b5
       clear K6 b5 hbl4
       go_wp2
       go_roundw
       case rel=>exact ⟨q+1,HQ.out,by have:=HZ.out;rw [show ((y-(q+1):Nat):Int)=(z:Int)-1 by omega],hW5,hbl5⟩
       case measure=>simp [intOf];omega
      ·have HQ:=Qa (show q=now-x∧y-q=x by have:=HY.out;omega)
       have hI:¬ (x:Int)<((y-q:Nat):Int):=by omega
       have K6:=Qa (QS g base (M++dnP q) 0 1 wr hW4 hg2 (by omega) (by omega) (by omega) (by have:=HMl.out;omega))
       rw [show Qh 0 1=[0] from rfl] at K6
       have HE:Hid (P (k+1)=M++dnP q++[0]):=Qa (by rw [HS.out,←HM.out,HJ.out,HQ.out.1];simp only [List.append_assoc])
       rw [←HE.out] at K6
       have hyx:y-q=x:=HQ.out.2
       rw [hyx] at hI ⊢
       clear hyx hlt4 hW4
       go_wp2_with fail
       refine K6.out.mono ?_
       rintro e w5 ⟨rfl,hW5,b5,_⟩
       have hbl5:Below base w2 w5:=hbl4.trans b5
       clear K6 b5 hbl4
       go_wp2
       go_roundw
       case rel=>exact ⟨k+1,by omega,by go_num,by rw [HW.out],hW5,hbl5⟩
       case measure=>simp [intOf];omega
  ·have hkn:k=n:=by omega
   subst hkn
   rw [←HPA.out] at hW
   have K6:=Qa (Xm g base _ wr hW)
   have hR:=HR.out.below (hbl.mono (Nat.le_refl _)) (by omega)
   have hbw5:=hbw4
   clear hW hbw4
   go_wp2_with fail
   refine K6.out.mono ?_
   rintro e w5 ⟨D,hD,rfl,b5⟩
   have bb:=Qc b5 (by have:=hbw5.size;omega) hbw5
   replace hR:=hR.below b5 hR.lt
   have e0:=hR.cell 0
   have e1:=hR.cell 1
   have g0:=hR.free 0
   have g1:=hR.free 1
   simp at e0 e1
   have hs5:=bb.size
   clear b5 hR hbw5 hbl
   go_wp2
   refine bodyPost_ret (v:=.tuple #[.agg #[.string (Qg D),.int .i64 (P5.length:Int)],.bool true]) (by simp [results,Tryz.results85,go_sem,e0,e1,g0,g1]) rfl ⟨D,hD,rfl,?_⟩
   repeat (first | exact Below.refl _ _ | assumption | refine Below.alloc ?_ (by (try simp);(try omega)) _ | refine Below.setCell ?_ (by (try simp);(try omega)) _ | refine Below.drew ?_ | refine Qc (by assumption) (by (try simp);(try omega)) ?_)
end Go.Proofs.YtembljihmnmmfaaGreat
