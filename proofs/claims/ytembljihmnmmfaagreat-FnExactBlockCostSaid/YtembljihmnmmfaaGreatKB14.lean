/- Texts of the proof, merged. -/
import Derived.RegionTactic
import Derived.ChangeAlike
import Derived.Deep.QuietTactic
import Derived.BigQuiet
import Derived.Maps.AppendAt
import Derived.OwnWalk
import Derived.Deep.RegionHeld3
import Derived.Test.YtembljihmnmmfaaGreatKB3
import Derived.Test.YtembljihmnmmfaaGreatKB6
namespace Go.Proofs.YtembljihmnmmfaaGreat
set_option maxHeartbeats 2000000
set_option maxRecDepth 100000
set_option linter.unusedVariables false
set_option linter.unusedSimpArgs false
open Go.RowKit
theorem xm (a:Option Addr) (cap B n:Nat) (ss:List Int) (w:World) (hz:Ints w B a ss) (hn:n≤140737488355328) :
 Calls Tryz.prog 149 #[.int .i64 n,.slice a ss.length cap] w fun e w'=>e=.returned (.bool (Zi n ss))∧w'=w:=by
 have hl:=hz.1
 by_cases h2:2000<ss.length
 ·have HF:Hid (Zi n ss=false):=Qa (by rw [Bool.eq_false_iff,Ne,QZ];omega)
  obtain ⟨m,hm⟩:∃ m,ss.length=m:=⟨_,rfl⟩
  rw [hm] at h2 hl ⊢
  clear hz hm
  go_enter Tryz.func149,Tryz.ntmps149
  go_wp2
  go_ret
  exact ⟨Qk HF.out.symm,rfl⟩
 ·obtain ⟨m,hm⟩:∃ m,ss.length=m:=⟨_,rfl⟩
  have HM:=Qa hm
  have HZ:=Qa hz
  rw [hm] at h2 hl ⊢
  clear hz hm
  go_enter Tryz.func149,Tryz.ntmps149
  go_wp2
  go_loop [5] (fun si=>∃ k:Nat,k≤m∧si=.int .i64 k∧Hid (∀ j,j<k→0≤ss.getD j 0∧ss.getD j 0<(n:Int))) (fun si=>m-(intOf si).toNat)
  case atStart=>exact ⟨0,by omega,rfl,Qa fun j hj=>by omega⟩
  case round =>
   obtain ⟨k,hk,rfl,H⟩:=hrel
   by_cases hlt:k<m
   ·obtain ⟨b,off,rfl,hb,hc⟩:=HZ.out.2.2 (by rw [HM.out];omega)
    have ck:=hc k (by rw [HM.out];exact hlt)
    obtain ⟨x,hx⟩:∃ x,ss.getD k 0=x:=⟨_,rfl⟩
    rw [hx] at ck
    have HX:=Qa hx
    clear hx hc
    by_cases c1:x<0
    ·have HF:Hid (Zi n ss=false):=Qa (by rw [Bool.eq_false_iff,Ne,QZ];intro g;have:=g.2 k (by rw [HM.out];exact hlt);rw [HX.out] at this;omega)
     go_wp2
     go_ret
     exact ⟨Qk HF.out.symm,rfl⟩
    ·by_cases c2:(n:Int)≤x
     ·have HF:Hid (Zi n ss=false):=Qa (by rw [Bool.eq_false_iff,Ne,QZ];intro g;have:=g.2 k (by rw [HM.out];exact hlt);rw [HX.out] at this;omega)
      go_wp2
      go_ret
      exact ⟨Qk HF.out.symm,rfl⟩
     ·go_wp2
      go_round
      case rel=>exact ⟨k+1,by omega,by go_num,Qa fun j hj=>by
       rcases Nat.lt_or_ge j k with g | g
       ·exact H.out j g
       ·obtain rfl:j=k:=by omega
        rw [HX.out];omega⟩
      case measure=>simp [intOf];omega
   ·have HF:Hid (Zi n ss=true):=Qa (by rw [QZ,HM.out];exact ⟨by omega,fun j hj=>H.out j (by omega)⟩)
    go_wp2
    go_ret
    exact ⟨Qk HF.out.symm,rfl⟩
theorem vJ {ls:List Int} (h:lOk ls=true):(put5 ls).length≤20000:=by
 have hr:=Zq h
 have:=AKp hr ls.length (Nat.le_refl _)
 have:=hr.2.1
 unfold put5
 omega
theorem Vg (a:Option Addr) (cap B:Nat) (ls:List Int) (w:World) (hz:Ints w B a ls) :
 Calls Tryz.prog 89 #[.slice a ls.length cap] w fun e w'=>e=.returned (.int .i64 (qR ls))∧Below w.heap.size w w':=by
 have K1:=Qa (qm a cap B ls w hz)
 by_cases hok:lOk ls=true
 ·have hr:=Zq hok
  have HF:Hid (qR ls=((5+ls.length+2*gapS ls ls.length:Nat):Int)):=Qa (by unfold qR put5;rw [if_pos hok,ALs ls _ (Nat.le_refl _)])
  have HLN:Hid (∀ s,s<ls.length→ls.getD s 0=(lnF ls s:Int)∧1≤lnF ls s∧lnF ls s≤20):=Qa (fun s hs=>⟨YQ hr s hs,Zk hr s hs⟩)
  have HGS:=Qa (ABm ls)
  have HG1:Hid (gapS ls 1=0):=Qa rfl
  obtain ⟨G,hG⟩:∃ G,gapS ls=G:=⟨_,rfl⟩
  obtain ⟨l,hl⟩:∃ l,lnF ls=l:=⟨_,rfl⟩
  obtain ⟨n,hn⟩:∃ n,ls.length=n:=⟨_,rfl⟩
  have hn1:1≤n:=by rw [←hn];exact hr.1
  have hn2:n≤260:=by rw [←hn];exact hr.2.1
  obtain ⟨b,off,rfl,hb,hc⟩:=hz.2.2 (by omega)
  have HC:=Qa hc
  rw [hok] at K1
  rw [hG] at HF HGS HG1
  rw [hl] at HLN HGS
  rw [hn] at K1 HF HLN HC ⊢
  clear hz hc hok hr hG hl hn
  go_enter Tryz.func89,Tryz.ntmps89
  go_wp2_with fail
  refine K1.out.mono ?_
  rintro e w' ⟨rfl,rfl⟩
  go_wp2
  go_loopw [3,4,5] (fun sv si _ wr=>∃ k q nq:Nat,1≤k∧k≤n∧si=.int .i64 k∧sv=.int .i64 q∧Hid (q=5+n+2*G k)∧q≤265+40*k∧wr=w'.drewN nq) (fun _ si _ _=>n-(intOf si).toNat)
  case atStart=>exact ⟨1,5+n,0,Nat.le_refl _,hn1,rfl,by simp,Qa (by rw [HG1.out];rfl),by omega,rfl⟩
  case round =>
   obtain ⟨k,q,nq,hk1,hk,rfl,rfl,HQ,hq,rfl⟩:=hrel
   by_cases hlt:k<n
   ·have h1:=HLN.out k hlt
    have h0:=HLN.out (k-1) (by omega)
    have ck:=HC.out k hlt
    have c0:=HC.out (k-1) (by omega)
    rw [h1.1] at ck
    rw [h0.1] at c0
    have HN:Hid (G (k+1)=G k+gap (l (k-1)) (l k)):=Qa (by rw [HGS.out,if_neg (by omega)])
    obtain ⟨x,hx⟩:∃ x,l (k-1)=x:=⟨_,rfl⟩
    obtain ⟨y,hy⟩:∃ y,l k=y:=⟨_,rfl⟩
    rw [hx] at h0 c0 HN
    rw [hy] at h1 ck HN
    obtain ⟨j,hj⟩:∃ j,k-1=j:=⟨_,rfl⟩
    rw [hj] at c0
    have hjI:(k:Int)-1=(j:Int):=by omega
    have hxr:=h0.2
    have hyr:=h1.2
    have HJ:=Qa hj
    unfold gap at HN
    clear h0 h1 hx hy hj
    by_cases hlt2:y<x
    ·have hd:((y:Int)-(x:Int))<0:=by omega
     go_wp2
     go_quiet (fail)
     go_wp2
     exact ⟨⟨k+1,q+2*(x-y),_,by omega,by omega,by go_num,by first | go_num | (congr 1;omega),Qa (by rw [HN.out,HQ.out];omega),by omega,rfl⟩,by simp [intOf];omega⟩
    ·have hd:¬ ((y:Int)-(x:Int))<0:=by omega
     go_wp2
     go_quiet (fail)
     go_wp2
     exact ⟨⟨k+1,q+2*(y-x),_,by omega,by omega,by go_num,by first | go_num | (congr 1;omega),Qa (by rw [HN.out,HQ.out];omega),by omega,rfl⟩,by simp [intOf];omega⟩
   ·have e:k=n:=by omega
    subst e
    go_wp2
    go_ret
    exact ⟨QN (by rw [HF.out,HQ.out]),Zy (Below.refl _ _) _⟩
 ·have HF:Hid (qR ls=-1):=Qa (by unfold qR;rw [if_neg hok])
  have h2:lOk ls=false:=by simpa using hok
  rw [h2] at K1
  obtain ⟨n,hn⟩:∃ n,ls.length=n:=⟨_,rfl⟩
  rw [hn] at K1 ⊢
  clear hz hok h2 hn
  go_enter Tryz.func89,Tryz.ntmps89
  go_wp2_with fail
  refine K1.out.mono ?_
  rintro e w' ⟨rfl,rfl⟩
  go_wp2
  go_ret
  exact ⟨QN HF.out.symm,Below.refl _ _⟩
end Go.Proofs.YtembljihmnmmfaaGreat
