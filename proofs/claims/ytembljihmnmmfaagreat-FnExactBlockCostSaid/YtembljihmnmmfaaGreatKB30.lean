/- Texts of the proof, merged. -/
import Derived.Deep.RegionHeld3
import Derived.Deep.DrawnRows
import Derived.Test.YtembljihmnmmfaaGreatKB19
import Derived.Test.YtembljihmnmmfaaGreatKB14
import Derived.Test.YtembljihmnmmfaaGreatKB6
import Derived.Test.YtembljihmnmmfaaGreatKB15
namespace Go.Proofs.YtembljihmnmmfaaGreat
set_option maxHeartbeats 1000000
set_option maxRecDepth 100000
set_option linter.unusedVariables false
set_option linter.unusedSimpArgs false
open Go.RowKit
theorem ABb (a:Option Addr) (cap B n:Nat) (ss:List Int) (w:World) (hz:Ints w B a ss) (hn:n≤140737488355328) :
 Calls Tryz.prog 124 #[.slice a ss.length cap,.int .i64 n] w fun e w'=>e=.returned (.bool (Zi n ss))∧w'=w:=by
 have hl:=hz.1
 by_cases h2:2000<ss.length
 ·have HF:Hid (Zi n ss=false):=Qa (by rw [Bool.eq_false_iff,Ne,QZ];omega)
  obtain ⟨m,hm⟩:∃ m,ss.length=m:=⟨_,rfl⟩
  rw [hm] at h2 hl ⊢
  clear hz hm
  go_enter Tryz.func124,Tryz.ntmps124
  go_wp2
  go_ret
  exact ⟨Qk HF.out.symm,rfl⟩
 ·obtain ⟨m,hm⟩:∃ m,ss.length=m:=⟨_,rfl⟩
  have HM:=Qa hm
  have HZ:=Qa hz
  rw [hm] at h2 hl ⊢
  clear hz hm
  go_enter Tryz.func124,Tryz.ntmps124
  go_wp2
  go_loop [12] (fun si=>∃ k:Nat,k≤m∧si=.int .i64 k∧Hid (∀ j,j<k→0≤ss.getD j 0∧ss.getD j 0<(n:Int))) (fun si=>m-(intOf si).toNat)
  case atStart=>exact ⟨0,by omega,rfl,Qa fun j hj=>by omega⟩
  case round =>
   obtain ⟨k,hk,rfl,H⟩:=hrel
   by_cases hlt:k<m
   ·obtain ⟨b,off,rfl,hb,hc⟩:=HZ.out.2.2 (by rw [HM.out];omega)
    have ck:=hc k (by rw [HM.out];exact hlt)
    obtain ⟨x,hx⟩:∃ x,ss.getD k 0=x:=⟨_,rfl⟩
    rw [hx] at ck
    have HX:=Qa hx
    clear hx hc
    by_cases c1:x<0
    ·have HF:Hid (Zi n ss=false):=Qa (by rw [Bool.eq_false_iff,Ne,QZ];intro g;have:=g.2 k (by rw [HM.out];exact hlt);rw [HX.out] at this;omega)
     go_wp2
     go_ret
     exact ⟨Qk HF.out.symm,rfl⟩
    ·by_cases c2:(n:Int)≤x
     ·have HF:Hid (Zi n ss=false):=Qa (by rw [Bool.eq_false_iff,Ne,QZ];intro g;have:=g.2 k (by rw [HM.out];exact hlt);rw [HX.out] at this;omega)
      go_wp2
      go_ret
      exact ⟨Qk HF.out.symm,rfl⟩
     ·go_wp2
      go_round
      case rel=>exact ⟨k+1,by omega,by go_num,Qa fun j hj=>by
       rcases Nat.lt_or_ge j k with g | g
       ·exact H.out j g
       ·obtain rfl:j=k:=by omega
        rw [HX.out];omega⟩
      case measure=>simp [intOf];omega
   ·have HF:Hid (Zi n ss=true):=Qa (by rw [QZ,HM.out];exact ⟨by omega,fun j hj=>H.out j (by omega)⟩)
    go_wp2
    go_ret
    exact ⟨Qk HF.out.symm,rfl⟩
theorem Qp.drewN {w:World} {base g:Nat} {l:List Nat} (h:Qp w base g l) (n:Nat):Qp (w.drewN n) base g l:=h
end Go.Proofs.YtembljihmnmmfaaGreat
