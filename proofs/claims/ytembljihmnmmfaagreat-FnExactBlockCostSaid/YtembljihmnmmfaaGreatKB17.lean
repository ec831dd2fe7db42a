/- Texts of the proof, merged. -/
import Derived.Test.YtembljihmnmmfaaGreatKB7
import Derived.Test.YtembljihmnmmfaaGreatKB14
namespace Go.Proofs.YtembljihmnmmfaaGreat
set_option maxHeartbeats 2000000
set_option maxRecDepth 100000
set_option linter.unusedVariables false
set_option linter.unusedSimpArgs false
open Go.RowKit
theorem Yt (n:Nat) (w:World) (h:n≤1048576):Calls Tryz.prog 108 #[.int .i64 n] w fun e w'=>e=.returned (.int .i64 (grp n))∧w=w':=by
 go_enter Tryz.func108,Tryz.ntmps108
 go_wp2
 go_ret
 refine ⟨QN ?_,rfl⟩
 unfold grp
 omega
def grpZ (n:Int):Int:=if 0≤n∧n≤2000 then (grp n.toNat:Int) else -1
def rowB (S:List Int) (n:Int):Bool:=decide (1≤n∧n≤260) && Zi n.toNat S
theorem XR (S:List Int) (n:Int):rowB S n=true↔(1≤n∧n≤260)∧S.length≤2000∧∀ k,k<S.length→0≤S.getD k 0∧S.getD k 0<n:=by
 unfold rowB
 rw [Bool.and_eq_true,decide_eq_true_eq,QZ]
 constructor
 ·rintro ⟨h1,h2,h3⟩
  exact ⟨h1,h2,fun k hk=>⟨(h3 k hk).1,by have:=(h3 k hk).2;omega⟩⟩
 ·rintro ⟨h1,h2,h3⟩
  exact ⟨h1,h2,fun k hk=>⟨(h3 k hk).1,by have:=(h3 k hk).2;omega⟩⟩
theorem yC (a:Option Addr) (cap B:Nat) (S:List Int) (n:Int) (w:World) (hz:Ints w B a S) (n1:-9223372036854775808≤n) (n2:n≤9223372036854775807) :
 Calls Tryz.prog 107 #[.slice a S.length cap,.int .i64 n] w fun e w'=>e=.returned (.bool (rowB S n))∧w'=w:=by
 by_cases h:1≤n∧n≤260
 ·obtain ⟨m,rfl⟩:∃ m:Nat,n=m:=⟨n.toNat,by omega⟩
  obtain ⟨h1,h2⟩:=h
  have hR:Hid (rowB S m=Zi m S):=Qa (by unfold rowB;rw [decide_eq_true ⟨h1,h2⟩,Int.toNat_natCast,Bool.true_and])
  have K:=Qa (xm a cap B m S w hz (by omega))
  go_enter Tryz.func107,Tryz.ntmps107
  go_wp2_with fail
  refine K.out.mono ?_
  rintro e w1 ⟨rfl,rfl⟩
  go_wp2
  go_ret
  exact ⟨Qk hR.out.symm,rfl⟩
 ·have hR:Hid (rowB S n=false):=Qa (by unfold rowB;rw [decide_eq_false h,Bool.false_and])
  by_cases h1:1≤n
  ·have h2:¬ n≤260:=by omega
   go_enter Tryz.func107,Tryz.ntmps107
   go_wp2
   go_ret
   exact ⟨Qk hR.out.symm,rfl⟩
  ·go_enter Tryz.func107,Tryz.ntmps107
   go_wp2
   go_ret
   exact ⟨Qk hR.out.symm,rfl⟩
def yT (l:List Int):Prop:=∀ k,k<l.length→0≤l.getD k 0∧l.getD k 0≤20
theorem YA {S l:List Int} (hl:yT l) (a:Nat):∀ c,0≤bitF S l a c∧bitF S l a c≤20*c
 | 0=>by simp [bitF]
 | c+1=>by
   have ih:=YA hl a (S:=S) c
   unfold bitF
   by_cases h:a+c<S.length
   ·rw [if_pos h]
    by_cases h2:(S.getD (a+c) 0).toNat<l.length
    ·have:=hl _ h2;omega
    ·have e:l.getD (S.getD (a+c) 0).toNat 0=0:=by rw [List.getD_eq_getElem?_getD,List.getElem?_eq_none (Nat.le_of_not_lt h2)];rfl
     rw [e];omega
   ·rw [if_neg h];omega
theorem qS {S l:List Int} {a c:Nat} (h:S.length≤a+c):∀ d,bitF S l a (c+d)=bitF S l a c
 | 0=>rfl
 | d+1=>by
   have e:bitF S l a (c+(d+1))=bitF S l a (c+d)+if a+(c+d)<S.length then l.getD (S.getD (a+(c+d)) 0).toNat 0 else 0:=rfl
   rw [e,if_neg (by omega),qS h d,Int.add_zero]
theorem AIu (a a2:Option Addr) (cap cap2 B g:Nat) (S l:List Int) (w:World) (hz:Ints w B a S) (hz2:Ints w B a2 l) (hS:∀ k,k<S.length→0≤S.getD k 0∧S.getD k 0<l.length) (hSl:S.length≤2000) (hl:yT l) (hg:g≤2000) :
 Calls Tryz.prog 135 #[.slice a S.length cap,.int .i64 g,.slice a2 l.length cap2] w fun e w'=>e=.returned (.int .i64 (bitG S l g))∧w'=w:=by
 have HB:=Qa (fun c=>YA hl (10*g) (S:=S) c)
 have HS:=Qa hS
 obtain ⟨N,hN⟩:∃ N,S.length=N:=⟨_,rfl⟩
 obtain ⟨M,hM⟩:∃ M,l.length=M:=⟨_,rfl⟩
 rw [hN] at HS hSl ⊢
 rw [hM] at HS ⊢
 have HL:Hid (∀ k,k<M→0≤l.getD k 0∧l.getD k 0≤20):=Qa (by rw [←hM];exact hl)
 have HZ:=Qa hz
 have HZ2:=Qa hz2
 have HN:=Qa hN
 have HM:=Qa hM
 have hstep:Hid (∀ c,bitF S l (10*g) (c+1)=bitF S l (10*g) c+if 10*g+c<N then l.getD (S.getD (10*g+c) 0).toNat 0 else 0):=Qa (fun c=>by rw [←hN];rfl)
 clear hz hz2 hN hM hS hl
 go_enter Tryz.func135,Tryz.ntmps135
 go_wp2
 go_loop [7,8] (fun n i=>∃ (c:Nat),c≤10∧i=.int .i64 ((10*g+c:Nat):Int)∧n=.int .i64 (bitF S l (10*g) c)) (fun _ i=>10*g+10-(intOf i).toNat)
 case atStart=>exact ⟨0,by omega,by go_num,rfl⟩
 case round =>
  obtain ⟨c,hc,rfl,rfl⟩:=hrel
  have hr:=HB.out c
  by_cases h1:10*g+c<N
  ·by_cases h2:c<10
   ·obtain ⟨x,hx⟩:∃ x:Nat,S.getD (10*g+c) 0=(x:Int):=⟨(S.getD (10*g+c) 0).toNat,by have:=(HS.out _ h1).1;omega⟩
    have hxM:x<M:=by have:=(HS.out _ h1).2;omega
    obtain ⟨b,off,rfl,hb,hcell⟩:=HZ.out.2.2 (by rw [HN.out];omega)
    obtain ⟨b2,off2,rfl,hb2,hcell2⟩:=HZ2.out.2.2 (by rw [HM.out];omega)
    have c1:=hcell (10*g+c) (by rw [HN.out];exact h1)
    have c2:=hcell2 x (by rw [HM.out];exact hxM)
    rw [hx] at c1
    have hl2:=HL.out x hxM
    have hr2:=HB.out (c+1)
    have e:=hstep.out c
    rw [if_pos h1,hx,Int.toNat_natCast] at e
    obtain ⟨y,hy⟩:∃ y,l.getD x 0=y:=⟨_,rfl⟩
    rw [hy] at c2 hl2 e
    obtain ⟨z,hz⟩:∃ z,bitF S l (10*g) c=z:=⟨_,rfl⟩
    rw [hz] at hr e ⊢
    have HE:=Qa e
    clear hcell hcell2 hx hy hz e hr2
    have h1':(10*(g:Int)+(c:Int))<(N:Int):=by omega
    have h2':(10*(g:Int)+(c:Int))<((g:Int)+1)*10:=by omega
    go_wp2
    go_round
    case rel=>exact ⟨c+1,by omega,by go_num,by rw [HE.out]⟩
    case measure=>simp [intOf];omega
   ·obtain rfl:c=10:=by omega
    have h1':(10*(g:Int)+10)<(N:Int):=by omega
    have h2':¬ (10*(g:Int)+10)<((g:Int)+1)*10:=by omega
    go_wp2
    go_ret
    exact ⟨rfl,rfl⟩
  ·have HF:Hid (bitF S l (10*g) c=bitG S l g):=Qa (by
    have:=qS (l:=l) (show S.length≤10*g+c by rw [HN.out];omega) (10-c)
    unfold bitG
    rw [←this,show c+(10-c)=10 by omega])
   have h1':¬ (10*(g:Int)+(c:Int))<(N:Int):=by omega
   go_wp2
   go_ret
   exact ⟨QN HF.out,rfl⟩
end Go.Proofs.YtembljihmnmmfaaGreat
