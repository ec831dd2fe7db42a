/- Texts of the proof, merged. -/
import Derived.Lib.Strings
import Derived.Lib.Slices
import Derived.Lib.Small
import Derived.Lib.Walk
import Derived.Lib.BitFns
import Derived.Test.YtembljihmnmmfaaGreatKB6
import Derived.Test.YtembljihmnmmfaaGreatKB15
namespace Go.Proofs.YtembljihmnmmfaaGreat
set_option maxHeartbeats 4000000
set_option maxRecDepth 100000
set_option linter.unusedVariables false
set_option linter.unusedSimpArgs false
open Go.RowKit
theorem AHl:∀ n:Fin 256,n.val≠0→Lib.bitLen n.val=Nat.log2 n.val+1:=by decide +kernel
theorem AXm {n:Nat} (h:256≤n):Nat.log2 n=Nat.log2 (n / 256)+8:=by
 rw [XJ (n:=n) (by omega),XJ (n:=n / 2) (by omega),XJ (n:=n / 2 / 2) (by omega),XJ (n:=n / 2 / 2 / 2) (by omega),XJ (n:=n / 2 / 2 / 2 / 2) (by omega),
  XJ (n:=n / 2 / 2 / 2 / 2 / 2) (by omega),XJ (n:=n / 2 / 2 / 2 / 2 / 2 / 2) (by omega),XJ (n:=n / 2 / 2 / 2 / 2 / 2 / 2 / 2) (by omega)]
 rw [show n / 2 / 2 / 2 / 2 / 2 / 2 / 2 / 2=n / 256 by omega]
theorem ATo (b:Nat) (h0:b≠0) (h1:b≤255):Lib.len8 (b:Int)=((Nat.log2 b+1:Nat):Int):=by
 rw [Lib.len8_of _ (by omega) (by omega),Int.toNat_natCast,AHl ⟨b,by omega⟩ h0]
theorem jY (x:Int) (h0:1≤x) (h1:x≤255):Lib.len8 x=((Nat.log2 x.toNat+1:Nat):Int):=by
 obtain ⟨b,rfl⟩:∃ b:Nat,x=b:=⟨x.toNat,by omega⟩
 rw [ATo b (by omega) (by omega),Int.toNat_natCast]
theorem vP (i:Int) (h:i.toNat<Lib.len8tab.size):(Lib.len8tab[i.toNat].toNat:Int)=Lib.len8 i:=by
 unfold Lib.len8
 rw [getElem?_pos Lib.len8tab i.toNat h]
 rfl
theorem ANk (x:Int) (h:256≤x):Nat.log2 x.toNat=Nat.log2 (x / 256).toNat+8:=by
 rw [AXm (n:=x.toNat) (by omega),show x.toNat / 256=(x / 256).toNat by omega]
theorem AZe (x:Int) (h:65536≤x):Nat.log2 x.toNat=Nat.log2 (x / 65536).toNat+16:=by
 rw [ANk x (by omega),ANk (x / 256) (by omega),show x / 256 / 256=x / 65536 by omega]
theorem ADv (x:Int) (h0:1≤x) (h1:x≤1048575):Nat.log2 x.toNat≤19:=Yp (by omega) (by omega)
theorem Ye (x:Int) (w:World) (h1:1≤x) (h2:x≤1048575) :
 Calls Tryz.prog 153 #[.int .u64 x] w fun e w'=>e=.returned (.int .i64 ((Nat.log2 x.toNat+1:Nat):Int))∧w'=w:=by
 have H1:=Qa h1
 have H2:=Qa h2
 have h3:0≤x:=by omega
 have h4:x≤18446744073709551615:=by omega
 clear h1 h2
 go_enter Tryz.func153,Tryz.ntmps153
 have hz:=Qa Lib.len8tab_size
 go_wp2
 all_goals first
  | (exfalso;have:=hz.out;omega)
  | (go_ret;refine ⟨congrArg Ending.returned (congrArg (Value.int IntKind.i64) ?_),rfl⟩;have:=H1.out;have:=H2.out)
 all_goals first
  | (exfalso;omega)
  | (have hs:=hz.out
     have hl:=ADv (x / 65536) (by omega) (by omega)
     rw [vP _ (by omega),jY _ (by omega) (by omega),QT _ (by omega),AZe x (by omega),IntWalk.wrap64_in _ (by omega)]
     omega)
  | (have hs:=hz.out
     have hl:=ADv (x / 256) (by omega) (by omega)
     rw [vP _ (by omega),jY _ (by omega) (by omega),QT _ (by omega),ANk x (by omega),IntWalk.wrap64_in _ (by omega)]
     omega)
  | (have hs:=hz.out
     have hl:=ADv x (by omega) (by omega)
     rw [vP _ (by omega),jY _ (by omega) (by omega),QT _ (by omega),QT _ (by omega)])
theorem AIp (n:Nat) (w:World) (h1:1≤n) (h2:n≤1048575) :
 Calls Tryz.prog 77 #[.int .i64 n] w fun e w'=>e=.returned (.int .i64 (Nat.log2 n))∧w'=w:=by
 have hk:=Yp h1 h2
 have K:=Qa (fun W=>Ye n W (by omega) (by omega))
 rw [Int.toNat_natCast] at K
 obtain ⟨x,hx⟩:∃ x:Int,(n:Int)=x:=⟨_,rfl⟩
 obtain ⟨g,hg⟩:∃ g,Nat.log2 n=g:=⟨_,rfl⟩
 rw [hg] at hk K ⊢
 rw [hx] at K ⊢
 have hx0:1≤x:=by omega
 have hx1:x≤1048575:=by omega
 clear hx hg h1 h2
 have KL:Hid (∀ W:World,Calls Tryz.prog 112 #[.int .u64 x] W fun e w'=>e=.returned (.int .i64 ((g+1:Nat):Int))∧w'=W):=Qa (fun W=>by
  go_enter Tryz.func112,Tryz.ntmps112
  go_wp2_with fail
  refine (K.out _).mono ?_
  rintro e w1 ⟨rfl,rfl⟩
  go_wp2
  go_ret
  exact ⟨rfl,rfl⟩)
 go_enter Tryz.func77,Tryz.ntmps77
 go_wp2_with fail
 refine (KL.out _).mono ?_
 rintro e w1 ⟨rfl,rfl⟩
 go_wp2
 go_ret
 exact ⟨by go_num,rfl⟩
theorem ADw (n:Int) (w:World) :
 Calls Tryz.prog 76 #[.int .i64 n] w fun e w'=>e=.returned (.bool (xI n))∧w'=w:=by
 have HF:Hid (xI n=decide (1≤n∧n≤1048575)):=Qa rfl
 by_cases h1:1≤n
 ·by_cases h2:n≤1048575
  ·go_enter Tryz.func76,Tryz.ntmps76
   go_wp2
   go_ret
   exact ⟨by rw [HF.out,decide_eq_true (by omega)];rfl,rfl⟩
  ·go_enter Tryz.func76,Tryz.ntmps76
   go_wp2
   go_ret
   exact ⟨by rw [HF.out,decide_eq_false (by omega)];rfl,rfl⟩
 ·go_enter Tryz.func76,Tryz.ntmps76
  go_wp2
  go_ret
  exact ⟨by rw [HF.out,decide_eq_false (by omega)];rfl,rfl⟩
theorem AUy (n:Nat):Qh 0 (Nat.log2 n)++Qh n (Nat.log2 n+1)=gamL n:=by
 have h:=xc n
 unfold gamL
 rw [show 2*Nat.log2 n+1=Nat.log2 n+(Nat.log2 n+1) by omega,Jz n (Nat.log2 n) (Nat.log2 n+1),Nat.div_eq_of_lt h,Nat.mod_eq_of_lt h]
theorem ZI (n:Nat) (w:World) (h1:1≤n) (h2:n≤1048575) :
 Calls Tryz.prog 37 #[.int .i64 n] w fun e w'=>∃ D,Packs D (gamL n)∧e=.returned (.agg #[.string (Qg D),.int .i64 ((gamL n).length:Int)])∧Below w.heap.size w w':=by
 have bb:Below w.heap.size w (w.alloc (.cells #[.string ⟨#[]⟩,.int .i64 0] 32)):=(Below.refl _ _).alloc (Nat.le_refl _) _
 have hR:=Has.fresh w 32 #[.string ⟨#[]⟩,.int .i64 0]
 have K0:=Qa (fun W=>ADw n W)
 rw [(VM n).2 (by omega)] at K0
 have K1:=Qa (fun W=>AIp n W h1 h2)
 have K4:=Qa (fun (W:World)=>Zw ⟨#[]⟩ 0 W (by decide))
 have hk:=Yp h1 h2
 have HL:=Qa (AUy n)
 have HU:=Qa (xc n)
 have HLL:=Qa (jQ n)
 obtain ⟨P,hP⟩:∃ P,gamL n=P:=⟨_,rfl⟩
 obtain ⟨k,hg⟩:∃ k,Nat.log2 n=k:=⟨_,rfl⟩
 rw [hP] at HL HLL ⊢
 rw [hg] at K1 hk HL HU HLL
 clear hP hg
 go_enter Tryz.func37,Tryz.ntmps37
 go_wp2_with fail
 refine (K0.out _).mono ?_
 rintro e w1 ⟨rfl,hw1⟩
 rw [←hw1] at hR bb
 clear hw1 K0
 have hs1:=bb.size
 go_wp2_with fail
 refine (K4.out _).mono ?_
 rintro e w2 ⟨g,rfl,hW2,hg2,b2⟩
 replace bb:=Qc b2 hs1 bb
 have hRl1:=hR.lt
 replace hR:=hR.below b2 hR.lt
 have hs2:=bb.size
 have hs12:=b2.size
 rw [show row ⟨#[]⟩ 0 0=[] from rfl] at hW2
 obtain ⟨base,hbase⟩:∃ base,w1.heap.size=base:=⟨_,rfl⟩
 rw [hbase] at hW2 hg2 hs12 hRl1 hs1
 have K5:=Qa (QS g base [] 0 k w2 hW2 hg2 hs12 (by omega) (Nat.two_pow_pos _) (by simp;omega))
 rw [List.nil_append] at K5
 have HR:=Qa hR
 have HBB:=Qa bb
 clear hR bb hW2 b2 K4
 go_wp2_with fail
 refine (K1.out _).mono ?_
 rintro e w3 ⟨rfl,rfl⟩
 go_wp2_with fail
 refine K5.out.mono ?_
 rintro e w4 ⟨rfl,hW4,b4,_⟩
 have hs4:=b4.size
 have K6:=Qa (QS g base (Qh 0 k) n (k+1) w4 hW4 hg2 (by omega) (by omega) HU.out (by rw [Qt];omega))
 rw [HL.out] at K6
 clear K5 hW4
 go_wp2_with fail
 refine (K1.out _).mono ?_
 rintro e w5 ⟨rfl,rfl⟩
 go_wp2_with fail
 refine K6.out.mono ?_
 rintro e w6 ⟨rfl,hW6,b6,_⟩
 have hb6:=b4.trans b6
 have hs6:=hb6.size
 have K7:=Qa (Xm g base _ w6 hW6)
 clear K6 hW6 b4 b6
 go_wp2_with fail
 refine K7.out.mono ?_
 rintro e w7 ⟨D,hD,rfl,b7⟩
 have bb:=Qc b7 (by omega) (HBB.out.trans (hb6.mono (by omega)))
 have hR:=(HR.out.below hb6 (by omega)).below b7 (by omega)
 have e0:=hR.cell 0
 have e1:=hR.cell 1
 have g0:=hR.free 0
 have g1:=hR.free 1
 simp at e0 e1
 have hs7:=bb.size
 clear b7 hR hb6
 go_wp2
 refine bodyPost_ret (v:=.agg #[.string (Qg D),.int .i64 (P.length:Int)]) (by simp [results,Tryz.results37,go_sem,e0,e1,g0,g1]) rfl ⟨D,hD,rfl,?_⟩
 repeat (first | exact Below.refl _ _ | assumption | refine Below.alloc ?_ (by (try simp);(try omega)) _ | refine Below.setCell ?_ (by (try simp);(try omega)) _ | refine Below.drew ?_ | refine Qc (by assumption) (by (try simp);(try omega)) ?_)
end Go.Proofs.YtembljihmnmmfaaGreat
