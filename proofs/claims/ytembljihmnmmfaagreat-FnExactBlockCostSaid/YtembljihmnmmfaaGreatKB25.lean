/- Texts of the proof, merged. -/
import Derived.Laws.BitsAllLaws
import Derived.Laws.Bits64
import Derived.Test.YtembljihmnmmfaaGreatKB9
import Derived.Test.YtembljihmnmmfaaGreatKB18
import Derived.Deep.Cut
namespace Go.Proofs.YtembljihmnmmfaaGreat
set_option maxHeartbeats 32000000
set_option maxRecDepth 100000
set_option linter.unusedVariables false
set_option linter.unusedSimpArgs false
open Go.RowKit Go.Sort
theorem AOb (x y:Int):∃ n:Nat,n<18446744073709551616∧bits .xor .u64 x y=(n:Int):=by
 refine ⟨((bits .xor .u64 x y) % 18446744073709551616).toNat,by omega,?_⟩
 have h:∃ z:Int,bits .xor .u64 x y=IntKind.u64.wrap z:=⟨_,rfl⟩
 obtain ⟨z,hz⟩:=h
 rw [hz,IntKind.wrap_u64]
 omega
theorem AFa (b:Nat) (x:Int) (T:TypeId) (w:World) (hS:Has w b T #[.int .u64 x]) :
 Calls Tryz.prog 216 #[.pointer (some ⟨b,0,none⟩)] w fun e w'=>∃ y:Nat,e=.returned (.int .u64 (y:Int))∧y<18446744073709551616∧Has w' b T #[.int .u64 (y:Int)]∧Only b w w':=by
 have c0:=hS.cell 0
 have f0:=hS.free 0
 simp at c0
 have HS:=Qa hS
 clear hS
 go_enter Tryz.func216,Tryz.ntmps216
 go_wp2
 go_region
 generalize bits .xor .u64 x (IntKind.u64.wrap (x*8192))=y1
 have H1:Has ((w.setCell ⟨b,0,none⟩ (.int .u64 y1)).drew) b T #[.int .u64 y1]:=by simpa using (HS.out.store 0 (.int .u64 y1)).drew
 have O1:Only b w ((w.setCell ⟨b,0,none⟩ (.int .u64 y1)).drew):=((Only.refl _ _).store (.inl rfl) _).drew
 generalize (w.setCell ⟨b,0,none⟩ (.int .u64 y1)).drew=w1 at H1 O1 ⊢
 have c1:=H1.cell 0
 have f1:=H1.free 0
 simp at c1
 have HH1:=Qa H1
 clear H1
 go_wp2
 go_region
 generalize bits .xor .u64 y1 (y1 / 128)=y2
 have H2:Has ((w1.setCell ⟨b,0,none⟩ (.int .u64 y2)).drew) b T #[.int .u64 y2]:=by simpa using (HH1.out.store 0 (.int .u64 y2)).drew
 have O2:Only b w1 ((w1.setCell ⟨b,0,none⟩ (.int .u64 y2)).drew):=((Only.refl _ _).store (.inl rfl) _).drew
 generalize (w1.setCell ⟨b,0,none⟩ (.int .u64 y2)).drew=w2 at H2 O2 ⊢
 have c2:=H2.cell 0
 have f2:=H2.free 0
 simp at c2
 have HH2:=Qa H2
 clear H2
 go_wp2
 go_region
 obtain ⟨y,hy,hye⟩:=AOb y2 (IntKind.u64.wrap (y2*131072))
 generalize bits .xor .u64 y2 (IntKind.u64.wrap (y2*131072))=y3 at hye ⊢
 subst hye
 have H3:Has ((w2.setCell ⟨b,0,none⟩ (.int .u64 (y:Int))).drew) b T #[.int .u64 (y:Int)]:=by simpa using (HH2.out.store 0 (.int .u64 (y:Int))).drew
 have O3:Only b w2 ((w2.setCell ⟨b,0,none⟩ (.int .u64 (y:Int))).drew):=((Only.refl _ _).store (.inl rfl) _).drew
 generalize (w2.setCell ⟨b,0,none⟩ (.int .u64 (y:Int))).drew=w3 at H3 O3 ⊢
 have c3:=H3.cell 0
 simp at c3
 go_wp2
 go_ret
 exact ⟨y,rfl,hy,H3,O1.trans (O2.trans O3)⟩
theorem AHo (n:Nat) (w:World) (h1:8≤n) (h2:n≤1048575) :
 Calls Tryz.prog 215 #[.int .i64 n] w fun e w'=>e=.returned (.int .u64 ((2^(Nat.log2 n+1):Nat):Int))∧w=w':=by
 have hk:=Yp (by omega) h2
 have K:=Qa (fun W=>Ye n W (by omega) (by omega))
 rw [Int.toNat_natCast] at K
 obtain ⟨x,hx⟩:∃ x:Int,(n:Int)=x:=⟨_,rfl⟩
 obtain ⟨g,hg⟩:∃ g,Nat.log2 n=g:=⟨_,rfl⟩
 rw [hg] at hk K ⊢
 rw [hx] at K ⊢
 have hx0:1≤x:=by omega
 have hx1:x≤1048575:=by omega
 clear hx hg h1 h2
 have KL:Hid (∀ W:World,Calls Tryz.prog 112 #[.int .u64 x] W fun e w'=>e=.returned (.int .i64 ((g+1:Nat):Int))∧w'=W):=Qa (fun W=>by
  go_enter Tryz.func112,Tryz.ntmps112
  go_wp2_with fail
  refine (K.out _).mono ?_
  rintro e w1 ⟨rfl,rfl⟩
  go_wp2
  go_ret
  exact ⟨rfl,rfl⟩)
 go_enter Tryz.func215,Tryz.ntmps215
 go_wp2_with fail
 refine (KL.out _).mono ?_
 rintro e w1 ⟨rfl,rfl⟩
 go_wp2
 go_ret
 refine ⟨congrArg Ending.returned (congrArg (Value.int IntKind.u64) ?_),rfl⟩
 have hp:2^(g+1)≤2^20:=Nat.pow_le_pow_right (by omega) (by omega)
 have hc:((2:Int)^(g+1))=((2^(g+1):Nat):Int):=by simp
 rw [hc,IntKind.wrap_u64]
 generalize 2^(g+1)=P at hp ⊢
 have:2^20=1048576:=by decide
 omega
theorem AXe {y M:Nat} (hy:y<18446744073709551616) (h0:0<M) (hM:M<18446744073709551616):∃ z:Nat,z<M∧bits .and .u64 (y:Int) ((M:Int)-1)=(z:Int):=by
 refine ⟨y &&& (M-1),?_,?_⟩
 ·have:=@Nat.and_le_right y (M-1)
  omega
 ·rw [show ((M:Int)-1)=((M-1:Nat):Int) by omega]
  exact u64_and_nat y (M-1) hy (by omega)
theorem AYi {n:Nat} (h:0<n):2^(Nat.log2 n+1)≤2*n:=by
 have:=Nat.log2_self_le (n:=n) (by omega)
 rw [Nat.pow_succ]
 omega
theorem ARm (d:Array Int) (len:Nat) (hlen:d.size=len) (g cap a b:Nat) (w:World) (hB:Bs w g cap d) (hab:a+8≤b) (hb:b≤len) (hz:len≤1048575) :
 Calls Tryz.prog 205 #[.slice (some ⟨g,0,none⟩) len cap,.int .i64 a,.int .i64 b] w fun e w' =>
  e=.returned (.tuple #[])∧∃ d':Array Int,PermIn a b d d'∧Bs w' g cap d'∧Only g w w':=by
 obtain ⟨l,hl⟩:∃ l,b-a=l:=⟨_,rfl⟩
 obtain ⟨q,hq⟩:∃ q,l / 4=q:=⟨_,rfl⟩
 have hl2:(b:Int)-(a:Int)=(l:Int):=by omega
 have hq2:(l:Int).tdiv 4=(q:Int):=by
  rw [Int.tdiv_eq_ediv_of_nonneg (by omega)]
  omega
 have hbl:a+l=b:=by omega
 have HBL:=Qa hbl
 have hl8:8≤l:=by omega
 have hq3:4*q≤l:=by omega
 have hq4:2≤q:=by omega
 have hP:=Qa (fun W=>AHo l W hl8 (by omega))
 have hM1:=AYi (n:=l) (by omega)
 have hM0:0<2^(Nat.log2 l+1):=Nat.pow_pos (by omega)
 generalize 2^(Nat.log2 l+1)=M at hP hM1 hM0
 have hne:g≠w.heap.size:=by have:=hB.lt;omega
 clear hl hq hbl
 obtain ⟨w0,hw0⟩:∃ w0,w0=w.alloc (.cells #[.int .u64 (l:Int)] 214):=⟨_,rfl⟩
 have hX0:Has w0 w.heap.size 214 #[.int .u64 (l:Int)]:=by subst hw0;exact Has.fresh _ _ _
 have hB0:Bs w0 g cap d:=by subst hw0;exact hB.alloc _
 have hO0:Only g w w0:=by subst hw0;exact (Only.refl g w).alloc _
 have HB:=Qa hB0
 have HX:=Qa hX0
 clear hB hX0 hB0
 go_enter Tryz.func205,Tryz.ntmps205
 go_wp2_with (fail)
 rw [←hw0]
 refine (hP.out _).mono ?_
 rintro e w1 ⟨rfl,rfl⟩
 clear hw0
 go_wp2
 go_loopw [9,10] (fun si so wr=>∃ (i:Nat) (dk:Array Int) (x:Nat),si=.int .i64 i∧a+2*q≤i+1∧i≤a+2*q+2∧dk.size=len∧Hid (PermIn a b d dk)∧Hid (Bs wr g cap dk)∧Hid (Has wr w.heap.size 214 #[.int .u64 (x:Int)])∧Only g w wr)
  (fun si _ _=>a+2*q+3-(intOf si).toNat)
 case atStart=>exact ⟨a+2*q-1,d,l,by go_num,by omega,by omega,hlen,Qa (permIn_refl _ _ _),HB,HX,hO0⟩
 case round =>
  clear HB HX hO0
  obtain ⟨i,dk,x,rfl,hi1,hi2,hdk,HR,HK,HX,hO⟩:=hrel
  by_cases hlt:(i:Int)≤(a:Int)+(q:Int)*2+1
  ·go_wp2_with (fail)
   refine (AFa w.heap.size x 214 wr HX.out).mono ?_
   rintro e w2 ⟨y,rfl,hy,hX2,hO2⟩
   have HX2:=Qa hX2
   have HK2:=Qa (HK.out.only hO2 hne)
   have hO3:Only g w w2:=⟨hO2.os.trans hO.os,hO2.tape.trans hO.tape,hO2.output.trans hO.output,Nat.le_trans hO.size hO2.size,fun k hk hne2=>(hO2.block k (Nat.lt_of_lt_of_le hk hO.size) (by simp;omega)).trans (hO.block k hk hne2)⟩
   clear hX2 hO2 HX HK hO
   obtain ⟨z,hzM,hand⟩:=AXe (M:=M) hy hM0 (by omega)
   have hbl:=HBL.out
   by_cases hzl:(l:Int)≤(z:Int)
   ·obtain ⟨o,ho⟩:∃ o:Nat,(z:Int)-(l:Int)=(o:Int):=⟨z-l,by omega⟩
    have hol:o<l:=by omega
    have hib:a≤i∧i<b:=by omega
    have hab2:a+o<b:=by omega
    clear hbl
    by_cases he:i=a+o
    ·subst he
     have HW:=Qa (HK2.out.swp (i:=a+o) (j:=a+o) (by omega) (by omega))
     have HPm:=Qa (permIn_trans _ _ _ a b HR.out (swp_permIn dk a b (a+o) (a+o) (by omega) (by omega) (by omega) (by omega) (by omega)))
     have c0:=HK2.out.cell (j:=a+o) (by omega)
     have c1:=HK2.out.cell (j:=a+o) (by omega)
     have f0:=HK2.out.free (a+o)
     have f1:=HK2.out.free (a+o)
     generalize hx:dk[a+o]! = x0 at c0 c1 HW
     clear hx
     go_wp2
     go_region
     go_wp2
     go_roundw
     case measure=>simp [intOf] <;> omega
     case rel=>exact ⟨a+o+1,swp dk (a+o) (a+o),y,by simp,by omega,by omega,by rw [size_swp];exact hdk,HPm,Qa HW.out.drew,Qa ((HX2.out.storeAway (Ne.symm hne) _).storeAway (Ne.symm hne) _).drew,((hO3.store (.inl rfl) _).store (.inl rfl) _).drew⟩
    ·have HW:=Qa (HK2.out.swp (i:=i) (j:=a+o) (by omega) (by omega))
     have HPm:=Qa (permIn_trans _ _ _ a b HR.out (swp_permIn dk a b i (a+o) (by omega) (by omega) (by omega) (by omega) (by omega)))
     have c0:=HK2.out.cell (j:=i) (by omega)
     have c1:=HK2.out.cell (j:=a+o) (by omega)
     have f0:=HK2.out.free i
     have f1:=HK2.out.free (a+o)
     generalize hx:dk[i]! = x0 at c0 HW
     generalize hy:dk[a+o]! = y0 at c1 HW
     clear hx hy
     go_wp2
     go_region
     go_wp2
     go_roundw
     case measure=>simp [intOf] <;> omega
     case rel=>exact ⟨i+1,swp dk (i) (a+o),y,by simp,by omega,by omega,by rw [size_swp];exact hdk,HPm,Qa HW.out.drew,Qa ((HX2.out.storeAway (Ne.symm hne) _).storeAway (Ne.symm hne) _).drew,((hO3.store (.inl rfl) _).store (.inl rfl) _).drew⟩
   ·have hib:a≤i∧i<b:=by omega
    have hab2:a+z<b:=by omega
    clear hbl
    by_cases he:i=a+z
    ·subst he
     have HW:=Qa (HK2.out.swp (i:=a+z) (j:=a+z) (by omega) (by omega))
     have HPm:=Qa (permIn_trans _ _ _ a b HR.out (swp_permIn dk a b (a+z) (a+z) (by omega) (by omega) (by omega) (by omega) (by omega)))
     have c0:=HK2.out.cell (j:=a+z) (by omega)
     have c1:=HK2.out.cell (j:=a+z) (by omega)
     have f0:=HK2.out.free (a+z)
     have f1:=HK2.out.free (a+z)
     generalize hx:dk[a+z]! = x0 at c0 c1 HW
     clear hx
     go_wp2
     go_region
     go_wp2
     go_roundw
     case measure=>simp [intOf] <;> omega
     case rel=>exact ⟨a+z+1,swp dk (a+z) (a+z),y,by simp,by omega,by omega,by rw [size_swp];exact hdk,HPm,Qa HW.out.drew,Qa ((HX2.out.storeAway (Ne.symm hne) _).storeAway (Ne.symm hne) _).drew,((hO3.store (.inl rfl) _).store (.inl rfl) _).drew⟩
    ·have HW:=Qa (HK2.out.swp (i:=i) (j:=a+z) (by omega) (by omega))
     have HPm:=Qa (permIn_trans _ _ _ a b HR.out (swp_permIn dk a b i (a+z) (by omega) (by omega) (by omega) (by omega) (by omega)))
     have c0:=HK2.out.cell (j:=i) (by omega)
     have c1:=HK2.out.cell (j:=a+z) (by omega)
     have f0:=HK2.out.free i
     have f1:=HK2.out.free (a+z)
     generalize hx:dk[i]! = x0 at c0 HW
     generalize hy:dk[a+z]! = y0 at c1 HW
     clear hx hy
     go_wp2
     go_region
     go_wp2
     go_roundw
     case measure=>simp [intOf] <;> omega
     case rel=>exact ⟨i+1,swp dk (i) (a+z),y,by simp,by omega,by omega,by rw [size_swp];exact hdk,HPm,Qa HW.out.drew,Qa ((HX2.out.storeAway (Ne.symm hne) _).storeAway (Ne.symm hne) _).drew,((hO3.store (.inl rfl) _).store (.inl rfl) _).drew⟩
  ·go_wp2
   go_end0
   exact ⟨rfl,dk,HR.out,HK.out,hO⟩
theorem Bs.below {w w':World} {g cap B:Nat} {d:Array Int} (h:Bs w g cap d) (hb:Go.RowKit.Below B w w') (hg:g<B):Bs w' g cap d:=by
 obtain ⟨h0,cur,h1,h2,h3⟩:=h
 exact ⟨h0,cur,h1.below hb hg,h2,h3⟩
theorem AWf (n:Nat):∀ (g cap a b lim len:Nat) (d:Array Int) (w:World),b-a≤n→d.size=len→Bs w g cap d→a≤b→b≤len→len≤1048575→lim≤1000→Go.Sort.Below ltInt a b d →
 Calls Tryz.prog 193 #[.slice (some ⟨g,0,none⟩) len cap,.int .i64 a,.int .i64 b,.int .i64 lim] w fun e w' =>
  e=.returned (.tuple #[])∧∃ R:Array Int,PermIn a b d R∧SortedIn ltInt a b R∧Bs w' g cap R∧Only g w w':=by
 induction n using Nat.strongRecOn with
 | _ n ih =>
 intro g cap a b lim len d w hn hlen hB hab hb hz hlim hbel
 have HB:=Qa hB
 have HL:=Qa hbel
 have IH:=Qa ih
 clear hB hbel ih
 go_enter Tryz.func193,Tryz.ntmps193
 go_wp2
 go_loopw [1,2,3,8,9] (fun s1 s2 s3 s8 s9 wr=>∃ (a' b' l:Nat) (wb wp:Bool) (dk:Array Int),s1=.int .i64 a'∧s2=.int .i64 b'∧s3=.int .i64 l∧s8=.bool wb∧s9=.bool wp∧a'≤b'∧b'≤len∧b'-a'≤n∧l≤1000∧dk.size=len ∧
  Hid (Go.Sort.Below ltInt a' b' dk)∧Hid (∀ R,PermIn a' b' dk R→SortedIn ltInt a' b' R→PermIn a b d R∧SortedIn ltInt a b R)∧Hid (Bs wr g cap dk)∧Only g w wr)
  (fun s1 s2 _ _ _ _=>(intOf s2).toNat-(intOf s1).toNat)
 case atStart=>exact ⟨a,b,lim,true,true,d,rfl,rfl,rfl,rfl,rfl,hab,hb,hn,hlim,hlen,HL,Qa (fun R h1 h2=>⟨h1,h2⟩),HB,Only.refl _ _⟩
 case round =>
  clear HB HL
  obtain ⟨a',b',l,wb,wp,dk,rfl,rfl,rfl,rfl,rfl,hab',hb',hn',hl,hdk,HL,HR,HK,hO⟩:=hrel
  by_cases h12:(b':Int)-(a':Int)≤12
  ·go_wp2_with (fail)
   refine (ADd dk len hdk g cap a' b' _ HK.out hab' hb' (by omega)).mono ?_
   rintro e w1 ⟨rfl,hB1,ho1⟩
   obtain ⟨p1,p2⟩:=insertionSort_holds swo_ltInt dk a' b' hab' (by omega)
   have hr:=HR.out _ p1 p2
   go_wp2
   (try simp only [Exit.inBlock,Exit.then])
   refine bodyPost_ret (results_none rfl _ _ _) rfl ?_
   exact ⟨rfl,_,hr.1,hr.2,hB1,hO.trans ho1⟩
  ·by_cases hl0:(l:Int)=0
   ·go_wp2_with (fail)
    refine (AVu dk len hdk g cap a' b' _ HK.out (by omega) hb' (by omega)).mono ?_
    rintro e w1 ⟨rfl,hB1,ho1⟩
    obtain ⟨p1,p2⟩:=heapSort_holds swo_ltInt dk a' b' hab' (by omega)
    have hr:=HR.out _ p1 p2
    go_wp2
    (try simp only [Exit.inBlock,Exit.then])
    refine bodyPost_ret (results_none rfl _ _ _) rfl ?_
    exact ⟨rfl,_,hr.1,hr.2,hB1,hO.trans ho1⟩
   ·go_upto_if 35 with fail
    go_cut [3] from 19 (fun s3 wc=>∃ (l2:Nat) (d1:Array Int),s3=.int .i64 l2∧l2≤1000∧d1.size=len∧Hid (PermIn a' b' dk d1)∧Hid (Bs wc g cap d1)∧Only g w wc)
    case first =>
     cases wb
     ·go_wp2_with (fail)
      refine (ARm dk len hdk g cap a' b' _ HK.out (by omega) hb' hz).mono ?_
      rintro e w1 ⟨rfl,d1,hp,hB1,ho1⟩
      go_wp2_with fail
      go_meet
      case rel=>exact ⟨l-1,d1,by go_num,by omega,hp.1.trans hdk,Qa hp,Qa hB1,hO.trans ho1⟩
     ·go_wp2_with fail
      go_meet
      case rel=>exact ⟨l,dk,rfl,hl,hdk,Qa (permIn_refl _ _ _),HK,hO⟩
    case rest =>
     clear HK hO
     obtain ⟨l2,d1,rfl,hl2,hd1,HP1,HK,hO⟩:=hcut
     go_upto_if 50 with (go_at_call 206;refine (vc d1 len hd1 g cap a' b' _ HK.out (by omega) hb' (by omega)).mono ?_;rintro e w2 ⟨p,h,rfl,hp1,hp2,hh,hb2⟩)
     have HK2:=Qa (HK.out.below hb2 HK.out.lt)
     have hO2:Only g w w2:=hO.trans (AMt hb2)
     clear HK hO hb2
     go_cut [11,12] from 19 (fun s11 s12 wc=>∃ (p h:Nat) (d2:Array Int),s11=.int .i64 p∧s12=.int .i64 h∧a'≤p∧p<b'∧d2.size=len∧Hid (PermIn a' b' dk d2)∧Hid (Bs wc g cap d2)∧Only g w wc)
     case first =>
      rcases (by omega:h=2∨¬ h=2) with rfl | hh2
      ·go_wp2_with (fail)
       refine (AIm d1 len hd1 g cap a' b' _ HK2.out (by omega) hb' (by omega)).mono ?_
       rintro e w3 ⟨rfl,hB3,ho3⟩
       have hpr:=reverseRange_holds d1 a' b' hab' (by omega)
       obtain ⟨p3,hp3⟩:∃ p3:Nat,(b':Int)-1-((p:Int)-(a':Int))=(p3:Int):=⟨b'-1-(p-a'),by omega⟩
       go_wp2_with fail
       go_meet
       case rel=>exact ⟨p3,1,reverseRange d1 a' b',by first | rfl | simp | go_num,by first | rfl | simp,by omega,by omega,hpr.1.trans hd1,Qa (permIn_trans _ _ _ _ _ HP1.out hpr),Qa hB3,hO2.trans ho3⟩
      ·have hh3:¬ (h:Int)=2:=by omega
       go_wp2_with fail
       go_meet
       case rel=>exact ⟨p,h,d1,rfl,rfl,hp1,hp2,hd1,HP1,HK2,hO2⟩
     case rest =>
      clear HK2 hO2 HP1 hp1 hp2 hd1
      clear hh
      obtain ⟨p,h,d2,rfl,rfl,hp1,hp2,hd2,HP2,HK,hO⟩:=hcut
      go_upto_region 15 with fail
      go_cut [12,68] from 19 (fun s12 s68 wx=>∃ q:Bool,s12=.int .i64 h∧s68=.bool q∧Hid (Bs wx g cap d2)∧Only g w wx)
      case first =>
       rcases (by omega:h=1∨¬ h=1) with rfl | hh2
       ·cases wb <;> cases wp <;> (go_wp2_with fail;go_meet;exact ⟨_,by first | rfl | simp,rfl,HK,hO⟩)
       ·have hh3:¬ (h:Int)=1:=by omega
        cases wb <;> cases wp <;> (go_wp2_with fail;go_meet;exact ⟨_,rfl,rfl,HK,hO⟩)
      case rest =>
       clear HK hO
       obtain ⟨q,rfl,rfl,HK,hO⟩:=hcut
       go_upto_if 68 with fail
       go_cut [] from 19 (fun wx=>∃ d3:Array Int,d3.size=len∧Hid (PermIn a' b' dk d3)∧Hid (Bs wx g cap d3)∧Only g w wx)
       case first =>
        cases q
        ·go_wp2_with fail
         go_meet
         case rel=>exact ⟨d2,hd2,HP2,HK,hO⟩
        ·obtain ⟨q1,q2⟩:=partialInsertionSort_holds swo_ltInt d2 a' b' (by omega) (by omega) (Go.Sort.Below.perm HL.out (by omega) HP2.out)
         have HQ:=Qa (permIn_trans _ _ _ _ _ HP2.out q1)
         replace q2:=Qa q2
         clear q1
         have hc:=AIh d2 len hd2 g cap a' b' _ HK.out (by omega) hb' hz
         obtain ⟨R,hR2⟩:∃ R,partialInsertionSort ltInt d2 a' b'=R:=⟨_,rfl⟩
         rw [hR2] at hc HQ q2
         clear hR2
         obtain ⟨d3,q⟩:=R
         go_wp2_with (fail)
         refine hc.mono ?_
         rintro e w4 ⟨rfl,hB4,ho4⟩
         have hd3:d3.size=len:=HQ.out.1.trans hdk
         cases q
         ·go_wp2_with fail
          go_meet
          case rel=>exact ⟨d3,hd3,HQ,Qa hB4,hO.trans ho4⟩
         ·have hr:=HR.out d3 HQ.out (q2.out rfl)
          go_wp2_with fail
          (try simp only [Exit.inBlock,Exit.then])
          refine bodyPost_ret (results_none rfl _ _ _) rfl ?_
          exact ⟨rfl,d3,hr.1,hr.2,hB4,hO.trans ho4⟩
       case rest =>
        clear HK hO HP2 hd2
        obtain ⟨d3,hd3,HP3,HK,hO⟩:=hcut
        have HB3:Hid (Go.Sort.Below ltInt a' b' d3):=Qa (Go.Sort.Below.perm HL.out (by omega) HP3.out)
        go_upto_region 17 with fail
        go_cut [87] from 19 (fun s87 wx=>∃ q:Bool,s87=.bool q∧Hid (q=true→0<a'∧ltInt d3[a'-1]! d3[p]! = false)∧Hid (Bs wx g cap d3)∧Only g w wx)
        case first =>
         rcases Nat.eq_zero_or_pos a' with rfl | ha0
         ·go_wp2_with fail
          go_big_quiet (fail)
          go_wp2_with fail
          go_meet
          case rel=>exact ⟨false,rfl,Qa (fun e=>by cases e),Qa (by first | exact HK.out | exact HK.out.drewN _),by first | exact hO | exact hO.drewN _⟩
         ·obtain ⟨k,hk⟩:∃ k,a'=k+1:=⟨a'-1,by omega⟩
          have hk2:(a':Int)-1=(k:Int):=by omega
          have ha0z:(a':Int) > 0:=by omega
          have c1:=HK.out.cell (j:=k) (by omega)
          have c2:=HK.out.cell (j:=p) (by omega)
          obtain ⟨x1,hx1⟩:∃ x,Hid (d3[k]! = x):=⟨_,Qa rfl⟩
          obtain ⟨x2,hx2⟩:∃ x,Hid (d3[p]! = x):=⟨_,Qa rfl⟩
          rw [hx1.out] at c1
          rw [hx2.out] at c2
          have HE:Hid (a'-1=k):=Qa (by omega)
          clear hk
          go_wp2_with fail
          go_big_quiet ((go_at_call 209;first | exact Zg (Qv _ _ _) | exact QJ (Qv _ _ _)))
          go_wp2_with fail
          go_meet
          case rel=>exact ⟨_,rfl,Qa (fun e=>⟨ha0,by rw [HE.out,hx1.out,hx2.out];simpa using e⟩),Qa (by first | exact HK.out | exact HK.out.drewN _),by first | exact hO | exact hO.drewN _⟩
        case rest =>
         clear HK hO
         obtain ⟨q,rfl,HQ,HK,hO⟩:=hcut
         cases q
         ·have hc:=ASa d3 len hd3 g cap a' b' p _ HK.out hp1 hp2 hb' hz
          obtain ⟨X,hX⟩:∃ X,partition ltInt d3 a' b' p=X:=⟨_,rfl⟩
          obtain ⟨mid,ap,d4⟩:=X
          obtain ⟨r1,r2,r3,r4,r5,r6,r7⟩:=round_part swo_ltInt (partition_holds ltInt) hp1 hp2 (by omega) HB3.out hX
          rw [hX] at hc
          have R4:=Qa r4
          have R5:=Qa r5
          have R6:=Qa r6
          have R7:=Qa r7
          clear hX r4 r5 r6 r7
          have hd4:d4.size=len:=r3.trans hd3
          clear r3
          by_cases h4:(mid:Int)-(a':Int)<(b':Int)-(mid:Int)
          ·go_wp2_with (fail)
           refine hc.mono ?_
           rintro e w5 ⟨rfl,hB5,ho5⟩
           go_wp2_with (fail)
           refine (IH.out (mid-a') (by omega) g cap a' mid l2 len d4 w5 (Nat.le_refl _) hd4 hB5 r1 (by omega) hz hl2 R4.out).mono ?_
           rintro e w6 ⟨rfl,L,hL1,hL2,hB6,ho6⟩
           obtain ⟨hbe,hfi⟩:=R6.out L hL1 hL2
           have HBE:=Qa hbe
           have HFI:=Qa hfi
           clear hbe hfi
           go_wp2
           go_roundw
           case measure=>simp [intOf] <;> omega
           case rel=>exact ⟨mid+1,b',l2,_,_,L,by simp,rfl,rfl,rfl,rfl,by omega,hb',by omega,hl2,hL1.1.trans hd4,HBE,Qa (fun R h1 h2=>by obtain ⟨f1,f2⟩:=HFI.out R h1 h2;exact HR.out R (permIn_trans _ _ _ _ _ HP3.out f1) f2),Qa hB6,hO.trans (ho5.trans ho6)⟩
          ·go_wp2_with (fail)
           refine hc.mono ?_
           rintro e w5 ⟨rfl,hB5,ho5⟩
           go_wp2_with (fail)
           refine (IH.out (b'-(mid+1)) (by omega) g cap (mid+1) b' l2 len d4 w5 (Nat.le_refl _) hd4 hB5 (by omega) hb' hz hl2 R5.out).mono ?_
           rintro e w6 ⟨rfl,L,hL1,hL2,hB6,ho6⟩
           obtain ⟨hbe,hfi⟩:=R7.out L hL1 hL2
           have HBE:=Qa hbe
           have HFI:=Qa hfi
           clear hbe hfi
           go_wp2
           go_roundw
           case measure=>simp [intOf] <;> omega
           case rel=>exact ⟨a',mid,l2,_,_,L,rfl,rfl,rfl,rfl,rfl,r1,by omega,by omega,hl2,hL1.1.trans hd4,HBE,Qa (fun R h1 h2=>by obtain ⟨f1,f2⟩:=HFI.out R h1 h2;exact HR.out R (permIn_trans _ _ _ _ _ HP3.out f1) f2),Qa hB6,hO.trans (ho5.trans ho6)⟩
         ·obtain ⟨ha0,hnl⟩:=HQ.out rfl
          have hc:=AMk d3 len hd3 g cap a' b' p _ HK.out hp1 hp2 hb' hz
          obtain ⟨X,hX⟩:∃ X,partitionEqual ltInt d3 a' b' p=X:=⟨_,rfl⟩
          obtain ⟨mid,d4⟩:=X
          obtain ⟨r1,r2,r3,r4,r5⟩:=round_eq swo_ltInt (partitionEqual_holds ltInt) ha0 hp1 hp2 (by omega) HB3.out hnl hX
          rw [hX] at hc
          have R4:=Qa r4
          have R5:=Qa r5
          clear hX r4 r5 hnl
          have hd4:d4.size=len:=r3.trans hd3
          clear r3
          go_wp2_with (fail)
          refine hc.mono ?_
          rintro e w5 ⟨rfl,hB5,ho5⟩
          go_wp2
          go_roundw
          case measure=>simp [intOf] <;> omega
          case rel=>exact ⟨mid,b',l2,wb,wp,d4,rfl,rfl,rfl,rfl,rfl,r2,hb',by omega,hl2,hd4,R4,Qa (fun R h1 h2=>by obtain ⟨f1,f2⟩:=R5.out R h1 h2;exact HR.out R (permIn_trans _ _ _ _ _ HP3.out f1) f2),Qa hB5,hO.trans ho5⟩
end Go.Proofs.YtembljihmnmmfaaGreat
