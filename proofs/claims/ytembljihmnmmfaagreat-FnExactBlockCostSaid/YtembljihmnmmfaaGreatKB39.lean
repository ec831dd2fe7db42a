/- Texts of the proof, merged. -/
import Derived.Shelf.Small.Strs
import Derived.Shelf.Strings.Shaped
import Derived.Shelf.Vars
import Derived.Test.YtembljihmnmmfaaGreatKB2
import Derived.Test.YtembljihmnmmfaaGreatKB11
import Derived.Test.YtembljihmnmmfaaGreatKB34
import Derived.Test.YtembljihmnmmfaaGreatKB16
import Derived.Test.YtembljihmnmmfaaGreatKB12
import Derived.Test.YtembljihmnmmfaaGreatKB22
set_option maxHeartbeats 2000000
set_option maxRecDepth 100000
namespace Go.Proofs.YtembljihmnmmfaaGreat
set_option linter.unusedVariables false
set_option linter.unusedSimpArgs false
open Go.RowKit Go.Shelf
def ANj:Ren:=⟨fun n=>match n with | 106=>172 | 213=>191 | 265=>202 | n=>n,
 fun n=>match n with | 3=>3 | 9=>9 | n=>n,fun n=>n⟩
theorem AJf:Lays.n106 Tryz.prog ANj where
 mixed:=by kernel_rfl
 f106:=by kernel_rfl
 f213:=by kernel_rfl
 f265:=by kernel_rfl
 t3:=by kernel_rfl
 a3:=fun w=>by kernel_rfl
 z3:=fun w=>by kernel_rfl
 v3:=fun w=>by kernel_rfl
 t9:=by kernel_rfl
 a9:=fun w=>by kernel_rfl
 z9:=fun w=>by kernel_rfl
 v9:=fun w=>by kernel_rfl
theorem ACu (a b:ByteArray) (w:World):Calls Tryz.prog 172 #[.string a,.string b] w fun e w'=>e=.returned (.int .i64 (Lib.compareBytes a.data.toList b.data.toList))∧w=w' :=
 (Any.strings_Compare AJf a b w).mono fun _ _ h=>⟨h.1,h.2.symm⟩
end Go.Proofs.YtembljihmnmmfaaGreat
namespace Go.Proofs.YtembljihmnmmfaaGreat
set_option linter.unusedVariables false
set_option linter.unusedSimpArgs false
open Go.RowKit
theorem Fs.ofOwn {w:World} {base g n cap:Nat} {f:Nat→Nat} (h:w.ownsRow base 3 1 (.slice (some ⟨g,0,none⟩) n cap) n (nats n f)):Fs w g n cap f:=by
 obtain ⟨h1,h2⟩:=h
 rcases h2 with ⟨h2,_⟩ | ⟨g',cap',cur,hv,hb,hg,hn,hm,hc,ht⟩
 ·cases h2
 ·injection hv with e1 e2 e3
  injection e1 with e1
  injection e1 with e1
  subst e1 e3
  refine ⟨hn,cur,hg,by rw [hc,Nat.mul_one],fun j hj=>?_⟩
  have h3:(nats n f)[j]? = some (.int .i64 (f j:Int)):=Qw n f j hj
  rw [←ht,Nat.mul_one,List.getElem?_take_of_lt hj] at h3
  rw [←Array.getElem?_toList]
  exact h3
theorem Fs.own {w:World} {base g n cap:Nat} {f:Nat→Nat} (h:Fs w g n cap f) (hb:base≤g) (hm:cap≤maxLen):w.ownsRow base 3 1 (.slice (some ⟨g,0,none⟩) n cap) n (nats n f):=by
 obtain ⟨h1,cur,h2,h3,h4⟩:=h
 refine ⟨by rw [Va,Nat.mul_one],.inr ⟨g,cap,cur,rfl,hb,h2,h1,hm,by rw [h3,Nat.mul_one],?_⟩⟩
 apply List.ext_getElem?
 intro j
 rw [Nat.mul_one]
 rcases Nat.lt_or_ge j n with hj | hj
 ·rw [List.getElem?_take_of_lt hj,Array.getElem?_toList,h4 j hj,Qw n f j hj]
 ·rw [List.getElem?_eq_none (by simp;omega),List.getElem?_eq_none (by rw [Va];exact hj)]
theorem XN (s:ByteArray) (w:World) (hs:s.size≤1048576):Calls Tryz.prog 26 #[.string s] w fun e w'=>e=.returned (.bool (decide (0<s.size∧s.size≤600)))∧w=w':=by
 go_enter Tryz.func26,Tryz.ntmps26
 by_cases h1:(1:Int)≤(s.size:Int)
 ·by_cases h2:(s.size:Int)≤600
  ·go_wp2
   go_ret
   exact ⟨Qk (by symm;simp;omega),rfl⟩
  ·go_wp2
   go_ret
   exact ⟨Qk (by symm;simp;omega),rfl⟩
 ·go_wp2
  go_ret
  exact ⟨Qk (by symm;simp;omega),rfl⟩
theorem AMz (s:ByteArray) (tb sb x y:Nat) (w:World) (h6:s.size≤600) (ht:w.cell? ⟨tb,0,none⟩=some (.string (s++s))) (hb:w.cell? ⟨sb,0,none⟩=some (.string s)) (hx:x<s.size) (hy:y<s.size) :
 Calls Tryz.prog 171 #[.int .i64 (x:Int),.int .i64 (y:Int),.pointer (some ⟨tb,0,none⟩),.pointer (some ⟨sb,0,none⟩)] w fun e w'=>e=.returned (.int .i64 (cfR s x y))∧∃ q,w'=w.drewN q:=by
 have hl:(s++s).size=s.size+s.size:=by simp
 have hsl:∀ k,k<s.size→∃ X:ByteArray,X.data.toList=rotU s k∧∀ W:World,(Instr.slice 9 (.string (s++s)) (some (.int .i64 (k:Int))) (some (.int .i64 ((k:Int)+(s.size:Int)))) none).run Tryz.prog W=.ok (.string X) W :=
  fun k hk=>⟨(s++s).extract (k:Int).toNat ((k:Int)+(s.size:Int)).toNat,by rw [show ((k:Int)+(s.size:Int)).toNat=k+s.size by omega,Int.toNat_natCast];rfl,
   fun W=>run_slice_string (P:=Tryz.prog) W 9 (s++s) .i64 .i64 (k:Int) ((k:Int)+(s.size:Int)) Tryz.underlying9 (by omega) (by omega) (by omega)⟩
 obtain ⟨X,hX,hX2⟩:=hsl x hx
 obtain ⟨Y,hY,hY2⟩:=hsl y hy
 have KC:=Qa (fun W=>ACu X Y W)
 rw [hX,hY] at KC
 have HC:Hid (cfR s x y=if Lib.compareBytes (rotU s x) (rotU s y)=0 then (y:Int)-(x:Int) else Lib.compareBytes (rotU s x) (rotU s y)):=Qa rfl
 obtain ⟨c,hc⟩:∃ c,Lib.compareBytes (rotU s x) (rotU s y)=c:=⟨_,rfl⟩
 rw [hc] at KC HC
 obtain ⟨T,hT⟩:∃ T,s++s=T:=⟨_,rfl⟩
 rw [hT] at ht hX2 hY2
 clear hc hl hsl hX hY hT
 go_enter Tryz.func171,Tryz.ntmps171
 go_wp2
 go_big_quiet ((go_at_call 172;first | exact Zg (KC.out _) | exact QJ (KC.out _)))
 by_cases h0:c=0
 ·subst h0
  have HC2:Hid (cfR s x y=(y:Int)-(x:Int)):=Qa (by have h:=HC.out;rwa [if_pos rfl] at h)
  have hw:IntKind.i64.wrap ((y:Int)-(x:Int))=(y:Int)-(x:Int):=by rw [IntKind.wrap_i64];omega
  go_wp2
  go_ret
  exact ⟨QN HC2.out.symm,_,rfl⟩
 ·have HC2:Hid (cfR s x y=c):=Qa (by have h:=HC.out;rwa [if_neg h0] at h)
  go_wp2
  go_ret
  exact ⟨QN HC2.out.symm,_,rfl⟩
theorem xO (gf:Nat) (lb:Array Value) (cf:Nat→Nat→Int) (R:Nat→Nat→Prop) (N:Nat) (w:World)
 (eg:∀ (args:Array Value) (W:World),(callFunc gf args).run Tryz.prog W=.ok (.enter gf args) W) (C:Cmp cf R N) (hN:N≤600)
 (hC:∀ W,Below w.heap.size w W→∀ x y:Nat,x<N→y<N→Calls Tryz.prog gf (#[.int .i64 (x:Int),.int .i64 (y:Int)]++lb) W fun e w'=>e=.returned (.int .i64 (cf x y))∧∃ q,w'=W.drewN q) :
 Calls Tryz.prog 141 #[.int .i64 (N:Int),.func (.func gf) #[] lb] w fun e w' =>
  ∃ g f,e=.returned (.slice (some ⟨g,0,none⟩) N N)∧w.heap.size≤g∧Fs w' g N N f∧So R f 0 N∧Trn 0 N idF f∧Below w.heap.size w w':=by
 obtain ⟨j0,ji,jz0,jz1,jz2⟩:=info_parts Tryz.infoInt
 have HC:=Qa hC
 clear hC
 go_enter Tryz.func141,Tryz.ntmps141
 go_wp2_with (at_make;refine wpList_make_full _ rfl _ _ 24 rfl w.heap.size 3 j0 (.int .i64 0) 1 Tryz.underlying24 ji jz0 jz1 .i64 .i64 _ _ N rfl rfl rfl rfl ?cb1 ?cb2 ?cb3 ?_)
 case cb1=>rw [jz2];omega
 case cb2=>unfold maxLen;omega
 case cb3=>exact Nat.le_refl _
 intro w2 hown hgrow
 have hb2:=ZQ hgrow
 rw [Zl] at hown
 clear hgrow
 go_wp2
 go_loopw [6,11] (fun _ sk wr=>∃ (k:Nat),k≤N∧sk=.int .i64 k∧wr.ownsRow w.heap.size 3 1 (.slice (some ⟨w.heap.size,0,none⟩) N N) N (nats N (fun j=>if j<k then j else 0))∧Below w.heap.size w wr) (fun _ sk _=>N-(intOf sk).toNat)
 case atStart=>exact ⟨0,by omega,rfl,by simpa using hown,hb2⟩
 case round =>
  clear hown hb2
  obtain ⟨k,hk,rfl,hown,hbl⟩:=hrel
  by_cases hlt:k<N
  ·have d0:=hown.cellAt k (by omega)
   rw [Qw _ _ _ hlt] at d0
   have f0:=hown.frozenAt k
   have hownN:=(hown.stored k (.int .i64 (k:Int))).1
   rw [Zb] at hownN
   have e:nats N (fun t=>if t=k then k else if t<k then t else 0)=nats N (fun j=>if j<k+1 then j else 0):=Qu fun j _=>by
    by_cases h1:j=k
    ·subst h1;rw [if_pos rfl,if_pos (by omega)]
    ·by_cases h2:j<k
     ·rw [if_neg h1,if_pos h2,if_pos (by omega)]
     ·rw [if_neg h1,if_neg h2,if_neg (by omega)]
   rw [e] at hownN
   have hblN:=hbl.setCell (p:=⟨w.heap.size,k,none⟩) (Nat.le_refl _) (.int .i64 (k:Int))
   clear e hown hbl
   go_wp2
   go_roundw
   case rel=>exact ⟨k+1,by omega,by go_num,hownN,hblN⟩
   case measure=>simp [intOf];omega
  ·obtain rfl:k=N:=by omega
   have hF:Fs wr w.heap.size k k idF:=by
    have e:nats k (fun j=>if j<k then j else 0)=nats k idF:=Qu fun j hj=>by rw [if_pos hj];rfl
    rw [e] at hown
    exact Fs.ofOwn hown
   have K:=Qa (vy gf lb cf R k w.heap.size k wr eg C (by omega) hF (fun W hW x y hx hy=>HC.out W (hbl.trans (hW.below (Nat.le_refl _) hbl.size)) x y hx hy))
   clear hown hF
   go_wp2_with fail
   refine K.out.mono ?_
   rintro ed w3 ⟨rfl,f2,h3,s3,t3,o3⟩
   have B3:=hbl.trans (o3.below (Nat.le_refl _) hbl.size)
   have H3:=Qa h3
   have S3:=Qa s3
   have T3:=Qa t3
   clear h3 s3 t3 K
   go_wp2
   go_ret
   exact ⟨_,f2,rfl,Nat.le_refl _,H3.out,S3.out,T3.out,B3⟩
theorem xS (s:ByteArray) (w:World) (hs:s.size≤600) :
 Calls Tryz.prog 142 #[.string s] w fun e w'=>∃ tb sb,e=.returned (.func (.func 171) #[] #[.pointer (some ⟨tb,0,none⟩),.pointer (some ⟨sb,0,none⟩)]) ∧
  w'.cell? ⟨tb,0,none⟩=some (.string (s++s))∧w'.cell? ⟨sb,0,none⟩=some (.string s)∧tb<w'.heap.size∧sb<w'.heap.size∧Below w.heap.size w w':=by
 have hl:(s++s).size=s.size+s.size:=by simp
 go_enter Tryz.func142,Tryz.ntmps142
 go_wp2
 go_ret
 exact ⟨w.heap.size+1,w.heap.size,rfl,by simp,by simp,by simp,by simp;omega,⟨rfl,rfl,rfl,by simp;omega,fun i hi=>(Below.heap_alloc _ _ i (by simp;omega)).trans (Below.heap_alloc w _ i hi)⟩⟩
theorem AEt (s:ByteArray) (w:World) (h1:0<s.size) (h2:s.size≤600) :
 Calls Tryz.prog 97 #[.string s] w fun e w'=>∃ g f,e=.returned (.slice (some ⟨g,0,none⟩) s.size s.size)∧w.heap.size≤g∧Fs w' g s.size s.size f∧lF s.size f=rotO (Qb s)∧Below w.heap.size w w':=by
 have KO:=Qa (fun W=>XN s W (by omega))
 rw [decide_eq_true ⟨h1,h2⟩] at KO
 go_enter Tryz.func97,Tryz.ntmps97
 go_wp2_with fail
 refine (KO.out _).mono ?_
 rintro e w1 ⟨rfl,rfl⟩
 go_wp2_with fail
 refine (xS s _ h2).mono ?_
 rintro e w1 ⟨tb,sb,rfl,c1,c2,l1,l2,b1⟩
 have K:=Qa (xO 171 #[.pointer (some ⟨tb,0,none⟩),.pointer (some ⟨sb,0,none⟩)] (cfR s) (rlt (Qb s)) s.size w1
  (enters_of Tryz.func171 (by kernel_rfl) rfl) (AXo s) h2
  (fun W hW x y hx hy=>AMz s tb sb x y W h2 ((hW.cell (p:=⟨tb,0,none⟩) l1).trans c1) ((hW.cell (p:=⟨sb,0,none⟩) l2).trans c2) hx hy))
 go_wp2_with fail
 refine K.out.mono ?_
 rintro e w2 ⟨g,f,rfl,hg,hF,hS,hT,b2⟩
 have HF:=Qa hF
 have HS:=Qa hS
 have HT:=Qa hT
 have B2:=b1.trans (b2.mono b1.size)
 have hgw:w.heap.size≤g:=by have:=b1.size;omega
 clear hF hS hT K
 go_wp2
 go_ret
 refine ⟨g,f,rfl,hgw,HF.out,?_,B2⟩
 have e:=Qf s
 rw [←e]
 exact ASr (by rw [e];exact HT.out) (by rw [e];exact HS.out)
theorem ALd (g n k x:Nat) (f:Nat→Nat) (w:World) (hF:Fs w g n n f) (hn:n≤600) (hk:k<n) (hx:f k=x) (hne:∀ j,j<k→f j≠x) :
 Calls Tryz.prog 98 #[.slice (some ⟨g,0,none⟩) n n,.int .i64 (x:Int)] w fun e w'=>e=.returned (.int .i64 (k:Int))∧w=w':=by
 have HC:Hid (∀ j,j<n→w.cell? ⟨g,j,none⟩=some (.int .i64 (f j:Int))):=Qa (fun j hj=>hF.cell hj)
 have HX:=Qa hx
 have HN:=Qa hne
 clear hF hx hne
 go_enter Tryz.func98,Tryz.ntmps98
 go_wp2
 go_loopw [5,8] (fun _ sj wr=>∃ j:Nat,j≤k∧sj=.int .i64 j∧Hid (w=wr)) (fun _ sj _=>k-(intOf sj).toNat)
 case atStart=>exact ⟨0,by omega,rfl,Qa rfl⟩
 case round =>
  obtain ⟨j,hj,rfl,HW⟩:=hrel
  have d0:=HC.out j (by omega)
  rw [HW.out] at d0
  have hjn:(j:Int)<(n:Int):=by omega
  by_cases hlt:j<k
  ·have hne:=HN.out j hlt
   obtain ⟨y,hy⟩:∃ y,f j=y:=⟨_,rfl⟩
   rw [hy] at d0 hne
   have hbe:((x:Int) == (y:Int))=false:=by rw [beq_eq_false_iff_ne];omega
   have hbi:¬ (x:Int)=(y:Int):=by omega
   clear hy
   go_wp2
   go_roundw
   case rel=>exact ⟨j+1,by omega,by go_num,HW⟩
   case measure=>simp [intOf];omega
  ·obtain rfl:j=k:=by omega
   rw [HX.out] at d0
   go_wp2
   go_ret
   exact ⟨rfl,HW.out⟩
theorem xg (s:ByteArray) (w:World) (hs:s.size≤1048576) :
 Calls Tryz.prog 60 #[.string s] w fun e w'=>e=.returned (.tuple #[.string (lstZ s),.int .i64 (fstZ s)])∧Below w.heap.size w w':=by
 obtain ⟨i0,hi,hz0,hz1,hz2⟩:=info_parts Tryz.info5
 have KO:=Qa (fun W=>XN s W hs)
 by_cases hok:0<s.size∧s.size≤600
 ·have hl:(rotO (Qb s)).length=s.size:=by rw [XF,Qf]
  have HR1:Hid (lstZ s=Qg (QU (Qb s))):=Qa (by unfold lstZ;rw [if_pos hok])
  have HR2:Hid (fstZ s=(fstN (Qb s):Int)):=Qa (by unfold fstZ;rw [if_pos hok])
  rw [decide_eq_true hok] at KO
  obtain ⟨h1,h2⟩:=hok
  have KR:=Qa (fun W=>AEt s W h1 h2)
  have HSR:=Qa (Jn (Qb s))
  have HLT:Hid (∀ k,k<s.size→(rotO (Qb s)).getD k 0<s.size):=Qa (fun k hk=>by
   have:=vH (Qb s) _ (ZE _ k (by rw [hl];exact hk))
   rwa [Qf] at this)
  have HLA:=Qa (fun k r q (a:k<s.size) b c d=>AJz s k r q a b c d)
  have HLL:Hid ((QU (Qb s)).length=s.size):=Qa (by rw [zN,Qf])
  have HIX:Hid (fstN (Qb s)<s.size∧(rotO (Qb s)).getD (fstN (Qb s)) 0=0∧∀ j,j<fstN (Qb s)→(rotO (Qb s)).getD j 0≠0):=Qa (by
   have hm:0∈rotO (Qb s):=HSR.out.1.mem_iff.2 (List.mem_range.2 (by rw [Qf];exact h1))
   have:=List.idxOf_lt_length_of_mem hm
   rw [hl] at this
   exact ⟨this,zx _ hm,fun j hj=>xe _ _ j hj⟩)
  clear hl
  go_enter Tryz.func60,Tryz.ntmps60
  go_wp2_with fail
  refine (KO.out _).mono ?_
  rintro e w1 ⟨rfl,rfl⟩
  go_wp2_with fail
  refine (KR.out _).mono ?_
  rintro e w1 ⟨gr,fr,rfl,hgr,hFr,hLr,b1⟩
  have hs1:=b1.size
  have hgl:=hFr.lt
  have HF:=Qa hFr
  have HGD:Hid (∀ k,k<s.size→fr k=(rotO (Qb s)).getD k 0):=Qa (fun k hk=>by rw [←hLr,AZo _ _ _ hk])
  clear hFr hLr KO KR
  go_wp2_with (at_make;refine wpList_make_full _ rfl _ _ 61 rfl w1.heap.size 5 i0 (.int .u8 0) 1 Tryz.underlying61 hi hz0 hz1 .i64 .i64 _ _ s.size rfl rfl rfl rfl ?cc1 ?cc2 ?cc3 ?_)
  case cc1=>rw [hz2];omega
  case cc2=>unfold maxLen;omega
  case cc3=>exact Nat.le_refl _
  intro w2 hown hgrow
  rw [yi,←HLL.out,←ADt,HLL.out] at hown
  have hbl:=ZQ hgrow
  have hs2:=hbl.size
  clear hgrow
  obtain ⟨g,hg⟩:∃ g,w1.heap.size=g:=⟨_,rfl⟩
  rw [hg] at hown hbl hs2 ⊢
  have hgw:w.heap.size≤g:=by omega
  have ckw:gr≠g:=by omega
  have ckw2:g≠gr:=by omega
  replace b1:Below w.heap.size w w1:=b1
  go_wp2
  go_loopw [6,7,18] (fun _ _ sk wr=>∃ (k:Nat),k≤s.size∧sk=.int .i64 k∧wr.ownsRow g 5 1 (.slice (some ⟨g,0,none⟩) s.size s.size) s.size (u8s (tkz (QU (Qb s)) k))∧Below g w1 wr) (fun _ _ sk _=>s.size-(intOf sk).toNat)
  case atStart=>exact ⟨0,Nat.zero_le _,rfl,hown,hbl⟩
  case round =>
   clear hown hbl
   obtain ⟨k,hk,rfl,hown,hbl⟩:=hrel
   by_cases hlt:k<s.size
   ·have ck:=(hbl.cell (p:=⟨gr,k,none⟩) (by show gr<g;omega)).trans (HF.out.cell hlt)
    rw [HGD.out k hlt] at ck
    obtain ⟨r,hr⟩:∃ r,(rotO (Qb s)).getD k 0=r:=⟨_,rfl⟩
    have hrs:=HLT.out k hlt
    obtain ⟨q,hq⟩:∃ q,(r+s.size-1) % s.size=q:=⟨_,rfl⟩
    have hq2:q<s.size:=by rw [←hq];exact Nat.mod_lt _ (by omega)
    have hqi:((r:Int)+(s.size:Int)-1) % (s.size:Int)=(q:Int):=by
     rw [←hq,show (r:Int)+(s.size:Int)-1=((r+s.size-1:Nat):Int) by omega];simp
    have hnn:0≤(r:Int)+(s.size:Int)-1:=by omega
    have hqt:((r:Int)+(s.size:Int)-1).tmod (s.size:Int)=(q:Int):=by rw [Int.tmod_eq_emod_of_nonneg hnn];exact hqi
    have HV:=Qa (HLA.out k r q hlt hr hq hq2)
    rw [hr] at ck hrs
    have hZL:k<(tkz (QU (Qb s)) k).length:=by rw [AKq _ _ (by rw [HLL.out];exact hk),HLL.out];exact hlt
    have d0:=hown.cellAt k (by omega)
    rw [xt _ k hZL] at d0
    have f0:=hown.frozenAt k
    have HST:Hid ((tkz (QU (Qb s)) k).set k s[q].toNat=tkz (QU (Qb s)) (k+1)):=Qa (by rw [←HV.out];exact AKd _ k (by rw [HLL.out];exact hlt))
    obtain ⟨x0,hx0⟩:∃ x,(tkz (QU (Qb s)) k).getD k 0=x:=⟨_,rfl⟩
    rw [hx0] at d0
    have hownN:=(hown.stored k (.int .u8 (s[q].toNat:Int))).1
    rw [←xA,HST.out] at hownN
    have hblN:=hbl.setCell (p:=⟨g,k,none⟩) (Nat.le_refl _) (.int .u8 (s[q].toNat:Int))
    clear hx0 hown hbl hZL hr hq
    go_wp2
    go_roundw
    case rel=>exact ⟨k+1,by omega,by go_num,hownN,hblN⟩
    case measure=>simp [intOf];omega
   ·have hke:k=s.size:=by omega
    subst hke
    have hTZ:tkz (QU (Qb s)) s.size=QU (Qb s):=by have:=AKn (QU (Qb s));rwa [HLL.out] at this
    rw [hTZ] at hown
    have hrun:∀ n,(convert 61 9 (.slice (some ⟨g,0,none⟩) s.size s.size)).run Tryz.prog (wr.drewN n)=.ok (.string (Qg (QU (Qb s)))) (wr.drewN n):=fun n=>JR (w:=wr.drewN n) hown
    have hrun0:=JR hown
    have hFr:Fs wr gr s.size s.size fr:=by
     obtain ⟨e0,cur,e1,e2,e3⟩:=HF.out
     exact ⟨e0,cur,e1.below hbl (by omega),e2,e3⟩
    have KX:=Qa (fun n=>ALd gr s.size (fstN (Qb s)) 0 fr (wr.drewN n) (hFr.drewN n) h2 HIX.out.1 (by rw [HGD.out _ HIX.out.1];exact HIX.out.2.1) (fun j hj=>by rw [HGD.out _ (by have:=HIX.out.1;omega)];exact HIX.out.2.2 j hj))
    have BB:=b1.trans (hbl.mono (by omega))
    clear hTZ hown hbl hFr
    go_wp2
    go_quiet ((go_at_call 98;first | exact Zg (KX.out _) | exact QJ (KX.out _)))
    go_wp2
    exact bodyPost_ret (v:=.tuple #[.string (Qg (QU (Qb s))),.int .i64 (fstN (Qb s))]) (by simp [results,Tryz.results60,go_sem]) rfl ⟨by rw [HR1.out,HR2.out],Zy BB _⟩
 ·have HR1:Hid (lstZ s=⟨#[]⟩):=Qa (by unfold lstZ;rw [if_neg hok])
  have HR2:Hid (fstZ s=-1):=Qa (by unfold fstZ;rw [if_neg hok])
  rw [HR1.out,HR2.out]
  rw [decide_eq_false hok] at KO
  clear hok
  go_enter Tryz.func60,Tryz.ntmps60
  go_wp2_with fail
  refine (KO.out _).mono ?_
  rintro e w1 ⟨rfl,rfl⟩
  go_wp2
  exact bodyPost_ret (v:=.tuple #[.string ⟨#[]⟩,.int .i64 (-1)]) (by simp [results,Tryz.results60,go_sem]) rfl ⟨rfl,Below.refl _ _⟩
end Go.Proofs.YtembljihmnmmfaaGreat
