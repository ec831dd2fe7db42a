/- Texts of the proof, merged. -/
import Derived.RegionTactic
import Derived.ChangeAlike
import Derived.Deep.QuietTactic
import Derived.BigQuiet
import Derived.OwnWalk
import Derived.Test.YtembljihmnmmfaaGreatKB2
namespace Go.Proofs.YtembljihmnmmfaaGreat
set_option maxHeartbeats 1000000
set_option maxRecDepth 100000
set_option linter.unusedVariables false
set_option linter.unusedSimpArgs false
open Go.RowKit
def Qo (zs:List Int):List Value:=zs.map fun x=>Value.int .i64 x
theorem xp (zs:List Int):(Qo zs).length=zs.length:=by simp [Qo]
theorem Xv (zs:List Int) (j:Nat) (h:j<zs.length):(Qo zs)[j]? = some (.int .i64 (zs.getD j 0)):=by simp [Qo,List.getD_eq_getElem?_getD,h]
theorem ACe (zs:List Int) (j:Nat) (x:Int):(Qo zs).set j (.int .i64 x)=Qo (zs.set j x):=by simp [Qo,List.map_set]
theorem Tryz.infoI:(Tryz.prog.info? 3).map (fun i=>(i.zero,i.size,i.bytes))=some (some (.int .i64 0),1,8):=by kernel_rfl
theorem Ints.ofOwn {w:World} {base n c:Nat} {a:Option Addr} {zs:List Int} (h:w.ownsRow base 3 1 (.slice a n c) n (Qo zs)) (hn:n≤140737488355328) (hr:∀ x∈zs,-9223372036854775808≤x∧x≤9223372036854775807):zs.length=n∧Ints w w.heap.size a zs:=by
 have hl:zs.length=n:=by have:=h.1;rw [xp] at this;omega
 refine ⟨hl,by omega,hr,fun h0=>?_⟩
 rcases h.2 with ⟨hv,hn0⟩ | ⟨g,cap,cur,hv,_⟩
 ·omega
 ·simp only [Value.slice.injEq] at hv
  obtain ⟨rfl,_,rfl⟩:=hv
  refine ⟨g,0,rfl,(h.lt g rfl).2,fun i hi=>?_⟩
  rw [Nat.zero_add,h.cellAt i (by omega),Xv zs i hi]
theorem ABn (n:Nat):(madeCells #[Value.int .i64 0] n).toList=Qo (List.replicate n 0):=by
 rw [toList_madeCells_one];simp [Qo]
def Code (w:World) (B:Nat) (a:Option Addr) (len cap:Nat) (zs:List Int):Prop :=
 len≤9223372036854775807∧(∀ n∈zs,(Lit.int .u8 n).wf=true)∧(0<len→∃ b off,a=some ⟨b,off,none⟩∧b<B∧∀ i,i<len→w.cell? ⟨b,off+i,none⟩=some (.int .u8 (zs.getD i 0)))
theorem Code.keep {w w':World} {B:Nat} {a:Option Addr} {len cap:Nat} {zs:List Int} (h:Code w B a len cap zs) (hk:∀ p:Addr,p.block<B→w'.cell? p=w.cell? p):Code w' B a len cap zs :=
 ⟨h.1,h.2.1,fun h0=>by
  obtain ⟨b,off,e,hb,hc⟩:=h.2.2 h0
  exact ⟨b,off,e,hb,fun i hi=>(hk _ hb).trans (hc i hi)⟩⟩
theorem Code.below {w w':World} {B:Nat} {a:Option Addr} {len cap:Nat} {zs:List Int} (h:Code w B a len cap zs) (hb:Below B w w'):Code w' B a len cap zs:=h.keep fun _ hp=>hb.cell hp
theorem AKm {w:World} {p:Addr} {v:Value} (h:w.cell? p=some v):p.block<w.heap.size:=by
 rcases Nat.lt_or_ge p.block w.heap.size with hl | hl
 ·exact hl
 ·simp [World.cell?,Array.getElem?_eq_none hl] at h
theorem QJ {P:Program} {f:FuncId} {args:Array Value} {w:World} {a n:Nat} {v:Value}
 (h:Calls P f args (w.drewN (a+n)) fun e w'=>e=.returned v∧w.drewN (a+n)=w') :
 Calls P f args (w.drewN (a+n)) fun e w''=>e=.returned v∧∃ m,w''=w.drewN (a+m) :=
 h.mono fun _ _ ⟨he,hm⟩=>⟨he,n,hm.symm⟩
theorem Zg {P:Program} {f:FuncId} {args:Array Value} {w:World} {n:Nat} {v:Value}
 (h:Calls P f args (w.drewN n) fun e w'=>e=.returned v∧w.drewN n=w'):Calls P f args (w.drewN n) fun e w''=>e=.returned v∧∃ m,w''=w.drewN m :=
 h.mono fun _ _ ⟨he,hm⟩=>⟨he,n,hm.symm⟩
def fOk (zs:List Int):Bool:=decide (1≤zs.length∧zs.length≤260∧∀ k,k<zs.length→0≤zs.getD k 0∧zs.getD k 0≤1000000)
theorem Xs (zs:List Int):fOk zs=true↔1≤zs.length∧zs.length≤260∧∀ k,k<zs.length→0≤zs.getD k 0∧zs.getD k 0≤1000000:=by simp [fOk]
theorem ve {zs:List Int} (h:¬ (1≤zs.length∧zs.length≤260∧∀ k,k<zs.length→0≤zs.getD k 0∧zs.getD k 0≤1000000)):fOk zs=false:=by
 rw [Bool.eq_false_iff,Ne,Xs];exact h
set_option maxHeartbeats 1000000 in
set_option maxRecDepth 100000 in
theorem VF (a:Option Addr) (cap B:Nat) (zs:List Int) (w:World) (hz:Ints w B a zs) :
    Calls Tryz.prog 177 #[.slice a zs.length cap] w fun e w'=>e=.returned (.bool (fOk zs))∧w'=w:=by
  obtain ⟨n,hn⟩:∃ n,zs.length=n:=⟨_,rfl⟩
  have hN:=Qa hn
  have hl:=hz.1
  rw [hn] at hl ⊢
  by_cases h1:n<1
  · rw [ve (by rw [hn];omega)]
    go_enter Tryz.func177,Tryz.ntmps177
    go_wp2
    go_ret
    exact ⟨rfl,rfl⟩
  · by_cases h2:260<n
    · rw [ve (by rw [hn];omega)]
      go_enter Tryz.func177,Tryz.ntmps177
      go_wp2
      go_ret
      exact ⟨rfl,rfl⟩
    · obtain ⟨b,off,rfl,hb,hc⟩:=hz.2.2 (by omega)
      have HC:=Qa hc
      clear hc hn
      go_enter Tryz.func177,Tryz.ntmps177
      go_wp2
      go_loop [3] (fun i=>∃ k:Nat,k≤n∧i=.int .i64 k∧Hid (∀ j,j<k→0≤zs.getD j 0∧zs.getD j 0≤1000000)) (fun i=>n-(intOf i).toNat)
      case atStart=>exact ⟨0,by omega,rfl,Qa fun j hj=>by omega⟩
      case round =>
        obtain ⟨k,hk,rfl,H⟩:=hrel
        by_cases hlt:k<n
        · have ck:=HC.out k (by rw [hN.out];exact hlt)
          obtain ⟨x,hx⟩:∃ x,zs.getD k 0=x:=⟨_,rfl⟩
          rw [hx] at ck
          have HX:=Qa hx
          clear hx
          by_cases c1:x<0
          · have HF:Hid (fOk zs=false):=Qa (ve fun g=>by have:=g.2.2 k (by rw [hN.out];exact hlt);rw [HX.out] at this;omega)
            go_wp2
            go_ret
            exact ⟨Qk HF.out.symm,rfl⟩
          · by_cases c2:1000000<x
            · have HF:Hid (fOk zs=false):=Qa (ve fun g=>by have:=g.2.2 k (by rw [hN.out];exact hlt);rw [HX.out] at this;omega)
              go_wp2
              go_ret
              exact ⟨Qk HF.out.symm,rfl⟩
            · go_wp2
              go_round
              case rel=>exact ⟨k+1,by omega,by go_num,Qa fun j hj=>by
                rcases Nat.lt_or_ge j k with g | g
                · exact H.out j g
                · obtain rfl:j=k:=by omega
                  rw [HX.out];omega⟩
              case measure=>simp [intOf];omega
        · have HF:Hid (fOk zs=true):=Qa (by rw [Xs,hN.out];exact ⟨by omega,by omega,fun j hj=>H.out j (by omega)⟩)
          go_wp2
          go_ret
          exact ⟨Qk HF.out.symm,rfl⟩
def ZR (zs:List Int):Prop:=1≤zs.length∧zs.length≤260∧∀ k,k<zs.length→1≤zs.getD k 0∧zs.getD k 0≤20
instance (zs:List Int):Decidable (ZR zs):=by unfold ZR;exact inferInstance
def kSum (zs:List Int) (k:Nat):Nat:=rsum k fun j=>2^(20-(zs.getD j 0).toNat)
theorem zv (zs:List Int) (k:Nat):kSum zs (k+1)=kSum zs k+2^(20-(zs.getD k 0).toNat):=rfl
theorem AXi (zs:List Int) (k:Nat):kSum zs k≤1048576*k:=by
 induction k with
 | zero=>exact Nat.le_refl _
 | succ k ih =>
   rw [zv]
   have:2^(20-(zs.getD k 0).toNat)≤2^20:=Nat.pow_le_pow_right (by omega) (by omega)
   omega
def Zv (zs:List Int):Int:=if ZR zs then (kSum zs zs.length:Int) else -1
theorem JJ {zs:List Int} (h:ZR zs):Zv zs=(kSum zs zs.length:Int):=by unfold Zv;rw [if_pos h]
theorem XW {zs:List Int} (h:¬ ZR zs):Zv zs=-1:=by unfold Zv;rw [if_neg h]
theorem ADe (a:Option Addr) (cap B:Nat) (zs:List Int) (w:World) (hz:Ints w B a zs) :
 Calls Tryz.prog 168 #[.slice a zs.length cap] w fun e w'=>e=.returned (.int .i64 (Zv zs))∧w'=w:=by
 obtain ⟨n,hn⟩:∃ n,zs.length=n:=⟨_,rfl⟩
 have hN:=Qa hn
 have hl:=hz.1
 rw [hn] at hl ⊢
 by_cases h1:n<1
 ·rw [XW (fun g=>by have:=g.1;omega)]
  go_enter Tryz.func168,Tryz.ntmps168
  go_wp2
  go_ret
  exact ⟨rfl,rfl⟩
 ·by_cases h2:260<n
  ·rw [XW (fun g=>by have:=g.2.1;omega)]
   go_enter Tryz.func168,Tryz.ntmps168
   go_wp2
   go_ret
   exact ⟨rfl,rfl⟩
  ·obtain ⟨b,off,rfl,hb,hc⟩:=hz.2.2 (by omega)
   have HC:=Qa hc
   clear hc hn
   go_enter Tryz.func168,Tryz.ntmps168
   go_wp2
   go_loop [3,4] (fun v i=>∃ k q:Nat,k≤n∧i=.int .i64 k∧v=.int .i64 q∧Hid (q=kSum zs k)∧q≤1048576*k∧Hid (∀ j,j<k→1≤zs.getD j 0∧zs.getD j 0≤20)) (fun _ i=>n-(intOf i).toNat)
   case atStart=>exact ⟨0,0,by omega,rfl,rfl,Qa rfl,by omega,Qa fun j hj=>by omega⟩
   case round =>
    obtain ⟨k,q,hk,rfl,rfl,HQ,hq,H⟩:=hrel
    by_cases hlt:k<n
    ·have ck:=HC.out k (by rw [hN.out];exact hlt)
     obtain ⟨x,hx⟩:∃ x,zs.getD k 0=x:=⟨_,rfl⟩
     rw [hx] at ck
     have HX:=Qa hx
     clear hx
     by_cases c1:x<1
     ·have HF:Hid (Zv zs=-1):=Qa (XW fun g=>by have:=g.2.2 k (by rw [hN.out];exact hlt);rw [HX.out] at this;omega)
      go_wp2
      go_ret
      exact ⟨QN HF.out.symm,rfl⟩
     ·by_cases c2:20<x
      ·have HF:Hid (Zv zs=-1):=Qa (XW fun g=>by have:=g.2.2 k (by rw [hN.out];exact hlt);rw [HX.out] at this;omega)
       go_wp2
       go_ret
       exact ⟨QN HF.out.symm,rfl⟩
      ·obtain ⟨d,hd⟩:∃ d:Nat,(20:Int)-x=d:=⟨(20-x).toNat,by omega⟩
       have hd19:d≤19:=by omega
       have h2d:2^d≤2^19:=Nat.pow_le_pow_right (by omega) hd19
       have HD:Hid (20-(zs.getD k 0).toNat=d):=Qa (by rw [HX.out];omega)
       have hwd:wrap64 (2^d)=((2^d:Nat):Int):=by rw [show ((2:Int)^d)=((2^d:Nat):Int) by simp];exact QT _ (by omega)
       obtain ⟨p,hp⟩:∃ p,2^d=p:=⟨_,rfl⟩
       rw [hp] at hwd h2d
       have HP:=Qa hp
       clear hp
       go_wp2
       go_round
       case rel=>exact ⟨k+1,q+p,by omega,by go_num,by go_num,Qa (by rw [zv,HQ.out,HD.out,HP.out]),by omega,Qa fun j hj=>by
        rcases Nat.lt_or_ge j k with g | g
        ·exact H.out j g
        ·obtain rfl:j=k:=by omega
         rw [HX.out];omega⟩
       case measure=>simp [intOf];omega
    ·have HF:Hid (Zv zs=(q:Int)):=Qa (by
      have e:k=n:=by omega
      subst e
      rw [JJ ⟨by rw [hN.out];omega,by rw [hN.out];omega,fun j hj=>H.out j (by rw [hN.out] at hj;omega)⟩,hN.out,HQ.out])
     go_wp2
     go_ret
     exact ⟨QN HF.out.symm,rfl⟩
def lOk (zs:List Int):Bool:=decide (0≤Zv zs∧Zv zs≤1048576)
theorem zR (zs:List Int):-1≤Zv zs∧Zv zs≤272629760:=by
 by_cases h:ZR zs
 ·rw [JJ h]
  have:=AXi zs zs.length
  have:=h.2.1
  omega
 ·rw [XW h];omega
theorem qm (a:Option Addr) (cap B:Nat) (zs:List Int) (w:World) (hz:Ints w B a zs) :
 Calls Tryz.prog 136 #[.slice a zs.length cap] w fun e w'=>e=.returned (.bool (lOk zs))∧w'=w:=by
 have hk:=zR zs
 have HO:Hid (lOk zs=decide (0≤Zv zs∧Zv zs≤1048576)):=Qa rfl
 have HK:=Qa (fun W h=>ADe a cap B zs W h)
 obtain ⟨x,hx⟩:∃ x,Zv zs=x:=⟨_,rfl⟩
 rw [hx] at hk HO HK
 by_cases h0:0≤x
 ·go_enter Tryz.func136,Tryz.ntmps136
  go_wp2_with fail
  refine (HK.out _ hz).mono ?_
  rintro e w' ⟨rfl,rfl⟩
  go_wp2
  go_ret
  exact ⟨Qk (by rw [HO.out];simp [h0]),rfl⟩
 ·go_enter Tryz.func136,Tryz.ntmps136
  go_wp2_with fail
  refine (HK.out _ hz).mono ?_
  rintro e w' ⟨rfl,rfl⟩
  go_wp2
  go_ret
  exact ⟨Qk (by rw [HO.out];simp;omega),rfl⟩
theorem Zq {zs:List Int} (h:lOk zs=true):ZR zs:=by
 apply Classical.byContradiction
 intro g
 unfold lOk at h
 rw [XW g] at h
 simp at h
def lnF (ls:List Int) (s:Nat):Nat:=(ls.getD s 0).toNat
theorem Zk {ls:List Int} (h:ZR ls):∀ s,s<ls.length→1≤lnF ls s∧lnF ls s≤20:=fun s hs=>by
 have:=h.2.2 s hs
 unfold lnF;omega
theorem YQ {ls:List Int} (h:ZR ls) (s:Nat) (hs:s<ls.length):ls.getD s 0=(lnF ls s:Int):=by
 have:=h.2.2 s hs
 unfold lnF;omega
def ordF (ls:List Int):List Nat:=ordU ls.length (lnF ls) 20
def cdF (ls:List Int) (s:Nat):Nat:=qW ls.length (lnF ls) s
theorem AFu {ls:List Int} (h:ZR ls):(ordF ls).length=ls.length:=AFf _ _ (Zk h)
theorem ASb {ls:List Int} (s:Nat) (h:s∈ordF ls):s<ls.length:=((yl _ _ _ _).1 h).1
theorem ASu {ls:List Int} (h:lOk ls=true):rsum ls.length (fun t=>2^(20-lnF ls t))≤2^20:=by
 have hr:=Zq h
 unfold lOk at h
 rw [JJ hr] at h
 simp only [decide_eq_true_eq] at h
 have:kSum ls ls.length=rsum ls.length (fun t=>2^(20-lnF ls t)):=rfl
 omega
theorem ARl {ls:List Int} (h:lOk ls=true) (s:Nat) (hs:s<ls.length):cdF ls s<2^lnF ls s :=
 ASj _ _ s hs (Zk (Zq h) s hs).2 (ASu h)
theorem AVm {ls:List Int} (h:lOk ls=true) (s:Nat) (hs:s<ls.length):cdF ls s<1048576 :=
 Nat.lt_of_lt_of_le (ARl h s hs) (Nat.pow_le_pow_right (by omega) (Zk (Zq h) s hs).2)
theorem ADx {ls:List Int} (h:ZR ls):(ordF ls).Perm (List.range ls.length):=AAr _ _ (Zk h)
theorem AWb (ls:List Int):(ordF ls).Pairwise (fun a b=>bef (lnF ls) a b=true):=AEy _ _ _
theorem APt (ls:List Int):(ordF ls).Nodup:=vi _ _ _
theorem AXf {ls:List Int} (h:ZR ls) (s:Nat) (hs:s<ls.length):s∈ordF ls:=(ADx h).mem_iff.2 (List.mem_range.2 hs)
theorem AOs {ls:List Int} (h:ZR ls):∃ O:List Nat,ordF ls=O∧O.length=ls.length∧O.Nodup∧(∀ s∈O,s<ls.length)∧(∀ s,s<ls.length→s∈O)∧(∀ x T,O=x::T→cdF ls x=0) ∧
 (∀ (k t s:Nat) (hk:k+1<O.length),O[k]=t→O[k+1]=s→lnF ls t≤lnF ls s∧cdF ls s=(cdF ls t+1)*2^(lnF ls s-lnF ls t)):=by
 have h1:=AFu h
 have h2:=APt ls
 have h3:=fun s hs=>ASb (ls:=ls) s hs
 have h4:=fun s hs=>AXf h s hs
 have h5:=ADx h
 have h6:=AWb ls
 have h7:=Zk h
 generalize ordF ls=O at *
 refine ⟨O,rfl,h1,h2,h3,h4,?_,?_⟩
 ·rintro x T rfl
  have:=zY ls.length (lnF ls) (x::T) h5 h6 0 (by simp)
  simp only [List.getElem_cons_zero,List.take_zero,List.map_nil,List.sum_nil] at this
  unfold cdF qW
  rw [this,Nat.zero_div]
 ·intro k t s hk ht hs
  exact APg ls.length (lnF ls) O h5 h6 k hk t s ht hs (h7 s (h3 s (by rw [←hs];exact List.getElem_mem _))).2
def Zi (n:Nat) (ss:List Int):Bool:=decide (ss.length≤2000∧∀ k,k<ss.length→0≤ss.getD k 0∧ss.getD k 0<(n:Int))
theorem QZ (n:Nat) (ss:List Int):Zi n ss=true↔ss.length≤2000∧∀ k,k<ss.length→0≤ss.getD k 0∧ss.getD k 0<(n:Int):=by simp [Zi]
def qw (ls:List Int) (s:Nat):List Nat:=Qh (cdF ls s) (lnF ls s)
def hit (ls:List Int) (s:ByteArray) (a n i:Nat):Prop:=i<ls.length∧lnF ls i=n∧a+n≤8*s.size∧num (row s a n)=cdF ls i
inductive Reads (ls:List Int) (s:ByteArray):Nat→List Nat→Nat→Prop
 | nil (a:Nat):Reads ls s a [] a
 | cons (a n i:Nat) (xs:List Nat) (b:Nat) (h:hit ls s a n i) (hr:Reads ls s (a+n) xs b):Reads ls s a (i::xs) b
theorem Reads.snoc {ls:List Int} {s:ByteArray} {a b n i:Nat} {xs:List Nat} (h:Reads ls s a xs b) (hh:hit ls s b n i):Reads ls s a (xs++[i]) (b+n):=by
 induction h with
 | nil a=>exact .cons _ _ _ _ _ hh (.nil _)
 | cons a m j xs b h hr ih=>exact .cons _ _ _ _ _ h (ih hh)
theorem Reads.le {ls:List Int} {s:ByteArray} {a b:Nat} {xs:List Nat} (h:Reads ls s a xs b) (ha:a≤8*s.size):b≤8*s.size:=by
 induction h with
 | nil a=>exact ha
 | cons a n i xs b hh hr ih=>exact ih hh.2.2.1
theorem Reads.mem {ls:List Int} {s:ByteArray} {a b:Nat} {xs:List Nat} (h:Reads ls s a xs b):∀ x∈xs,x<ls.length:=by
 induction h with
 | nil a=>intro x hx;simp at hx
 | cons a n i xs b hh hr ih =>
   intro x hx
   rcases List.mem_cons.1 hx with rfl | hx
   ·exact hh.1
   ·exact ih x hx
def top (m b:Nat):Nat:=m / 16777216 ^^^ b
theorem APp (m b:Nat) (hm:m<4294967296) (hb:b<256):top m b<256:=Nat.xor_lt_two_pow (n:=8) (by omega) hb
theorem AZp (m b:Nat) (hm:m<4294967296) (hb:b<256):bits .xor .u8 ((m:Int) / 16777216) (b:Int)=(top m b:Int) :=
 (congrArg (fun z=>bits .xor .u8 z (b:Int)) (show ((m:Int) / 16777216)=((m / 16777216:Nat):Int) by omega)).trans (u8_xor_nat (m / 16777216) b (by omega) hb)
theorem ATd (m b:Nat) (hm:m<4294967296) (hb:b<256):bits .xor .u32 ((m:Int)*256 % 4294967296) (Yc (top m b):Int)=(step m b:Int):=by
 rw [AMa m b hm hb]
 exact (congrArg (fun z=>bits .xor .u32 z (Yc (top m b):Int)) (show ((m:Int)*256 % 4294967296)=((m*256 % 4294967296:Nat):Int) by omega)).trans (u32_xor_nat _ _ (by omega) (ATm _ (APp m b hm hb)))
def crcI (m:Int) (s:ByteArray):Int:=if 0≤m∧m≤4294967295 then (crcL m.toNat (Qb s):Int) else -1
theorem YI (s:ByteArray):∀ b∈Qb s,b<256:=by
 intro b hb
 simp only [Qb,List.mem_map] at hb
 obtain ⟨x,_,rfl⟩:=hb
 exact UInt8.toNat_lt x
theorem ADq (m:Nat) (s:ByteArray) (h:m<4294967296):crcI m s=(crcL m (Qb s):Int):=by unfold crcI;rw [if_pos (by omega)];simp
theorem AXr (m:Int) (s:ByteArray) (h:¬ (0≤m∧m≤4294967295)):crcI m s=-1:=by unfold crcI;rw [if_neg h]
def crcK (m:Nat) (s:ByteArray) (k:Nat):Nat:=crcL m ((Qb s).take k)
theorem AQp (m:Nat) (s:ByteArray):crcK m s 0=m:=by simp [crcK,crcL]
theorem AYm (m:Nat) (s:ByteArray) (k:Nat) (h:m<4294967296):crcK m s k<4294967296:=xM _ _ h fun b hb=>YI s b (List.mem_of_mem_take hb)
theorem AOw (m:Nat) (s:ByteArray) (k:Nat) (h:k<s.size):crcK m s (k+1)=step (crcK m s k) s[k].toNat:=by
 have hl:k<(Qb s).length:=by rw [Qf];exact h
 have e:(Qb s)[k]=s[k].toNat:=by
  rw [Xi,←Zn];simp [List.getD_eq_getElem?_getD,hl]
 unfold crcK
 rw [List.take_succ_eq_append_getElem hl,AOx,e]
theorem ASh (m:Nat) (s:ByteArray):crcK m s s.size=crcL m (Qb s):=by
 unfold crcK;rw [List.take_of_length_le (by rw [Qf];exact Nat.le_refl _)]
def upP:Nat→List Nat
 | 0=>[]
 | k+1=>upP k++[1,0]
def dnP:Nat→List Nat
 | 0=>[]
 | k+1=>dnP k++[1,1]
theorem ATu (k:Nat):upP (k+1)=1::0::upP k:=by
 induction k with
 | zero=>rfl
 | succ k ih =>
   have e:upP (k+1)++[1,0]=(1::0::upP k)++[1,0]:=by rw [ih]
   exact e
theorem AVc (k:Nat):dnP (k+1)=1::1::dnP k:=by
 induction k with
 | zero=>rfl
 | succ k ih =>
   have e:dnP (k+1)++[1,1]=(1::1::dnP k)++[1,1]:=by rw [ih]
   exact e
theorem AZy (k:Nat):upB k=upP k++[0]:=by
 induction k with
 | zero=>rfl
 | succ k ih=>rw [upB,ih,ATu];rfl
theorem BAb (k:Nat):dnB k=dnP k++[0]:=by
 induction k with
 | zero=>rfl
 | succ k ih=>rw [dnB,ih,AVc];rfl
theorem AXq (k:Nat):(upP k).length=2*k:=by
 induction k with
 | zero=>rfl
 | succ k ih=>simp only [upP,List.length_append,ih,List.length_cons,List.length_nil];omega
theorem AXw (k:Nat):(dnP k).length=2*k:=by
 induction k with
 | zero=>rfl
 | succ k ih=>simp only [dnP,List.length_append,ih,List.length_cons,List.length_nil];omega
theorem AXt (now x:Nat):Vt now x=upP (x-now)++dnP (now-x)++[0]:=by
 unfold Vt
 by_cases h:now≤x
 ·rw [if_pos h,AZy,show now-x=0 by omega];simp [dnP]
 ·rw [if_neg h,BAb,show x-now=0 by omega];simp [upP]
def lnL (ls:List Int):List Nat:=(List.range ls.length).map (lnF ls)
theorem AXy (ls:List Int) (k:Nat) (h:k<ls.length):(lnL ls)[k]? = some (lnF ls k):=by simp [lnL,h]
theorem AFk (ls:List Int) (k:Nat) (h:k<ls.length):(lnL ls).take (k+1)=(lnL ls).take k++[lnF ls k]:=by
 rw [List.take_add_one,AXy ls k h];rfl
def putN (ls:List Int) (k:Nat):List Nat:=Qh (lnF ls 0) 5++Vb (lnF ls 0) ((lnL ls).take k)
def nowN (ls:List Int) (k:Nat):Nat:=qV (lnF ls 0) ((lnL ls).take k)
def put5 (ls:List Int):List Nat:=putN ls ls.length
theorem zp (ls:List Int):putN ls 0=Qh (lnF ls 0) 5:=by simp [putN,Vb]
theorem ACc (ls:List Int):nowN ls 0=lnF ls 0:=rfl
theorem xk (ls:List Int) (k:Nat) (h:k<ls.length):nowN ls (k+1)=lnF ls k:=by
 unfold nowN;rw [AFk ls k h,AMh]
theorem xn (ls:List Int) (k:Nat) (h:k<ls.length):putN ls (k+1)=putN ls k++Vt (nowN ls k) (lnF ls k):=by
 unfold putN nowN;rw [AFk ls k h,AHv,List.append_assoc]
theorem yH {ls:List Int} (h:ZR ls) (k:Nat) (hk:k≤ls.length):1≤nowN ls k∧nowN ls k≤20:=by
 cases k with
 | zero=>exact Zk h 0 (by have:=h.1;omega)
 | succ k=>rw [xk ls k (by omega)];exact Zk h k (by omega)
theorem AKp {ls:List Int} (h:ZR ls) (k:Nat) (hk:k≤ls.length):(putN ls k).length≤5+39*k:=by
 induction k with
 | zero=>rw [zp,Qt];exact Nat.le_refl _
 | succ k ih =>
   have h1:=ih (by omega)
   have h2:=yH h k (by omega)
   have h3:=Zk h k (by omega)
   rw [xn ls k (by omega),List.length_append,ABp]
   unfold gap
   omega
def gapS (ls:List Int) (k:Nat):Nat:=rsum k fun i=>if i=0 then 0 else gap (lnF ls (i-1)) (lnF ls i)
theorem ABm (ls:List Int) (k:Nat):gapS ls (k+1)=gapS ls k+if k=0 then 0 else gap (lnF ls (k-1)) (lnF ls k):=rfl
theorem ALs (ls:List Int) (k:Nat) (hk:k≤ls.length):(putN ls k).length=5+k+2*gapS ls k:=by
 induction k with
 | zero=>rw [zp,Qt];rfl
 | succ k ih =>
   rw [xn ls k (by omega),List.length_append,ABp,ih (by omega),ABm]
   cases k with
   | zero=>rw [ACc,if_pos rfl];unfold gap;omega
   | succ k=>rw [xk ls k (by omega),if_neg (by omega),Nat.add_sub_cancel];omega
def qR (ls:List Int):Int:=if lOk ls=true then ((put5 ls).length:Int) else -1
def AVw (s:ByteArray) (a:Nat) (xs:List Nat) (c:Nat):Prop:=a+5≤8*s.size∧StpL s (a+5) (num (row s a 5)) xs c
theorem AVw.le {s:ByteArray} {a b:Nat} {xs:List Nat} (h:AVw s a xs b):b≤8*s.size:=(h.2.le h.1).2
theorem AVw.range {s:ByteArray} {a b:Nat} {xs:List Nat} (h:AVw s a xs b):∀ x∈xs,1≤x∧x≤20:=h.2.range
theorem AAn {ls:List Int} (h:lOk ls=true):qR ls=((put5 ls).length:Int):=by unfold qR;rw [if_pos h]
theorem AHa (s:ByteArray) (at0 n0 b:Nat) (T:TypeId) (w:World) (hs:s.size≤1048576) (hn:n0≤32) (hl:at0+n0≤8*s.size)
 (hb:Has w b T #[.string s,.int .i64 at0]) :
 Calls Tryz.prog 75 #[.pointer (some ⟨b,0,none⟩),.int .i64 n0] w fun e w' =>
  e=.returned (.int .i64 (num (row s at0 n0)))∧Has w' b T #[.string s,.int .i64 ((at0+n0:Nat):Int)]∧Only b w w':=by
 go_enter Tryz.func75,Tryz.ntmps75
 go_wp2
 go_loopw [1,5,6,7,8] (fun n v _ _ _ wr=>∃ i p m:Nat,Hid (i+m=n0)∧Hid (p=at0+i)∧p+m≤8*s.size∧n=.int .i64 m∧v=.int .i64 (num (row s at0 i))∧Has wr b T #[.string s,.int .i64 p]∧Only b w wr) (fun n _ _ _ _ _=>(intOf n).toNat)
 case atStart=>exact ⟨0,at0,n0,Qa (by omega),Qa rfl,hl,rfl,rfl,hb,Only.refl _ _⟩
 case round =>
  obtain ⟨i,p,m,H1,H2,hpm,rfl,rfl,hB,hO⟩:=hrel
  have c0:=hB.cell 0
  have c1:=hB.cell 1
  have f1:=hB.free 1
  simp at c0 c1
  by_cases hlt:0<m
  ·have hp8:p / 8<s.size:=by omega
   have hi8:0≤(p:Int) / 8∧(p:Int) / 8<s.size:=by omega
   by_cases hm:m≤8-p % 8
   ·go_wp2
    go_quiet (fail)
    go_wp2
    have hs1:=ABc s at0 i p m H2.out (by have:=H1.out;omega) hm hp8
    refine ⟨⟨i+m,p+m,0,Qa (by have:=H1.out;omega),Qa (by have:=H2.out;omega),by omega,rfl,?_,?_,?_⟩,?_⟩
    ·rw [hs1]
    ·have:=(hB.drewN nq).store 1 (.int .i64 (↑p+↑m))
     simpa using this
    ·exact (hO.drewN nq).store (.inl rfl) _
    ·simp [intOf];omega
   ·go_wp2
    go_quiet (fail)
    go_wp2
    have hs1:=ADf s at0 i p H2.out (by have:=H1.out;omega) hp8
    refine ⟨⟨i+(8-p % 8),p+(8-p % 8),m-(8-p % 8),Qa (by have:=H1.out;omega),Qa (by have:=H2.out;omega),by omega,?_,?_,?_,?_⟩,?_⟩
    ·rw [show ((m-(8-p % 8):Nat):Int)=(m:Int)-(8-(p:Int) % 8) by omega]
    ·rw [hs1]
    ·have:=(hB.drewN nq).store 1 (.int .i64 (↑p+(8-↑p % 8)))
     rw [show ((p+(8-p % 8):Nat):Int)=(p:Int)+(8-(p:Int) % 8) by omega]
     simpa using this
    ·exact (hO.drewN nq).store (.inl rfl) _
    ·simp [intOf];omega
  ·go_wp2
   go_ret
   have hin:i=n0:=by have:=H1.out;omega
   have hpn:p=at0+n0:=by have:=H2.out;omega
   subst hin;subst hpn
   exact ⟨rfl,hB,hO⟩
def symB (zs:List Int) (lo hi:Int):Bool:=decide (1≤zs.length∧zs.length≤260∧∀ k,k<zs.length→lo≤zs.getD k 0∧zs.getD k 0≤hi)
theorem qZ (zs:List Int) (lo hi:Int):symB zs lo hi=true↔1≤zs.length∧zs.length≤260∧∀ k,k<zs.length→lo≤zs.getD k 0∧zs.getD k 0≤hi:=by simp [symB]
theorem xw {zs:List Int} {lo hi:Int} (h:¬ (1≤zs.length∧zs.length≤260∧∀ k,k<zs.length→lo≤zs.getD k 0∧zs.getD k 0≤hi)):symB zs lo hi=false:=by
 rw [Bool.eq_false_iff,Ne,qZ];exact h
theorem yo (a:Option Addr) (cap B:Nat) (zs:List Int) (lo hi:Int) (w:World) (hz:Ints w B a zs) :
 Calls Tryz.prog 187 #[.slice a zs.length cap,.int .i64 lo,.int .i64 hi] w fun e w'=>e=.returned (.bool (symB zs lo hi))∧w'=w:=by
 obtain ⟨n,hn⟩:∃ n,zs.length=n:=⟨_,rfl⟩
 have hN:=Qa hn
 have hl:=hz.1
 rw [hn] at hl ⊢
 by_cases h1:n<1
 ·rw [xw (by rw [hn];omega)]
  go_enter Tryz.func187,Tryz.ntmps187
  go_wp2
  go_ret
  exact ⟨rfl,rfl⟩
 ·by_cases h2:260<n
  ·rw [xw (by rw [hn];omega)]
   go_enter Tryz.func187,Tryz.ntmps187
   go_wp2
   go_ret
   exact ⟨rfl,rfl⟩
  ·obtain ⟨b,off,rfl,hb,hc⟩:=hz.2.2 (by omega)
   have HC:=Qa hc
   clear hc hn
   go_enter Tryz.func187,Tryz.ntmps187
   go_wp2
   go_loop [19] (fun i=>∃ k:Nat,k≤n∧i=.int .i64 k∧Hid (∀ j,j<k→lo≤zs.getD j 0∧zs.getD j 0≤hi)) (fun i=>n-(intOf i).toNat)
   case atStart=>exact ⟨0,by omega,rfl,Qa fun j hj=>by omega⟩
   case round =>
    obtain ⟨k,hk,rfl,H⟩:=hrel
    by_cases hlt:k<n
    ·have ck:=HC.out k (by rw [hN.out];exact hlt)
     obtain ⟨x,hx⟩:∃ x,zs.getD k 0=x:=⟨_,rfl⟩
     rw [hx] at ck
     have HX:=Qa hx
     clear hx
     by_cases c1:x<lo
     ·have HF:Hid (symB zs lo hi=false):=Qa (xw fun g=>by have:=g.2.2 k (by rw [hN.out];exact hlt);rw [HX.out] at this;omega)
      go_wp2
      go_ret
      exact ⟨Qk HF.out.symm,rfl⟩
     ·by_cases c2:hi<x
      ·have HF:Hid (symB zs lo hi=false):=Qa (xw fun g=>by have:=g.2.2 k (by rw [hN.out];exact hlt);rw [HX.out] at this;omega)
       go_wp2
       go_ret
       exact ⟨Qk HF.out.symm,rfl⟩
      ·go_wp2
       go_round
       case rel=>exact ⟨k+1,by omega,by go_num,Qa fun j hj=>by
        rcases Nat.lt_or_ge j k with g | g
        ·exact H.out j g
        ·obtain rfl:j=k:=by omega
         rw [HX.out];omega⟩
       case measure=>simp [intOf];omega
    ·have HF:Hid (symB zs lo hi=true):=Qa (by rw [qZ,hN.out];exact ⟨by omega,by omega,fun j hj=>H.out j (by omega)⟩)
     go_wp2
     go_ret
     exact ⟨Qk HF.out.symm,rfl⟩
theorem ACk (a:Option Addr) (cap B:Nat) (zs:List Int) (w:World) (hz:Ints w B a zs) :
 Calls Tryz.prog 163 #[.slice a zs.length cap] w fun e w'=>e=.returned (.int .i64 (Zv zs))∧w'=w:=by
 have K:=Qa (yo a cap B zs 1 20 w hz)
 obtain ⟨n,hn⟩:∃ n,zs.length=n:=⟨_,rfl⟩
 have hN:=Qa hn
 have hl:=hz.1
 rw [hn] at hl K ⊢
 by_cases hr:symB zs 1 20=true
 ·have hrr:=(qZ zs 1 20).1 hr
  rw [hr] at K
  have HR:=Qa hrr
  have h1:1≤n:=by rw [←hn];exact hrr.1
  have h2:n≤260:=by rw [←hn];exact hrr.2.1
  obtain ⟨b,off,rfl,hb,hc⟩:=hz.2.2 (by omega)
  have HC:=Qa hc
  clear hc hn hr hrr
  go_enter Tryz.func163,Tryz.ntmps163
  go_wp2_with fail
  refine K.out.mono ?_
  rintro e w' ⟨rfl,rfl⟩
  go_wp2
  go_loop [3,11] (fun v i=>∃ k q:Nat,k≤n∧i=.int .i64 k∧v=.int .i64 q∧Hid (q=kSum zs k)∧q≤1048576*k) (fun _ i=>n-(intOf i).toNat)
  case atStart=>exact ⟨0,0,by omega,rfl,rfl,Qa rfl,by omega⟩
  case round =>
   obtain ⟨k,q,hk,rfl,rfl,HQ,hq⟩:=hrel
   by_cases hlt:k<n
   ·have ck:=HC.out k (by rw [hN.out];exact hlt)
    have hxr:=HR.out.2.2 k (by rw [hN.out];exact hlt)
    obtain ⟨x,hx⟩:∃ x,zs.getD k 0=x:=⟨_,rfl⟩
    rw [hx] at ck hxr
    have HX:=Qa hx
    clear hx
    obtain ⟨d,hd⟩:∃ d:Nat,(20:Int)-x=d:=⟨(20-x).toNat,by omega⟩
    have hd19:d≤19:=by omega
    have h2d:2^d≤2^19:=Nat.pow_le_pow_right (by omega) hd19
    have HD:Hid (20-(zs.getD k 0).toNat=d):=Qa (by rw [HX.out];omega)
    have hwd:wrap64 (2^d)=((2^d:Nat):Int):=by rw [show ((2:Int)^d)=((2^d:Nat):Int) by simp];exact QT _ (by omega)
    obtain ⟨p,hp⟩:∃ p,2^d=p:=⟨_,rfl⟩
    rw [hp] at hwd h2d
    have HP:=Qa hp
    clear hp
    go_wp2
    go_round
    case rel=>exact ⟨k+1,q+p,by omega,by go_num,by go_num,Qa (by rw [zv,HQ.out,HD.out,HP.out]),by omega⟩
    case measure=>simp [intOf];omega
   ·have HF:Hid (Zv zs=(q:Int)):=Qa (by
     have e:k=n:=by omega
     subst e
     rw [JJ HR.out,hN.out,HQ.out])
    go_wp2
    go_ret
    exact ⟨QN HF.out.symm,rfl⟩
 ·have hf:symB zs 1 20=false:=by simpa using hr
  rw [hf] at K
  rw [XW (fun g=>hr ((qZ zs 1 20).2 g))]
  go_enter Tryz.func163,Tryz.ntmps163
  go_wp2_with fail
  refine K.out.mono ?_
  rintro e w' ⟨rfl,rfl⟩
  go_wp2
  go_ret
  exact ⟨rfl,rfl⟩
theorem VY (a:Option Addr) (cap B:Nat) (zs:List Int) (w:World) (hz:Ints w B a zs) :
 Calls Tryz.prog 131 #[.slice a zs.length cap] w fun e w'=>e=.returned (.bool (lOk zs))∧w'=w:=by
 have hk:=zR zs
 have HO:Hid (lOk zs=decide (0≤Zv zs∧Zv zs≤1048576)):=Qa rfl
 have HK:=Qa (fun W h=>ACk a cap B zs W h)
 obtain ⟨x,hx⟩:∃ x,Zv zs=x:=⟨_,rfl⟩
 rw [hx] at hk HO HK
 by_cases h0:0≤x
 ·go_enter Tryz.func131,Tryz.ntmps131
  go_wp2_with fail
  refine (HK.out _ hz).mono ?_
  rintro e w' ⟨rfl,rfl⟩
  go_wp2
  go_ret
  exact ⟨Qk (by rw [HO.out];simp [h0]),rfl⟩
 ·go_enter Tryz.func131,Tryz.ntmps131
  go_wp2_with fail
  refine (HK.out _ hz).mono ?_
  rintro e w' ⟨rfl,rfl⟩
  go_wp2
  go_ret
  exact ⟨Qk (by rw [HO.out];simp;omega),rfl⟩
theorem Ints.lit (w:World) (cs:List Int) (hm:cs.length≤140737488355328) (hr:∀ x∈cs,-9223372036854775808≤x∧x≤9223372036854775807):Ints (w.alloc (.cells (Qo cs).toArray 3)) (w.heap.size+1) (some ⟨w.heap.size,0,none⟩) cs:=by
 refine ⟨hm,hr,fun h0=>⟨w.heap.size,0,rfl,by omega,fun i hi=>?_⟩⟩
 have h:=(Has.fresh w 3 (Qo cs).toArray).cell i
 rw [Nat.zero_add]
 refine h.trans ?_
 rw [List.getElem?_toArray]
 exact Xv cs i hi
end Go.Proofs.YtembljihmnmmfaaGreat
