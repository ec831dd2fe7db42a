/- Texts of the proof, merged. -/
import Derived.RegionTactic
import Derived.ChangeAlike
import Derived.Deep.QuietTactic
import Derived.BigQuiet
import Derived.OwnWalk
import Derived.Test.YtembljihmnmmfaaGreatKE2
namespace Go.Proofs.YtembljihmnmmfaaGreat
set_option maxHeartbeats 1000000
set_option maxRecDepth 100000
set_option linter.unusedVariables false
set_option linter.unusedSimpArgs false
open Go.RowKit
def Qn (zs:List Int):List Value:=zs.map fun x=>Value.int .i64 x
theorem zL (zs:List Int):(Qn zs).length=zs.length:=by simp [Qn]
theorem Xv (zs:List Int) (j:Nat) (h:j<zs.length):(Qn zs)[j]? = some (.int .i64 (zs.getD j 0)):=by simp [Qn,List.getD_eq_getElem?_getD,h]
theorem ABj (zs:List Int) (j:Nat) (x:Int):(Qn zs).set j (.int .i64 x)=Qn (zs.set j x):=by simp [Qn,List.map_set]
theorem Tryz.infoI:(Tryz.prog.info? 3).map (fun i=>(i.zero,i.size,i.bytes))=some (some (.int .i64 0),1,8):=by kernel_rfl
theorem Ints.ofOwn {w:World} {base n c:Nat} {a:Option Addr} {zs:List Int} (h:w.ownsRow base 3 1 (.slice a n c) n (Qn zs)) (hn:n≤140737488355328) (hr:∀ x∈zs,-9223372036854775808≤x∧x≤9223372036854775807):zs.length=n∧Ints w w.heap.size a zs:=by
 have hl:zs.length=n:=by have:=h.1;rw [zL] at this;omega
 refine ⟨hl,by omega,hr,fun h0=>?_⟩
 rcases h.2 with ⟨hv,hn0⟩ | ⟨g,cap,cur,hv,_⟩
 ·omega
 ·simp only [Value.slice.injEq] at hv
  obtain ⟨rfl,_,rfl⟩:=hv
  refine ⟨g,0,rfl,(h.lt g rfl).2,fun i hi=>?_⟩
  rw [Nat.zero_add,h.cellAt i (by omega),Xv zs i hi]
theorem ABs (n:Nat):(madeCells #[Value.int .i64 0] n).toList=Qn (List.replicate n 0):=by
 rw [toList_madeCells_one];simp [Qn]
def Code (w:World) (B:Nat) (a:Option Addr) (len cap:Nat) (zs:List Int):Prop :=
 len≤9223372036854775807∧(∀ n∈zs,(Lit.int .u8 n).wf=true)∧(0<len→∃ b off,a=some ⟨b,off,none⟩∧b<B∧∀ i,i<len→w.cell? ⟨b,off+i,none⟩=some (.int .u8 (zs.getD i 0)))
theorem Code.keep {w w':World} {B:Nat} {a:Option Addr} {len cap:Nat} {zs:List Int} (h:Code w B a len cap zs) (hk:∀ p:Addr,p.block<B→w'.cell? p=w.cell? p):Code w' B a len cap zs :=
 ⟨h.1,h.2.1,fun h0=>by
  obtain ⟨b,off,e,hb,hc⟩:=h.2.2 h0
  exact ⟨b,off,e,hb,fun i hi=>(hk _ hb).trans (hc i hi)⟩⟩
theorem Code.below {w w':World} {B:Nat} {a:Option Addr} {len cap:Nat} {zs:List Int} (h:Code w B a len cap zs) (hb:Below B w w'):Code w' B a len cap zs:=h.keep fun _ hp=>hb.cell hp
theorem AKo {w:World} {p:Addr} {v:Value} (h:w.cell? p=some v):p.block<w.heap.size:=by
 rcases Nat.lt_or_ge p.block w.heap.size with hl | hl
 ·exact hl
 ·simp [World.cell?,Array.getElem?_eq_none hl] at h
theorem QN {P:Program} {f:FuncId} {args:Array Value} {w:World} {a n:Nat} {v:Value}
 (h:Calls P f args (w.drewN (a+n)) fun e w'=>e=.returned v∧w.drewN (a+n)=w') :
 Calls P f args (w.drewN (a+n)) fun e w''=>e=.returned v∧∃ m,w''=w.drewN (a+m) :=
 h.mono fun _ _ ⟨he,hm⟩=>⟨he,n,hm.symm⟩
theorem Zq {P:Program} {f:FuncId} {args:Array Value} {w:World} {n:Nat} {v:Value}
 (h:Calls P f args (w.drewN n) fun e w'=>e=.returned v∧w.drewN n=w'):Calls P f args (w.drewN n) fun e w''=>e=.returned v∧∃ m,w''=w.drewN m :=
 h.mono fun _ _ ⟨he,hm⟩=>⟨he,n,hm.symm⟩
def fOk (zs:List Int):Bool:=decide (1≤zs.length∧zs.length≤260∧∀ k,k<zs.length→0≤zs.getD k 0∧zs.getD k 0≤1000000)
theorem Xt (zs:List Int):fOk zs=true↔1≤zs.length∧zs.length≤260∧∀ k,k<zs.length→0≤zs.getD k 0∧zs.getD k 0≤1000000:=by simp [fOk]
theorem yO {zs:List Int} (h:¬ (1≤zs.length∧zs.length≤260∧∀ k,k<zs.length→0≤zs.getD k 0∧zs.getD k 0≤1000000)):fOk zs=false:=by
 rw [Bool.eq_false_iff,Ne,Xt];exact h
set_option maxHeartbeats 1000000 in
set_option maxRecDepth 100000 in
theorem VG (a:Option Addr) (cap B:Nat) (zs:List Int) (w:World) (hz:Ints w B a zs) :
    Calls Tryz.prog 177 #[.slice a zs.length cap] w fun e w'=>e=.returned (.bool (fOk zs))∧w'=w:=by
  obtain ⟨n,hn⟩:∃ n,zs.length=n:=⟨_,rfl⟩
  have hN:=Qa hn
  have hl:=hz.1
  rw [hn] at hl ⊢
  by_cases h1:n<1
  · rw [yO (by rw [hn];omega)]
    go_enter Tryz.func177,Tryz.ntmps177
    go_wp2
    go_ret
    exact ⟨rfl,rfl⟩
  · by_cases h2:260<n
    · rw [yO (by rw [hn];omega)]
      go_enter Tryz.func177,Tryz.ntmps177
      go_wp2
      go_ret
      exact ⟨rfl,rfl⟩
    · obtain ⟨b,off,rfl,hb,hc⟩:=hz.2.2 (by omega)
      have HC:=Qa hc
      clear hc hn
      go_enter Tryz.func177,Tryz.ntmps177
      go_wp2
      go_loop [3] (fun i=>∃ k:Nat,k≤n∧i=.int .i64 k∧Hid (∀ j,j<k→0≤zs.getD j 0∧zs.getD j 0≤1000000)) (fun i=>n-(intOf i).toNat)
      case atStart=>exact ⟨0,by omega,rfl,Qa fun j hj=>by omega⟩
      case round =>
        obtain ⟨k,hk,rfl,H⟩:=hrel
        by_cases hlt:k<n
        · have ck:=HC.out k (by rw [hN.out];exact hlt)
          obtain ⟨x,hx⟩:∃ x,zs.getD k 0=x:=⟨_,rfl⟩
          rw [hx] at ck
          have HX:=Qa hx
          clear hx
          by_cases c1:x<0
          · have HF:Hid (fOk zs=false):=Qa (yO fun g=>by have:=g.2.2 k (by rw [hN.out];exact hlt);rw [HX.out] at this;omega)
            go_wp2
            go_ret
            exact ⟨Qo HF.out.symm,rfl⟩
          · by_cases c2:1000000<x
            · have HF:Hid (fOk zs=false):=Qa (yO fun g=>by have:=g.2.2 k (by rw [hN.out];exact hlt);rw [HX.out] at this;omega)
              go_wp2
              go_ret
              exact ⟨Qo HF.out.symm,rfl⟩
            · go_wp2
              go_round
              case rel=>exact ⟨k+1,by omega,by go_num,Qa fun j hj=>by
                rcases Nat.lt_or_ge j k with g | g
                · exact H.out j g
                · obtain rfl:j=k:=by omega
                  rw [HX.out];omega⟩
              case measure=>simp [intOf];omega
        · have HF:Hid (fOk zs=true):=Qa (by rw [Xt,hN.out];exact ⟨by omega,by omega,fun j hj=>H.out j (by omega)⟩)
          go_wp2
          go_ret
          exact ⟨Qo HF.out.symm,rfl⟩
def ZX (zs:List Int):Prop:=1≤zs.length∧zs.length≤260∧∀ k,k<zs.length→1≤zs.getD k 0∧zs.getD k 0≤20
instance (zs:List Int):Decidable (ZX zs):=by unfold ZX;exact inferInstance
def kSum (zs:List Int) (k:Nat):Nat:=rsum k fun j=>2^(20-(zs.getD j 0).toNat)
theorem xf (zs:List Int) (k:Nat):kSum zs (k+1)=kSum zs k+2^(20-(zs.getD k 0).toNat):=rfl
theorem AZu (zs:List Int) (k:Nat):kSum zs k≤1048576*k:=by
 induction k with
 | zero=>exact Nat.le_refl _
 | succ k ih =>
   rw [xf]
   have:2^(20-(zs.getD k 0).toNat)≤2^20:=Nat.pow_le_pow_right (by omega) (by omega)
   omega
def Zz (zs:List Int):Int:=if ZX zs then (kSum zs zs.length:Int) else -1
theorem JY {zs:List Int} (h:ZX zs):Zz zs=(kSum zs zs.length:Int):=by unfold Zz;rw [if_pos h]
theorem XY {zs:List Int} (h:¬ ZX zs):Zz zs=-1:=by unfold Zz;rw [if_neg h]
theorem ACn (a:Option Addr) (cap B:Nat) (zs:List Int) (w:World) (hz:Ints w B a zs) :
 Calls Tryz.prog 168 #[.slice a zs.length cap] w fun e w'=>e=.returned (.int .i64 (Zz zs))∧w'=w:=by
 obtain ⟨n,hn⟩:∃ n,zs.length=n:=⟨_,rfl⟩
 have hN:=Qa hn
 have hl:=hz.1
 rw [hn] at hl ⊢
 by_cases h1:n<1
 ·rw [XY (fun g=>by have:=g.1;omega)]
  go_enter Tryz.func168,Tryz.ntmps168
  go_wp2
  go_ret
  exact ⟨rfl,rfl⟩
 ·by_cases h2:260<n
  ·rw [XY (fun g=>by have:=g.2.1;omega)]
   go_enter Tryz.func168,Tryz.ntmps168
   go_wp2
   go_ret
   exact ⟨rfl,rfl⟩
  ·obtain ⟨b,off,rfl,hb,hc⟩:=hz.2.2 (by omega)
   have HC:=Qa hc
   clear hc hn
   go_enter Tryz.func168,Tryz.ntmps168
   go_wp2
   go_loop [3,4] (fun v i=>∃ k q:Nat,k≤n∧i=.int .i64 k∧v=.int .i64 q∧Hid (q=kSum zs k)∧q≤1048576*k∧Hid (∀ j,j<k→1≤zs.getD j 0∧zs.getD j 0≤20)) (fun _ i=>n-(intOf i).toNat)
   case atStart=>exact ⟨0,0,by omega,rfl,rfl,Qa rfl,by omega,Qa fun j hj=>by omega⟩
   case round =>
    obtain ⟨k,q,hk,rfl,rfl,HQ,hq,H⟩:=hrel
    by_cases hlt:k<n
    ·have ck:=HC.out k (by rw [hN.out];exact hlt)
     obtain ⟨x,hx⟩:∃ x,zs.getD k 0=x:=⟨_,rfl⟩
     rw [hx] at ck
     have HX:=Qa hx
     clear hx
     by_cases c1:x<1
     ·have HF:Hid (Zz zs=-1):=Qa (XY fun g=>by have:=g.2.2 k (by rw [hN.out];exact hlt);rw [HX.out] at this;omega)
      go_wp2
      go_ret
      exact ⟨QX HF.out.symm,rfl⟩
     ·by_cases c2:20<x
      ·have HF:Hid (Zz zs=-1):=Qa (XY fun g=>by have:=g.2.2 k (by rw [hN.out];exact hlt);rw [HX.out] at this;omega)
       go_wp2
       go_ret
       exact ⟨QX HF.out.symm,rfl⟩
      ·obtain ⟨d,hd⟩:∃ d:Nat,(20:Int)-x=d:=⟨(20-x).toNat,by omega⟩
       have hd19:d≤19:=by omega
       have h2d:2^d≤2^19:=Nat.pow_le_pow_right (by omega) hd19
       have HD:Hid (20-(zs.getD k 0).toNat=d):=Qa (by rw [HX.out];omega)
       have hwd:wrap64 (2^d)=((2^d:Nat):Int):=by rw [show ((2:Int)^d)=((2^d:Nat):Int) by simp];exact Zf _ (by omega)
       obtain ⟨p,hp⟩:∃ p,2^d=p:=⟨_,rfl⟩
       rw [hp] at hwd h2d
       have HP:=Qa hp
       clear hp
       go_wp2
       go_round
       case rel=>exact ⟨k+1,q+p,by omega,by go_num,by go_num,Qa (by rw [xf,HQ.out,HD.out,HP.out]),by omega,Qa fun j hj=>by
        rcases Nat.lt_or_ge j k with g | g
        ·exact H.out j g
        ·obtain rfl:j=k:=by omega
         rw [HX.out];omega⟩
       case measure=>simp [intOf];omega
    ·have HF:Hid (Zz zs=(q:Int)):=Qa (by
      have e:k=n:=by omega
      subst e
      rw [JY ⟨by rw [hN.out];omega,by rw [hN.out];omega,fun j hj=>H.out j (by rw [hN.out] at hj;omega)⟩,hN.out,HQ.out])
     go_wp2
     go_ret
     exact ⟨QX HF.out.symm,rfl⟩
def lOk (zs:List Int):Bool:=decide (0≤Zz zs∧Zz zs≤1048576)
theorem zU (zs:List Int):-1≤Zz zs∧Zz zs≤272629760:=by
 by_cases h:ZX zs
 ·rw [JY h]
  have:=AZu zs zs.length
  have:=h.2.1
  omega
 ·rw [XY h];omega
theorem AAi (a:Option Addr) (cap B:Nat) (zs:List Int) (w:World) (hz:Ints w B a zs) :
 Calls Tryz.prog 136 #[.slice a zs.length cap] w fun e w'=>e=.returned (.bool (lOk zs))∧w'=w:=by
 have hk:=zU zs
 have HO:Hid (lOk zs=decide (0≤Zz zs∧Zz zs≤1048576)):=Qa rfl
 have HK:=Qa (fun W h=>ACn a cap B zs W h)
 obtain ⟨x,hx⟩:∃ x,Zz zs=x:=⟨_,rfl⟩
 rw [hx] at hk HO HK
 by_cases h0:0≤x
 ·go_enter Tryz.func136,Tryz.ntmps136
  go_wp2_with fail
  refine (HK.out _ hz).mono ?_
  rintro e w' ⟨rfl,rfl⟩
  go_wp2
  go_ret
  exact ⟨Qo (by rw [HO.out];simp [h0]),rfl⟩
 ·go_enter Tryz.func136,Tryz.ntmps136
  go_wp2_with fail
  refine (HK.out _ hz).mono ?_
  rintro e w' ⟨rfl,rfl⟩
  go_wp2
  go_ret
  exact ⟨Qo (by rw [HO.out];simp;omega),rfl⟩
theorem Za {zs:List Int} (h:lOk zs=true):ZX zs:=by
 apply Classical.byContradiction
 intro g
 unfold lOk at h
 rw [XY g] at h
 simp at h
def lnF (ls:List Int) (s:Nat):Nat:=(ls.getD s 0).toNat
theorem QZ {ls:List Int} (h:ZX ls):∀ s,s<ls.length→1≤lnF ls s∧lnF ls s≤20:=fun s hs=>by
 have:=h.2.2 s hs
 unfold lnF;omega
theorem Jw {ls:List Int} (h:ZX ls) (s:Nat) (hs:s<ls.length):ls.getD s 0=(lnF ls s:Int):=by
 have:=h.2.2 s hs
 unfold lnF;omega
def ordF (ls:List Int):List Nat:=ordU ls.length (lnF ls) 20
def cdF (ls:List Int) (s:Nat):Nat:=qY ls.length (lnF ls) s
def cdL (ls:List Int):List Nat:=if lOk ls=true then (List.range ls.length).map (cdF ls) else []
theorem jM {ls:List Int} (h:ZX ls):(ordF ls).length=ls.length:=AGd _ _ (QZ h)
theorem AVh {ls:List Int} (s:Nat) (h:s∈ordF ls):s<ls.length:=((jE _ _ _ _).1 h).1
theorem ALx {ls:List Int} (h:lOk ls=true):(cdL ls).length=ls.length:=by unfold cdL;rw [if_pos h];simp
theorem AUl {ls:List Int} (h:lOk ls=true):rsum ls.length (fun t=>2^(20-lnF ls t))≤2^20:=by
 have hr:=Za h
 unfold lOk at h
 rw [JY hr] at h
 simp only [decide_eq_true_eq] at h
 have:kSum ls ls.length=rsum ls.length (fun t=>2^(20-lnF ls t)):=rfl
 omega
theorem AQd {ls:List Int} (h:lOk ls=true) (s:Nat) (hs:s<ls.length):cdF ls s<2^lnF ls s :=
 ATm _ _ s hs (QZ (Za h) s hs).2 (AUl h)
theorem jZ {ls:List Int} (h:lOk ls=true) (s:Nat) (hs:s<ls.length):cdF ls s<1048576 :=
 Nat.lt_of_lt_of_le (AQd h s hs) (Nat.pow_le_pow_right (by omega) (QZ (Za h) s hs).2)
theorem AEc {ls:List Int} (h:ZX ls):(ordF ls).Perm (List.range ls.length):=ABo _ _ (QZ h)
theorem BAf (ls:List Int):(ordF ls).Pairwise (fun a b=>bef (lnF ls) a b=true):=AGc _ _ _
theorem APt (ls:List Int):(ordF ls).Nodup:=yB _ _ _
theorem AXq {ls:List Int} (h:ZX ls) (s:Nat) (hs:s<ls.length):s∈ordF ls:=(AEc h).mem_iff.2 (List.mem_range.2 hs)
theorem AAs {ls:List Int} (h:ZX ls):∃ O:List Nat,ordF ls=O∧O.length=ls.length∧O.Nodup∧(∀ s∈O,s<ls.length)∧(∀ s,s<ls.length→s∈O)∧(∀ x T,O=x::T→cdF ls x=0) ∧
 (∀ (k t s:Nat) (hk:k+1<O.length),O[k]=t→O[k+1]=s→lnF ls t≤lnF ls s∧cdF ls s=(cdF ls t+1)*2^(lnF ls s-lnF ls t)):=by
 have h1:=jM h
 have h2:=APt ls
 have h3:=fun s hs=>AVh (ls:=ls) s hs
 have h4:=fun s hs=>AXq h s hs
 have h5:=AEc h
 have h6:=BAf ls
 have h7:=QZ h
 generalize ordF ls=O at *
 refine ⟨O,rfl,h1,h2,h3,h4,?_,?_⟩
 ·rintro x T rfl
  have:=xe ls.length (lnF ls) (x::T) h5 h6 0 (by simp)
  simp only [List.getElem_cons_zero,List.take_zero,List.map_nil,List.sum_nil] at this
  unfold cdF qY
  rw [this,Nat.zero_div]
 ·intro k t s hk ht hs
  exact APc ls.length (lnF ls) O h5 h6 k hk t s ht hs (h7 s (h3 s (by rw [←hs];exact List.getElem_mem _))).2
def ZI (n:Nat) (ss:List Int):Bool:=decide (ss.length≤2000∧∀ k,k<ss.length→0≤ss.getD k 0∧ss.getD k 0<(n:Int))
theorem Zv (n:Nat) (ss:List Int):ZI n ss=true↔ss.length≤2000∧∀ k,k<ss.length→0≤ss.getD k 0∧ss.getD k 0<(n:Int):=by simp [ZI]
def Yi (ls:List Int) (s:Nat):List Nat:=Qe (cdF ls s) (lnF ls s)
def hit (ls:List Int) (s:ByteArray) (a n i:Nat):Prop:=i<ls.length∧lnF ls i=n∧a+n≤8*s.size∧num (row s a n)=cdF ls i
inductive Reads (ls:List Int) (s:ByteArray):Nat→List Nat→Nat→Prop
 | nil (a:Nat):Reads ls s a [] a
 | cons (a n i:Nat) (xs:List Nat) (b:Nat) (h:hit ls s a n i) (hr:Reads ls s (a+n) xs b):Reads ls s a (i::xs) b
theorem Reads.snoc {ls:List Int} {s:ByteArray} {a b n i:Nat} {xs:List Nat} (h:Reads ls s a xs b) (hh:hit ls s b n i):Reads ls s a (xs++[i]) (b+n):=by
 induction h with
 | nil a=>exact .cons _ _ _ _ _ hh (.nil _)
 | cons a m j xs b h hr ih=>exact .cons _ _ _ _ _ h (ih hh)
theorem Reads.le {ls:List Int} {s:ByteArray} {a b:Nat} {xs:List Nat} (h:Reads ls s a xs b) (ha:a≤8*s.size):b≤8*s.size:=by
 induction h with
 | nil a=>exact ha
 | cons a n i xs b hh hr ih=>exact ih hh.2.2.1
theorem Reads.mem {ls:List Int} {s:ByteArray} {a b:Nat} {xs:List Nat} (h:Reads ls s a xs b):∀ x∈xs,x<ls.length:=by
 induction h with
 | nil a=>intro x hx;simp at hx
 | cons a n i xs b hh hr ih =>
   intro x hx
   rcases List.mem_cons.1 hx with rfl | hx
   ·exact hh.1
   ·exact ih x hx
theorem AMp (w b:Nat) (hw:w<4294967296) (hb:b<256):bits .xor .i64 (w:Int) ((b:Int)*16777216)=(upW 0 (w ^^^ b*16777216):Int) :=
 (congrArg (bits .xor .i64 (w:Int)) (show ((b:Int)*16777216)=((b*16777216:Nat):Int) by omega)).trans (VY w (b*16777216) (by omega) (by omega))
theorem vv (m b:Nat) (w:World) (hm:m<4294967296) (hb:b<256) :
 Calls Tryz.prog 148 #[.int .i64 m,.int .i64 b] w fun e w'=>e=.returned (.int .i64 (step m b))∧w'=w:=by
 have hd:decide (0≤(m:Int)∧(m:Int)≤4294967295)=true:=by simp;omega
 go_enter Tryz.func148,Tryz.ntmps148
 go_wp2_with (go_at_call 147;refine (qU _ _ (by omega) (by omega)).mono ?_;rintro e w' ⟨rfl,rfl⟩;rw [hd])
 go_loop [5,6] (fun v i=>∃ k:Nat,k≤8∧i=.int .i64 k∧v=.int .i64 (upW k (m ^^^ b*16777216))) (fun _ i=>8-(intOf i).toNat)
 case atStart=>exact ⟨0,by omega,rfl,congrArg _ (AMp m b hm hb)⟩
 case round =>
  obtain ⟨k,hk,rfl,rfl⟩:=hrel
  by_cases hlt:k<8
  ·obtain ⟨u,hu⟩:∃ u,u=upW k (m ^^^ b*16777216):=⟨_,rfl⟩
   have hul:u<4294967296:=by rw [hu];exact qr _ _ (qM hm (by omega))
   rw [←hu]
   have H:=Qa hu;clear hu
   go_wp2_with (go_at_call 176;refine (AVz u _ hul).mono ?_;rintro e w' ⟨rfl,rfl⟩)
   go_round
   case rel=>exact ⟨k+1,by omega,by go_num,by rw [jw,←H.out]⟩
   case measure=>simp [intOf];omega
  ·have hk8:k=8:=by omega
   subst hk8
   go_wp2
   go_ret
   exact ⟨rfl,rfl⟩
def top (m b:Nat):Nat:=m / 16777216 ^^^ b
theorem ASs (m b:Nat) (hm:m<4294967296) (hb:b<256):top m b<256:=Nat.xor_lt_two_pow (n:=8) (by omega) hb
theorem BAq (m b:Nat) (hm:m<4294967296) (hb:b<256):bits .xor .u8 ((m:Int) / 16777216) (b:Int)=(top m b:Int) :=
 (congrArg (fun z=>bits .xor .u8 z (b:Int)) (show ((m:Int) / 16777216)=((m / 16777216:Nat):Int) by omega)).trans (u8_xor_nat (m / 16777216) b (by omega) hb)
theorem ATp (m b:Nat) (hm:m<4294967296) (hb:b<256):bits .xor .u32 ((m:Int)*256 % 4294967296) (Yo (top m b):Int)=(step m b:Int):=by
 rw [ANx m b hm hb]
 exact (congrArg (fun z=>bits .xor .u32 z (Yo (top m b):Int)) (show ((m:Int)*256 % 4294967296)=((m*256 % 4294967296:Nat):Int) by omega)).trans (u32_xor_nat _ _ (by omega) (AVg _ (ASs m b hm hb)))
def crcI (m:Int) (s:ByteArray):Int:=if 0≤m∧m≤4294967295 then (crcL m.toNat (Qb s):Int) else -1
theorem YS (s:ByteArray):∀ b∈Qb s,b<256:=by
 intro b hb
 simp only [Qb,List.mem_map] at hb
 obtain ⟨x,_,rfl⟩:=hb
 exact UInt8.toNat_lt x
theorem jF (m:Nat) (s:ByteArray) (h:m<4294967296):crcI m s=(crcL m (Qb s):Int):=by unfold crcI;rw [if_pos (by omega)];simp
theorem ALt (m:Int) (s:ByteArray) (h:¬ (0≤m∧m≤4294967295)):crcI m s=-1:=by unfold crcI;rw [if_neg h]
def crcK (m:Nat) (s:ByteArray) (k:Nat):Nat:=crcL m ((Qb s).take k)
theorem ACf (m:Nat) (s:ByteArray):crcK m s 0=m:=by simp [crcK,crcL]
theorem AKx (m:Nat) (s:ByteArray) (k:Nat) (h:m<4294967296):crcK m s k<4294967296:=xR _ _ h fun b hb=>YS s b (List.mem_of_mem_take hb)
theorem ACh (m:Nat) (s:ByteArray) (k:Nat) (h:k<s.size):crcK m s (k+1)=step (crcK m s k) s[k].toNat:=by
 have hl:k<(Qb s).length:=by rw [Qi];exact h
 have e:(Qb s)[k]=s[k].toNat:=by
  rw [Xa,←Zj];simp [List.getD_eq_getElem?_getD,hl]
 unfold crcK
 rw [List.take_succ_eq_append_getElem hl,ASz,e]
theorem AFd (m:Nat) (s:ByteArray):crcK m s s.size=crcL m (Qb s):=by
 unfold crcK;rw [List.take_of_length_le (by rw [Qi];exact Nat.le_refl _)]
theorem vw (m:Int) (s:ByteArray) (w:World) (m1:-9223372036854775808≤m) (m2:m≤9223372036854775807) (hs:s.size≤maxLen) :
 Calls Tryz.prog 105 #[.int .i64 m,.string s] w fun e w'=>e=.returned (.int .i64 (crcI m s))∧w'=w:=by
 unfold maxLen at hs
 by_cases h:0≤m∧m≤4294967295
 ·have hd:decide (0≤m∧m≤4294967295)=true:=by simp;omega
  obtain ⟨m',rfl⟩:∃ q:Nat,m=q:=⟨m.toNat,by omega⟩
  have hm:m'<4294967296:=by omega
  rw [jF _ _ hm]
  go_enter Tryz.func105,Tryz.ntmps105
  go_wp2_with (go_at_call 147;refine (qU _ _ (by omega) (by omega)).mono ?_;rintro e w' ⟨rfl,rfl⟩;rw [hd])
  go_loop [0,5] (fun v i=>∃ k:Nat,k≤s.size∧i=.int .i64 k∧v=.int .i64 (crcK m' s k)) (fun _ i=>s.size-(intOf i).toNat)
  case atStart=>exact ⟨0,by omega,rfl,by rw [ACf]⟩
  case round =>
   obtain ⟨k,hk,rfl,rfl⟩:=hrel
   by_cases hlt:k<s.size
   ·obtain ⟨u,hu⟩:∃ u,u=crcK m' s k:=⟨_,rfl⟩
    have hul:u<4294967296:=by rw [hu];exact AKx _ _ _ hm
    have hb:s[k].toNat<256:=UInt8.toNat_lt _
    rw [←hu]
    have H:=Qa hu;clear hu
    go_wp2_with (go_at_call 148;refine (vv u s[k].toNat _ hul hb).mono ?_;rintro e w' ⟨rfl,rfl⟩)
    go_round
    case rel=>exact ⟨k+1,by omega,by go_num,by rw [ACh _ _ _ hlt,←H.out]⟩
    case measure=>simp [intOf];omega
   ·have hk8:k=s.size:=by omega
    subst hk8
    have hK:=Qa (AFd m' s)
    go_wp2
    go_ret
    exact ⟨QX (by rw [hK.out]),rfl⟩
 ·have hd:decide (0≤m∧m≤4294967295)=false:=by simp;omega
  rw [ALt _ _ h]
  go_enter Tryz.func105,Tryz.ntmps105
  go_wp2_with (go_at_call 147;refine (qU _ _ (by omega) (by omega)).mono ?_;rintro e w' ⟨rfl,rfl⟩;rw [hd])
  go_ret
  exact ⟨rfl,rfl⟩
def upP:Nat→List Nat
 | 0=>[]
 | k+1=>upP k++[1,0]
def dnP:Nat→List Nat
 | 0=>[]
 | k+1=>dnP k++[1,1]
theorem AVw (k:Nat):upP (k+1)=1::0::upP k:=by
 induction k with
 | zero=>rfl
 | succ k ih =>
   have e:upP (k+1)++[1,0]=(1::0::upP k)++[1,0]:=by rw [ih]
   exact e
theorem AUe (k:Nat):dnP (k+1)=1::1::dnP k:=by
 induction k with
 | zero=>rfl
 | succ k ih =>
   have e:dnP (k+1)++[1,1]=(1::1::dnP k)++[1,1]:=by rw [ih]
   exact e
theorem BBg (k:Nat):upB k=upP k++[0]:=by
 induction k with
 | zero=>rfl
 | succ k ih=>rw [upB,ih,AVw];rfl
theorem BBe (k:Nat):dnB k=dnP k++[0]:=by
 induction k with
 | zero=>rfl
 | succ k ih=>rw [dnB,ih,AUe];rfl
theorem ALh (k:Nat):(upP k).length=2*k:=by
 induction k with
 | zero=>rfl
 | succ k ih=>simp only [upP,List.length_append,ih,List.length_cons,List.length_nil];omega
theorem AKp (k:Nat):(dnP k).length=2*k:=by
 induction k with
 | zero=>rfl
 | succ k ih=>simp only [dnP,List.length_append,ih,List.length_cons,List.length_nil];omega
theorem ALb (now x:Nat):JR now x=upP (x-now)++dnP (now-x)++[0]:=by
 unfold JR
 by_cases h:now≤x
 ·rw [if_pos h,BBg,show now-x=0 by omega];simp [dnP]
 ·rw [if_neg h,BBe,show x-now=0 by omega];simp [upP]
def lnL (ls:List Int):List Nat:=(List.range ls.length).map (lnF ls)
theorem AZr (ls:List Int) (k:Nat) (h:k<ls.length):(lnL ls)[k]? = some (lnF ls k):=by simp [lnL,h]
theorem AEw (ls:List Int) (k:Nat) (h:k<ls.length):(lnL ls).take (k+1)=(lnL ls).take k++[lnF ls k]:=by
 rw [List.take_add_one,AZr ls k h];rfl
def putN (ls:List Int) (k:Nat):List Nat:=Qe (lnF ls 0) 5++Jg (lnF ls 0) ((lnL ls).take k)
def nowN (ls:List Int) (k:Nat):Nat:=qI (lnF ls 0) ((lnL ls).take k)
def put5 (ls:List Int):List Nat:=putN ls ls.length
theorem xc (ls:List Int):putN ls 0=Qe (lnF ls 0) 5:=by simp [putN,Jg]
theorem AAt (ls:List Int):nowN ls 0=lnF ls 0:=rfl
theorem zV (ls:List Int) (k:Nat) (h:k<ls.length):nowN ls (k+1)=lnF ls k:=by
 unfold nowN;rw [AEw ls k h,AOk]
theorem zQ (ls:List Int) (k:Nat) (h:k<ls.length):putN ls (k+1)=putN ls k++JR (nowN ls k) (lnF ls k):=by
 unfold putN nowN;rw [AEw ls k h,AKj,List.append_assoc]
theorem zm {ls:List Int} (h:ZX ls) (k:Nat) (hk:k≤ls.length):1≤nowN ls k∧nowN ls k≤20:=by
 cases k with
 | zero=>exact QZ h 0 (by have:=h.1;omega)
 | succ k=>rw [zV ls k (by omega)];exact QZ h k (by omega)
theorem vU {ls:List Int} (h:ZX ls) (k:Nat) (hk:k≤ls.length):(putN ls k).length≤5+39*k:=by
 induction k with
 | zero=>rw [xc,QD];exact Nat.le_refl _
 | succ k ih =>
   have h1:=ih (by omega)
   have h2:=zm h k (by omega)
   have h3:=QZ h k (by omega)
   rw [zQ ls k (by omega),List.length_append,AQh]
   unfold gap
   omega
theorem AYw (ls:List Int) (k:Nat):∀ b∈putN ls k,b<2:=by
 intro b hb
 unfold putN at hb
 rcases List.mem_append.1 hb with hb | hb
 ·exact Xp _ _ b hb
 ·exact ASt _ _ b hb
def AXf (s:ByteArray) (a:Nat) (xs:List Nat) (c:Nat):Prop:=a+5≤8*s.size∧StpL s (a+5) (num (row s a 5)) xs c
theorem AXf.le {s:ByteArray} {a b:Nat} {xs:List Nat} (h:AXf s a xs b):b≤8*s.size:=(h.2.le h.1).2
theorem AXf.range {s:ByteArray} {a b:Nat} {xs:List Nat} (h:AXf s a xs b):∀ x∈xs,1≤x∧x≤20:=h.2.range
theorem AHk (s:ByteArray) (at0 n0 b:Nat) (T:TypeId) (w:World) (hs:s.size≤1048576) (hn:n0≤32) (hl:at0+n0≤8*s.size)
 (hb:Has w b T #[.string s,.int .i64 at0]) :
 Calls Tryz.prog 75 #[.pointer (some ⟨b,0,none⟩),.int .i64 n0] w fun e w' =>
  e=.returned (.int .i64 (num (row s at0 n0)))∧Has w' b T #[.string s,.int .i64 ((at0+n0:Nat):Int)]∧Only b w w':=by
 go_enter Tryz.func75,Tryz.ntmps75
 go_wp2
 go_loopw [1,5,6,7,8] (fun n v _ _ _ wr=>∃ i p m:Nat,Hid (i+m=n0)∧Hid (p=at0+i)∧p+m≤8*s.size∧n=.int .i64 m∧v=.int .i64 (num (row s at0 i))∧Has wr b T #[.string s,.int .i64 p]∧Only b w wr) (fun n _ _ _ _ _=>(intOf n).toNat)
 case atStart=>exact ⟨0,at0,n0,Qa (by omega),Qa rfl,hl,rfl,rfl,hb,Only.refl _ _⟩
 case round =>
  obtain ⟨i,p,m,H1,H2,hpm,rfl,rfl,hB,hO⟩:=hrel
  have c0:=hB.cell 0
  have c1:=hB.cell 1
  have f1:=hB.free 1
  simp at c0 c1
  by_cases hlt:0<m
  ·have hp8:p / 8<s.size:=by omega
   have hi8:0≤(p:Int) / 8∧(p:Int) / 8<s.size:=by omega
   by_cases hm:m≤8-p % 8
   ·go_wp2
    go_quiet (fail)
    go_wp2
    have hs1:=ABa s at0 i p m H2.out (by have:=H1.out;omega) hm hp8
    refine ⟨⟨i+m,p+m,0,Qa (by have:=H1.out;omega),Qa (by have:=H2.out;omega),by omega,rfl,?_,?_,?_⟩,?_⟩
    ·rw [hs1]
    ·have:=(hB.drewN nq).store 1 (.int .i64 (↑p+↑m))
     simpa using this
    ·exact (hO.drewN nq).store (.inl rfl) _
    ·simp [intOf];omega
   ·go_wp2
    go_quiet (fail)
    go_wp2
    have hs1:=ACt s at0 i p H2.out (by have:=H1.out;omega) hp8
    refine ⟨⟨i+(8-p % 8),p+(8-p % 8),m-(8-p % 8),Qa (by have:=H1.out;omega),Qa (by have:=H2.out;omega),by omega,?_,?_,?_,?_⟩,?_⟩
    ·rw [show ((m-(8-p % 8):Nat):Int)=(m:Int)-(8-(p:Int) % 8) by omega]
    ·rw [hs1]
    ·have:=(hB.drewN nq).store 1 (.int .i64 (↑p+(8-↑p % 8)))
     rw [show ((p+(8-p % 8):Nat):Int)=(p:Int)+(8-(p:Int) % 8) by omega]
     simpa using this
    ·exact (hO.drewN nq).store (.inl rfl) _
    ·simp [intOf];omega
  ·go_wp2
   go_ret
   have hin:i=n0:=by have:=H1.out;omega
   have hpn:p=at0+n0:=by have:=H2.out;omega
   subst hin;subst hpn
   exact ⟨rfl,hB,hO⟩
def symB (zs:List Int) (lo hi:Int):Bool:=decide (1≤zs.length∧zs.length≤260∧∀ k,k<zs.length→lo≤zs.getD k 0∧zs.getD k 0≤hi)
theorem zq (zs:List Int) (lo hi:Int):symB zs lo hi=true↔1≤zs.length∧zs.length≤260∧∀ k,k<zs.length→lo≤zs.getD k 0∧zs.getD k 0≤hi:=by simp [symB]
theorem xL {zs:List Int} {lo hi:Int} (h:¬ (1≤zs.length∧zs.length≤260∧∀ k,k<zs.length→lo≤zs.getD k 0∧zs.getD k 0≤hi)):symB zs lo hi=false:=by
 rw [Bool.eq_false_iff,Ne,zq];exact h
theorem yv (a:Option Addr) (cap B:Nat) (zs:List Int) (lo hi:Int) (w:World) (hz:Ints w B a zs) :
 Calls Tryz.prog 187 #[.slice a zs.length cap,.int .i64 lo,.int .i64 hi] w fun e w'=>e=.returned (.bool (symB zs lo hi))∧w'=w:=by
 obtain ⟨n,hn⟩:∃ n,zs.length=n:=⟨_,rfl⟩
 have hN:=Qa hn
 have hl:=hz.1
 rw [hn] at hl ⊢
 by_cases h1:n<1
 ·rw [xL (by rw [hn];omega)]
  go_enter Tryz.func187,Tryz.ntmps187
  go_wp2
  go_ret
  exact ⟨rfl,rfl⟩
 ·by_cases h2:260<n
  ·rw [xL (by rw [hn];omega)]
   go_enter Tryz.func187,Tryz.ntmps187
   go_wp2
   go_ret
   exact ⟨rfl,rfl⟩
  ·obtain ⟨b,off,rfl,hb,hc⟩:=hz.2.2 (by omega)
   have HC:=Qa hc
   clear hc hn
   go_enter Tryz.func187,Tryz.ntmps187
   go_wp2
   go_loop [19] (fun i=>∃ k:Nat,k≤n∧i=.int .i64 k∧Hid (∀ j,j<k→lo≤zs.getD j 0∧zs.getD j 0≤hi)) (fun i=>n-(intOf i).toNat)
   case atStart=>exact ⟨0,by omega,rfl,Qa fun j hj=>by omega⟩
   case round =>
    obtain ⟨k,hk,rfl,H⟩:=hrel
    by_cases hlt:k<n
    ·have ck:=HC.out k (by rw [hN.out];exact hlt)
     obtain ⟨x,hx⟩:∃ x,zs.getD k 0=x:=⟨_,rfl⟩
     rw [hx] at ck
     have HX:=Qa hx
     clear hx
     by_cases c1:x<lo
     ·have HF:Hid (symB zs lo hi=false):=Qa (xL fun g=>by have:=g.2.2 k (by rw [hN.out];exact hlt);rw [HX.out] at this;omega)
      go_wp2
      go_ret
      exact ⟨Qo HF.out.symm,rfl⟩
     ·by_cases c2:hi<x
      ·have HF:Hid (symB zs lo hi=false):=Qa (xL fun g=>by have:=g.2.2 k (by rw [hN.out];exact hlt);rw [HX.out] at this;omega)
       go_wp2
       go_ret
       exact ⟨Qo HF.out.symm,rfl⟩
      ·go_wp2
       go_round
       case rel=>exact ⟨k+1,by omega,by go_num,Qa fun j hj=>by
        rcases Nat.lt_or_ge j k with g | g
        ·exact H.out j g
        ·obtain rfl:j=k:=by omega
         rw [HX.out];omega⟩
       case measure=>simp [intOf];omega
    ·have HF:Hid (symB zs lo hi=true):=Qa (by rw [zq,hN.out];exact ⟨by omega,by omega,fun j hj=>H.out j (by omega)⟩)
     go_wp2
     go_ret
     exact ⟨Qo HF.out.symm,rfl⟩
theorem ACv (a:Option Addr) (cap B:Nat) (zs:List Int) (w:World) (hz:Ints w B a zs) :
 Calls Tryz.prog 163 #[.slice a zs.length cap] w fun e w'=>e=.returned (.int .i64 (Zz zs))∧w'=w:=by
 have K:=Qa (yv a cap B zs 1 20 w hz)
 obtain ⟨n,hn⟩:∃ n,zs.length=n:=⟨_,rfl⟩
 have hN:=Qa hn
 have hl:=hz.1
 rw [hn] at hl K ⊢
 by_cases hr:symB zs 1 20=true
 ·have hrr:=(zq zs 1 20).1 hr
  rw [hr] at K
  have HR:=Qa hrr
  have h1:1≤n:=by rw [←hn];exact hrr.1
  have h2:n≤260:=by rw [←hn];exact hrr.2.1
  obtain ⟨b,off,rfl,hb,hc⟩:=hz.2.2 (by omega)
  have HC:=Qa hc
  clear hc hn hr hrr
  go_enter Tryz.func163,Tryz.ntmps163
  go_wp2_with fail
  refine K.out.mono ?_
  rintro e w' ⟨rfl,rfl⟩
  go_wp2
  go_loop [3,11] (fun v i=>∃ k q:Nat,k≤n∧i=.int .i64 k∧v=.int .i64 q∧Hid (q=kSum zs k)∧q≤1048576*k) (fun _ i=>n-(intOf i).toNat)
  case atStart=>exact ⟨0,0,by omega,rfl,rfl,Qa rfl,by omega⟩
  case round =>
   obtain ⟨k,q,hk,rfl,rfl,HQ,hq⟩:=hrel
   by_cases hlt:k<n
   ·have ck:=HC.out k (by rw [hN.out];exact hlt)
    have hxr:=HR.out.2.2 k (by rw [hN.out];exact hlt)
    obtain ⟨x,hx⟩:∃ x,zs.getD k 0=x:=⟨_,rfl⟩
    rw [hx] at ck hxr
    have HX:=Qa hx
    clear hx
    obtain ⟨d,hd⟩:∃ d:Nat,(20:Int)-x=d:=⟨(20-x).toNat,by omega⟩
    have hd19:d≤19:=by omega
    have h2d:2^d≤2^19:=Nat.pow_le_pow_right (by omega) hd19
    have HD:Hid (20-(zs.getD k 0).toNat=d):=Qa (by rw [HX.out];omega)
    have hwd:wrap64 (2^d)=((2^d:Nat):Int):=by rw [show ((2:Int)^d)=((2^d:Nat):Int) by simp];exact Zf _ (by omega)
    obtain ⟨p,hp⟩:∃ p,2^d=p:=⟨_,rfl⟩
    rw [hp] at hwd h2d
    have HP:=Qa hp
    clear hp
    go_wp2
    go_round
    case rel=>exact ⟨k+1,q+p,by omega,by go_num,by go_num,Qa (by rw [xf,HQ.out,HD.out,HP.out]),by omega⟩
    case measure=>simp [intOf];omega
   ·have HF:Hid (Zz zs=(q:Int)):=Qa (by
     have e:k=n:=by omega
     subst e
     rw [JY HR.out,hN.out,HQ.out])
    go_wp2
    go_ret
    exact ⟨QX HF.out.symm,rfl⟩
 ·have hf:symB zs 1 20=false:=by simpa using hr
  rw [hf] at K
  rw [XY (fun g=>hr ((zq zs 1 20).2 g))]
  go_enter Tryz.func163,Tryz.ntmps163
  go_wp2_with fail
  refine K.out.mono ?_
  rintro e w' ⟨rfl,rfl⟩
  go_wp2
  go_ret
  exact ⟨rfl,rfl⟩
theorem qx (a:Option Addr) (cap B:Nat) (zs:List Int) (w:World) (hz:Ints w B a zs) :
 Calls Tryz.prog 131 #[.slice a zs.length cap] w fun e w'=>e=.returned (.bool (lOk zs))∧w'=w:=by
 have hk:=zU zs
 have HO:Hid (lOk zs=decide (0≤Zz zs∧Zz zs≤1048576)):=Qa rfl
 have HK:=Qa (fun W h=>ACv a cap B zs W h)
 obtain ⟨x,hx⟩:∃ x,Zz zs=x:=⟨_,rfl⟩
 rw [hx] at hk HO HK
 by_cases h0:0≤x
 ·go_enter Tryz.func131,Tryz.ntmps131
  go_wp2_with fail
  refine (HK.out _ hz).mono ?_
  rintro e w' ⟨rfl,rfl⟩
  go_wp2
  go_ret
  exact ⟨Qo (by rw [HO.out];simp [h0]),rfl⟩
 ·go_enter Tryz.func131,Tryz.ntmps131
  go_wp2_with fail
  refine (HK.out _ hz).mono ?_
  rintro e w' ⟨rfl,rfl⟩
  go_wp2
  go_ret
  exact ⟨Qo (by rw [HO.out];simp;omega),rfl⟩
theorem Ints.lit (w:World) (cs:List Int) (hm:cs.length≤140737488355328) (hr:∀ x∈cs,-9223372036854775808≤x∧x≤9223372036854775807):Ints (w.alloc (.cells (Qn cs).toArray 3)) (w.heap.size+1) (some ⟨w.heap.size,0,none⟩) cs:=by
 refine ⟨hm,hr,fun h0=>⟨w.heap.size,0,rfl,by omega,fun i hi=>?_⟩⟩
 have h:=(Has.fresh w 3 (Qn cs).toArray).cell i
 rw [Nat.zero_add]
 refine h.trans ?_
 rw [List.getElem?_toArray]
 exact Xv cs i hi
end Go.Proofs.YtembljihmnmmfaaGreat
