/- Texts of the proof, merged. -/
import Derived.ArgAppend
import Derived.Laws.IdiomStrings
import Derived.Maps.AppendAt
import Derived.Test.YtembljihmnmmfaaGreatKB2
import Derived.RegionTactic
import Derived.ChangeAlike
import Derived.Deep.QuietTactic
import Derived.BigQuiet
import Derived.BigRegion
namespace Go.Proofs.YtembljihmnmmfaaGreat
set_option maxHeartbeats 1000000
set_option maxRecDepth 100000
set_option linter.unusedVariables false
set_option linter.unusedSimpArgs false
open Go.RowKit
def Row (w:World) (base:Nat) (E:TypeId) (v:Value) (n:Nat) (xs:List Value):Prop :=
 ∃ (g cap:Nat) (cur:Array Value) (fr:Nat × Nat),v=.slice (some ⟨g,0,none⟩) n cap∧base≤g∧w.heap[g]? = some (.cells cur E fr)∧(fr=(0,0)∨cur.size≤fr.1)∧n≤cap∧cap≤cur.size∧cap≤maxLen∧xs.length=n∧cur.toList.take n=xs
section
variable {w w':World} {base g cap n:Nat} {E:TypeId} {v:Value} {xs:List Value}
theorem Row.form (h:Row w base E v n xs):∃ g cap,v=.slice (some ⟨g,0,none⟩) n cap∧base≤g∧g<w.heap.size∧n≤cap:=by
 obtain ⟨g,cap,cur,fr,rfl,hb,hh,_,hn,_⟩:=h
 refine ⟨g,cap,rfl,hb,?_,hn⟩
 rcases Nat.lt_or_ge g w.heap.size with hl | hl
 ·exact hl
 ·rw [Array.getElem?_eq_none hl] at hh;cases hh
theorem Row.len (h:Row w base E v n xs):xs.length=n:=by obtain ⟨_,_,_,_,_,_,_,_,_,_,_,hl,_⟩:=h;exact hl
theorem Row.cell (h:Row w base E (.slice (some ⟨g,0,none⟩) n cap) n xs) (j:Nat) (u:Value) (hu:xs[j]? = some u):w.cell? ⟨g,j,none⟩=some u:=by
 obtain ⟨g',cap',cur,fr,hv,hb,hh,hfr,hn,hc,_,hl,ht⟩:=h
 simp only [Value.slice.injEq,Option.some.injEq,Addr.mk.injEq,and_true,true_and] at hv
 obtain ⟨rfl,rfl⟩:=hv
 rw [cell_of_row w g j cur E fr hh]
 subst ht
 rw [List.getElem?_take] at hu
 split at hu
 ·simpa using hu
 ·cases hu
theorem Row.free (h:Row w base E (.slice (some ⟨g,0,none⟩) n cap) n xs) (j:Nat) (hj:j<cap):w.frozen? ⟨g,j,none⟩=false:=by
 obtain ⟨g',cap',cur,fr,hv,hb,hh,hfr,hn,hc,_,hl,ht⟩:=h
 simp only [Value.slice.injEq,Option.some.injEq,Addr.mk.injEq,and_true,true_and] at hv
 obtain ⟨rfl,rfl⟩:=hv
 unfold World.frozen?
 rw [hh]
 rcases hfr with rfl | h
 ·simp
 ·have:¬ fr.1≤j:=by omega
  simp [this]
theorem Row.there (h:Row w base E (.slice (some ⟨g,0,none⟩) n cap) n xs) (j:Nat) (hj:j<cap):(w.cell? ⟨g,j,none⟩).isSome=true:=by
 obtain ⟨g',cap',cur,fr,hv,hb,hh,hfr,hn,hc,_,hl,ht⟩:=h
 simp only [Value.slice.injEq,Option.some.injEq,Addr.mk.injEq,and_true,true_and] at hv
 obtain ⟨rfl,rfl⟩:=hv
 rw [cell_of_row w g j cur E fr hh]
 simp [show j<cur.size by omega]
theorem Row.keep (h:Row w base E v n xs) (hk:∀ g,v.ownBlock=some g→w'.heap[g]? = w.heap[g]?):Row w' base E v n xs:=by
 obtain ⟨g,cap,cur,fr,rfl,hb,hh,hr⟩:=h
 exact ⟨g,cap,cur,fr,rfl,hb,(hk g rfl).trans hh,hr⟩
theorem Row.lt (h:Row w base E v n xs):∀ g,v.ownBlock=some g→base≤g∧g<w.heap.size:=by
 obtain ⟨g,cap,rfl,hb,hl,_⟩:=h.form
 intro g' hg
 simp only [Value.ownBlock,Option.some.injEq] at hg
 omega
theorem Row.below {B:Nat} (h:Row w base E v n xs) (hb:Below B w w') (hB:∀ g,v.ownBlock=some g→g<B):Row w' base E v n xs:=h.keep fun g hg=>hb.block g (hB g hg)
theorem Row.belowAll (h:Row w base E v n xs) (hb:Below w.heap.size w w'):Row w' base E v n xs:=h.below hb fun g hg=>(h.lt g hg).2
theorem Row.alloc (h:Row w base E v n xs) (o:Obj):Row (w.alloc o) base E v n xs:=h.keep fun g hg=>Below.heap_alloc w o g (h.lt g hg).2
theorem Row.drew (h:Row w base E v n xs):Row w.drew base E v n xs:=h
theorem Row.drewN (h:Row w base E v n xs) (k:Nat):Row (w.drewN k) base E v n xs:=h
theorem Row.storeAway (h:Row w base E v n xs) {p:Addr} (hp:v.ownBlock≠some p.block) (u:Value):Row (w.setCell p u) base E v n xs :=
 h.keep fun g hg=>Below.heap_setCell w p u g (fun e=>hp (by rw [hg,e]))
theorem Row.store (h:Row w base E (.slice (some ⟨g,0,none⟩) n cap) n xs) (j:Nat) (u:Value):Row (w.setCell ⟨g,j,none⟩ u) base E (.slice (some ⟨g,0,none⟩) n cap) n (xs.set j u):=by
 obtain ⟨g',cap',cur,fr,hv,hb,hh,hfr,hn,hc,hm,hl,ht⟩:=h
 simp only [Value.slice.injEq,Option.some.injEq,Addr.mk.injEq,and_true,true_and] at hv
 obtain ⟨rfl,rfl⟩:=hv
 refine ⟨g,cap,cur.setIfInBounds j u,fr,rfl,hb,?_,by simpa using hfr,hn,by simpa using hc,hm,by simpa using hl,?_⟩
 ·simp [World.setCell,Array.getElem?_modify,hh]
 ·rw [←ht];simp [List.take_set]
theorem Row.mono {base':Nat} (h:Row w base E v n xs) (hb:base'≤base):Row w base' E v n xs:=by
 obtain ⟨g,cap,cur,fr,hv,h1,hr⟩:=h
 exact ⟨g,cap,cur,fr,hv,Nat.le_trans hb h1,hr⟩
theorem Row.ofOwn (h:w.ownsRow base E 1 v n xs) (hn:0<n):Row w base E v n xs:=by
 rcases h.2 with ⟨_,h0⟩ | ⟨g,cap,cur,rfl,hb,hh,hnc,hm,hs,ht⟩
 ·omega
 ·have hl:=h.1
  rw [Nat.mul_one] at hl hs ht
  exact ⟨g,cap,cur,(0,0),rfl,hb,hh,.inl rfl,hnc,by omega,hm,hl,ht⟩
theorem Row.grow (h:Row w base E (.slice (some ⟨g,0,none⟩) n cap) n xs) (hr:n+1≤cap) (u:Value):Row (w.setCell ⟨g,n,none⟩ u) base E (.slice (some ⟨g,0,none⟩) (n+1) cap) (n+1) (xs++[u]):=by
 obtain ⟨g',cap',cur,fr,hv,hb,hh,hfr,hn,hc,hm,hl,ht⟩:=h
 simp only [Value.slice.injEq,Option.some.injEq,Addr.mk.injEq,and_true,true_and] at hv
 obtain ⟨rfl,rfl⟩:=hv
 refine ⟨g,cap,cur.setIfInBounds n u,fr,rfl,hb,?_,by simpa using hfr,hr,by simpa using hc,hm,by simp [hl],?_⟩
 ·simp [World.setCell,Array.getElem?_modify,hh]
 ·rw [←ht]
  have hn':n<cur.size:=by omega
  apply List.ext_getElem (by simp;omega)
  intro j h1 h2
  simp only [List.length_take,Array.length_toList,Array.size_setIfInBounds] at h1
  by_cases hj:j<n
  ·simp [List.getElem_append,hj,show n≠j by omega,Array.getElem_setIfInBounds,show j<cur.size by omega,show min n cur.size=n by omega]
  ·obtain rfl:j=n:=by omega
   simp [List.getElem_append,hn',show min j cur.size=j by omega]
theorem Row.neHas {T:TypeId} {cs:Array Value} {b:Nat} (h:Row w base E v n xs) (hb:Has w b T cs) (hT:E≠T):v.ownBlock≠some b:=by
 obtain ⟨g,cap,cur,fr,rfl,_,hh,_⟩:=h
 intro he
 simp only [Value.ownBlock,Option.some.injEq] at he
 subst he
 unfold Has at hb
 rw [hh] at hb
 injection hb with hb
 injection hb with _ h2
 exact hT h2
theorem Row.ofString (w:World) (E:TypeId) (s:ByteArray) (hs:s.size≤maxLen) :
 Row (w.alloc (.cells (bytesRow s (grownCap w s.size 0 E)) E ((bytesRow s (grownCap w s.size 0 E)).size,(bytesRow s (grownCap w s.size 0 E)).size+1))) w.heap.size E
  (.slice (some ⟨w.heap.size,0,none⟩) s.size (grownCap w s.size 0 E)) s.size (u8s (Qb s)):=by
 have hge:=grownCap_ge w s.size 0 E
 have hsz:(bytesRow s (grownCap w s.size 0 E)).size=grownCap w s.size 0 E:=by
  unfold bytesRow;rw [Array.size_append,Array.size_map,Array.size_replicate];show s.size+_=_;omega
 refine ⟨w.heap.size,_,_,_,rfl,Nat.le_refl _,heap_alloc_new w _,.inr (Nat.le_refl _),hge,by rw [hsz];exact Nat.le_refl _,grownCap_le_maxLen w s.size 0 E hs,by rw [Zo,Qf],?_⟩
 have hl:(s.data.toList).length=s.size:=by simp
 unfold bytesRow u8s Qb
 rw [Array.toList_append,Array.toList_map,List.take_append_of_le_length (by simp),List.take_of_length_le (by simp),List.map_map]
 rfl
theorem vK {P:Program} {D:List Nat} {src dst:TypeId} (hs:P.underlying src=some (.slice E)) (he:P.underlying E=some (.int .u8)) (hd:P.underlying dst=some .string)
 (h:Row w base E v n (u8s D)):(convert src dst v).run P w=.ok (.string (Qg D)) w:=by
 have hn:D.length=n:=by have:=h.len;rwa [Zo] at this
 obtain ⟨g,cap,rfl,_⟩:=h.form
 rw [run_convert_bytes_string w src dst E _ _ _ hs he hd]
 have hl:=run_loadCells_list (P:=P) (w:=w) ⟨g,0,none⟩ (u8s D) (fun j u hu=>by
  have:=h.cell j u hu
  unfold Addr.add
  split
  ·rename_i h0;rw [h0] at this;exact this
  ·simpa using this)
 rw [Zo,hn] at hl
 have e1:(u8s D).toArray=((D.map fun (b:Nat)=>(b:Int)).map (Value.int .u8)).toArray:=by simp [u8s]
 rw [e1] at hl
 rw [run_bytesToString w ⟨g,0,none⟩ n cap _ hl]
 congr 2
 rw [List.foldl_map]
 simp only [Int.toNat_natCast]
 rw [AAk]
 simp [Qg]
end
theorem xX {P:Program} (w:World) {ops:Array Oper} {rest:List Oper} {o:Oper} {a:Act} {Q:Exit→Act→World→Prop}
 (hg:o.guard=none) (s x:Operand) (t:TypeId) (hop:o.op=Op.call { callee:=Callee.builtin Builtin.append,args:=#[s,x],argTypes:=#[t,t] })
 (E:TypeId) (i:TypeInfo) (h1:P.underlying t=some (.slice E)) (h2:P.info? E=some i) (h3:i.zero=some (.int .u8 0)) (h4:i.size=1) (h5:i.bytes=1)
 (v:Value) (n base:Nat) (xs:List Value) (hs:a.eval s=v) (hrow:Row w base E v n xs)
 (ad:Addr) (c:Nat) (u:Value) (hx:a.eval x=.slice (some ad) 1 c) (hc:w.cell? ad=some u) (h1c:u.oneCell'=true)
 (b1:n+1≤140737488351232) (hbase:base≤w.heap.size)
 (hK:∀ v' w',Row w' base E v' (n+1) (xs++[u])→w.grownBy w' v.ownBlock→wpList P ops Q rest (a.put o.dst v') w') :
 wpList P ops Q (o::rest) a w:=by
 obtain ⟨g,cap,rfl,hb,hlt,hnc⟩:=hrow.form
 have hl:=hrow.len
 refine wpList_append_arg w hg s x t hop E i (.int .u8 0) 1 1 h1 h2 h3 h4 h5 rfl (by decide) g 0 n cap xs hs (by omega) (fun j u hu=>by rw [Nat.zero_add];exact hrow.cell j u hu)
  ad 1 c [u] hx rfl (fun j u' hu=>by
   match j,hu with
   | 0,hu=>simp at hu;subst hu;simpa [Addr.add] using hc) (by simpa using h1c)
  (fun hr j hj=>by
    have:j=0:=by simpa using hj
    subst this
    simp only [Nat.zero_add,Nat.mul_one,Nat.add_zero]
    exact ⟨hrow.there n (by omega),hrow.free n (by omega)⟩) (by unfold maxLen;omega) (by omega) ?_ ?_
 ·intro hr
  have:=hK _ _ (hrow.grow hr u) ⟨rfl,rfl,rfl,by simp [World.setCell],fun i hi hne=>Below.heap_setCell w _ u i (by intro e;exact hne (by rw [e];rfl))⟩
  simpa [World.setCells] using this
 ·intro hr v' w' hown hgr
  exact hK v' w' ((Row.ofOwn hown (by omega)).mono hbase) ⟨hgr.os,hgr.tape,hgr.output,hgr.size,fun i hi _=>hgr.block i hi (by simp)⟩
def half (v n k:Nat):List Nat:=Qh (v / 2^(n-k)) k++List.replicate (n-k) 0
theorem ATv (v n k:Nat) (h:k≤n):(half v n k).length=n:=by simp [half,Qt];omega
theorem ARi (v n:Nat):half v n 0=List.replicate n 0:=by simp [half,Qh]
theorem ASy (v n:Nat):half v n n=Qh v n:=by simp [half]
theorem ATq (v n k:Nat) (h:k<n):(half v n k).set k (v / 2^(n-1-k) % 2)=half v n (k+1):=by
 have e:Qh (v / 2^(n-(k+1))) (k+1)=Qh (v / 2^(n-k)) k++[v / 2^(n-1-k) % 2]:=by
  rw [Jz,Nat.div_div_eq_div_mul,←Nat.pow_add,show n-(k+1)+1=n-k by omega,show n-(k+1)=n-1-k by omega]
  simp [Qh]
 unfold half
 rw [e,show n-k=(n-(k+1))+1 by omega,List.replicate_succ,List.set_append_right _ _ (by rw [Qt];exact Nat.le_refl _),Qt]
 simp
theorem yi (n:Nat):(madeCells #[Value.int .u8 0] n).toList=u8s (List.replicate n 0):=by
 rw [toList_madeCells_one];simp [u8s]
theorem AOv (v n:Nat) (w:World) (hn:n≤40) (hv:v<2^32) :
 Calls Tryz.prog 64 #[.int .i64 v,.int .i64 n] w fun e w' =>
  e=.returned (.slice (some ⟨w.heap.size,0,none⟩) n n)∧w'.ownsRow w.heap.size 5 1 (.slice (some ⟨w.heap.size,0,none⟩) n n) n (u8s (Qh v n))∧Below w.heap.size w w':=by
 obtain ⟨i0,hi,hz0,hz1,hz2⟩:=info_parts Tryz.info5
 go_enter Tryz.func64,Tryz.ntmps64
 go_wp2_with (at_make;refine wpList_make_full _ rfl _ _ 61 rfl w.heap.size 5 i0 (.int .u8 0) 1 Tryz.underlying61 hi hz0 hz1 .i64 .i64 _ _ n rfl rfl rfl rfl ?c1 ?c2 ?c3 ?_)
 case c1=>rw [hz2];omega
 case c2=>unfold maxLen;omega
 case c3=>exact Nat.le_refl _
 intro w1 hown1 hg1
 have hb1:Below w.heap.size w w1:=(Below.refl _ _).grown hg1 (Nat.le_refl _) (by simp)
 rw [yi] at hown1
 clear hg1
 go_wp2
 go_loopw [6] (fun i wr=>∃ k:Nat,k≤n∧i=.int .i64 k∧wr.ownsRow w.heap.size 5 1 (.slice (some ⟨w.heap.size,0,none⟩) n n) n (u8s (half v n k))∧Below w.heap.size w wr) (fun i _=>n-(intOf i).toNat)
 case atStart=>exact ⟨0,Nat.zero_le _,rfl,by rw [ARi];exact hown1,hb1⟩
 case round =>
  obtain ⟨k,hk,rfl,hown,hbl⟩:=hrel
  clear hb1 hown1
  by_cases hlt:k<n
  ·have c0:=hown.cellAt k (by omega)
   rw [xt _ _ (by rw [ATv _ _ _ hk];exact hlt)] at c0
   have f0:=hown.frozenAt k
   go_wp2
   refine ⟨⟨k+1,by omega,by go_num,?_,hbl.setCell (Nat.le_refl _) _⟩,by simp [intOf];omega⟩
   have hs:=hown.stored k (.int .u8 ((v / 2^(n-1-k) % 2:Nat):Int))
   rw [←xA,ATq v n k hlt] at hs
   have hv2:v / 2^(n-1-k)≤v:=Nat.div_le_self _ _
   have e2:bits BinOp.and IntKind.i64 ((v:Int) / 2^(n-1-k)) 1 % 256=((v / 2^(n-1-k) % 2:Nat):Int):=by
    have:=ju (v / 2^(n-1-k)) 1 (by omega) (by omega)
    rw [nat_mask1] at this
    rw [show ((v:Int) / 2^(n-1-k))=((v / 2^(n-1-k):Nat):Int) by simp,show (1:Int)=((1:Nat):Int) by rfl,this]
    omega
   rw [e2];exact hs.1
  ·have hkn:k=n:=by omega
   subst hkn
   go_wp2
   go_ret
   rw [ASy] at hown
   exact ⟨rfl,hown,hbl⟩
theorem ANz (n:Nat) (w:World) (h1:1≤n) (h2:n≤1048575) :
 Calls Tryz.prog 104 #[.int .i64 n] w fun e w'=>e=.returned (.int .i64 (Nat.log2 n))∧w=w':=by
 have hk:=Yp h1 h2
 have HF:Hid (∀ m,2≤m→Nat.log2 m=Nat.log2 (m / 2)+1):=Qa (fun m h=>XJ h)
 have H1:Hid (Nat.log2 1=0):=Qa APj
 obtain ⟨g,hg⟩:∃ g,Nat.log2 n=g:=⟨_,rfl⟩
 rw [hg] at hk ⊢
 have HG:=Qa hg
 clear hg
 go_enter Tryz.func104,Tryz.ntmps104
 go_wp2
 go_loop [0,3] (fun sn sk=>∃ m k:Nat,sn=.int .i64 m∧sk=.int .i64 k∧1≤m∧m≤1048575∧k≤g∧Hid (Nat.log2 m+k=g)) (fun sn _=>(intOf sn).toNat)
 case atStart=>exact ⟨n,0,rfl,rfl,h1,h2,by omega,Qa (by rw [HG.out];rfl)⟩
 case round =>
  obtain ⟨m,k,rfl,rfl,hm1,hm2,hk2,HM⟩:=hrel
  by_cases hlt:1<m
  ·have HM2:Hid (Nat.log2 (m / 2)+(k+1)=g):=Qa (by have:=HF.out m (by omega);have:=HM.out;omega)
   go_wp2
   go_round
   case rel=>exact ⟨m / 2,k+1,by go_num,by go_num,by omega,by omega,by have:=HM2.out;omega,HM2⟩
   case measure=>simp [intOf];omega
  ·have e:m=1:=by omega
   subst e
   have hkg:k=g:=by have:=HM.out;rw [H1.out] at this;omega
   subst hkg
   go_wp2
   go_ret
   exact ⟨rfl,rfl⟩
def xI (n:Int):Bool:=decide (1≤n∧n≤1048575)
theorem VM (n:Int):xI n=true↔1≤n∧n≤1048575:=by simp [xI]
def gamB (n:Int):Int:=if xI n=true then ((gamL n.toNat).length:Int) else -1
theorem QE (n:Int) (w:World) :
 Calls Tryz.prog 87 #[.int .i64 n] w fun e w'=>e=.returned (.int .i64 (gamB n))∧Below w.heap.size w w':=by
 by_cases h:xI n=true
 ·have hr:=(VM n).1 h
  obtain ⟨q,rfl⟩:∃ q:Nat,n=q:=⟨n.toNat,by omega⟩
  have K1:=Qa (fun W=>ANz q W (by omega) (by omega))
  have hk:=Yp (n:=q) (by omega) (by omega)
  have HF:Hid (gamB q=2*(Nat.log2 q:Int)+1):=Qa (by unfold gamB;rw [if_pos h,Int.toNat_natCast,jQ];omega)
  obtain ⟨g,hg⟩:∃ g,Nat.log2 q=g:=⟨_,rfl⟩
  rw [hg] at hk K1 HF
  clear hg h
  go_enter Tryz.func87,Tryz.ntmps87
  go_wp2_with fail
  refine (K1.out _).mono ?_
  rintro e w1 ⟨rfl,rfl⟩
  go_wp2
  go_ret
  exact ⟨QN HF.out.symm,Below.refl _ _⟩
 ·have HF:Hid (gamB n=-1):=Qa (by unfold gamB;rw [if_neg h])
  have hn:n<1∨1048575<n:=by rw [VM] at h;omega
  clear h
  rcases hn with hn | hn
  all_goals
   go_enter Tryz.func87,Tryz.ntmps87
   go_wp2
   go_ret
   exact ⟨QN HF.out.symm,Below.refl _ _⟩
theorem ZG {n:Nat} (h1:1≤n) (h2:n≤1048575):gamB n=((gamL n).length:Int):=by
 unfold gamB
 rw [if_pos ((VM _).2 (by omega)),Int.toNat_natCast]
def Qp (w:World) (base g:Nat) (l:List Nat):Prop :=
 ∃ (v:Value) (D:List Nat),Has w g 102 #[v,.int .i64 (l.length:Int)]∧Row w base 5 v D.length (u8s D)∧Packs D l∧some g≠v.ownBlock
theorem Zw (s:ByteArray) (n:Nat) (w:World) (hok:okB s n=true) :
 Calls Tryz.prog 34 #[.agg #[.string s,.int .i64 n]] w fun e w'=>∃ g,e=.returned (.pointer (some ⟨g,0,none⟩))∧Qp w' w.heap.size g (row s 0 n)∧w.heap.size≤g∧Below w.heap.size w w':=by
 have hroom:=qL hok
 have hcv:=fun W:World=>run_bytes_of_string (P:=Tryz.prog) W 9 61 5 s Tryz.underlying9 Tryz.underlying61 Tryz.underlying5
 go_enter Tryz.func34,Tryz.ntmps34
 go_wp2
 go_ret
 have hrow:=Row.ofString (w.alloc (.cells #[.string s,.int .i64 n] 32)) 5 s (by unfold maxLen;omega)
 have hpk:=zy hok
 refine ⟨w.heap.size+1+1,rfl,⟨.slice (some ⟨w.heap.size+1,0,none⟩) s.size (grownCap (w.alloc (.cells #[.string s,.int .i64 n] 32)) s.size 0 5),Qb s,?_,?_,hpk,?_⟩,by omega,?_⟩
 ·rw [ZY]
  exact Has.drew (Has.freshAt (by simp) _ _)
 ·rw [Qf]
  have:=((hrow.alloc (.cells #[.slice (some ⟨w.heap.size+1,0,none⟩) s.size (grownCap (w.alloc (.cells #[.string s,.int .i64 n] 32)) s.size 0 5),.int .i64 n] 102)).mono (show w.heap.size≤_ by simp)).drew
  simpa using this
 ·simp [Value.ownBlock]
 ·repeat (first | exact Below.refl _ _ | assumption | refine Below.alloc ?_ (by (try simp);(try omega)) _ | refine Below.setCell ?_ (by (try simp);(try omega)) _ | refine Below.drew ?_ | refine Qc (by assumption) (by (try simp);(try omega)) ?_ | refine VA (by assumption) (by (try simp);(try omega)) (by (try simp);(try omega)) ?_ | refine VG (by assumption) (by (try simp);(try omega)) ?_)
theorem Qp.lt {w:World} {base g:Nat} {l:List Nat} (h:Qp w base g l):g<w.heap.size:=by
 obtain ⟨v,D,hB,_⟩:=h;exact hB.lt
theorem Qp.below {w w':World} {base g:Nat} {l:List Nat} (h:Qp w base g l) (hb:Below w.heap.size w w'):Qp w' base g l:=by
 obtain ⟨v,D,hB,hR,hP,hne⟩:=h
 exact ⟨v,D,hB.below hb hB.lt,hR.belowAll hb,hP,hne⟩
theorem Qp.alloc {w:World} {base g:Nat} {l:List Nat} (h:Qp w base g l) (o:Obj):Qp (w.alloc o) base g l:=by
 obtain ⟨v,D,hB,hR,hP,hne⟩:=h
 exact ⟨v,D,hB.alloc o,hR.alloc o,hP,hne⟩
theorem Xm (g base:Nat) (l:List Nat) (w:World) (h:Qp w base g l) :
 Calls Tryz.prog 44 #[.pointer (some ⟨g,0,none⟩)] w fun e w'=>∃ D,Packs D l∧e=.returned (.agg #[.string (Qg D),.int .i64 l.length])∧Below w.heap.size w w':=by
 obtain ⟨v,D,hB,hR,hP,hne⟩:=h
 have hcv:∀ W:World,W.heap.size=w.heap.size+1→Row W base 5 v D.length (u8s D)→(convert 61 9 v).run Tryz.prog W=.ok (.string (Qg D)) W :=
  fun W _ h=>vK Tryz.underlying61 Tryz.underlying5 Tryz.underlying9 h
 have hB1:=hB.alloc (.cells #[.string ⟨#[]⟩,.int .i64 0] 32)
 have hlt:=hB.lt
 have c0:=hB1.cell 0
 have c1:=hB1.cell 1
 simp at c0 c1
 have hq:=hcv _ (by simp) (hR.alloc (.cells #[.string ⟨#[]⟩,.int .i64 0] 32)).drew
 clear hcv
 go_enter Tryz.func44,Tryz.ntmps44
 go_wp2
 go_region
 all_goals go_wp2
 all_goals
  refine bodyPost_ret (v:=.agg #[.string (Qg D),.int .i64 l.length]) (by simp [results,Tryz.results44,go_sem]) rfl ⟨D,hP,rfl,?_⟩
  repeat (first | exact Below.refl _ _ | assumption | refine Below.alloc ?_ (by (try simp);(try omega)) _ | refine Below.setCell ?_ (by (try simp);(try omega)) _ | refine Below.drew ?_ | refine Qc (by assumption) (by (try simp);(try omega)) ?_ | refine VA (by assumption) (by (try simp);(try omega)) (by (try simp);(try omega)) ?_ | refine VG (by assumption) (by (try simp);(try omega)) ?_)
def QG (g:Nat) (a w:World):Prop:=∀ b o,b≠g→(∀ cs fr,o≠Obj.cells cs 5 fr)→a.heap[b]? = some o→w.heap[b]? = some o
theorem QG.has {g:Nat} {a w:World} (h:QG g a w) {b:Nat} {T:TypeId} {cs:Array Value} (h1:b≠g) (h2:T≠5) (h3:Has a b T cs):Has w b T cs :=
 h b _ h1 (fun cs fr e=>by injection e with _ e2;exact h2 e2) h3
theorem Js {w:World} {b:Nat} {o:Obj} (h:w.heap[b]? = some o):b<w.heap.size:=(Array.getElem?_eq_some_iff.1 h).1
theorem QG.refl (g:Nat) (w:World):QG g w w:=fun _ _ _ _ h=>h
theorem QG.trans {g:Nat} {a b c:World} (h:QG g a b) (k:QG g b c):QG g a c:=fun b' o h1 h2 h3=>k b' o h1 h2 (h b' o h1 h2 h3)
theorem QG.alloc {g:Nat} {a w:World} (h:QG g a w) (o:Obj):QG g a (w.alloc o):=fun b o2 h1 h2 h3=>(Below.heap_alloc w o b (Js (h b o2 h1 h2 h3))).trans (h b o2 h1 h2 h3)
theorem QG.drewN {g:Nat} {a w:World} (h:QG g a w) (n:Nat):QG g a (w.drewN n):=fun b o h1 h2 h3=>h b o h1 h2 h3
theorem QG.store {g:Nat} {a w:World} (h:QG g a w) (j:Nat) (u:Value):QG g a (w.setCell ⟨g,j,none⟩ u):=fun b o h1 h2 h3=>(Below.heap_setCell w ⟨g,j,none⟩ u b h1).trans (h b o h1 h2 h3)
theorem Row.notOther {w:World} {base n:Nat} {v:Value} {xs:List Value} (hR:Row w base 5 v n xs) {b:Nat} {o:Obj} (ho:∀ cs fr,o≠Obj.cells cs 5 fr) (hb:w.heap[b]? = some o):v.ownBlock≠some b:=by
 obtain ⟨g,cap,cur,fr,rfl,_,hh,_⟩:=hR
 intro e
 simp only [Value.ownBlock,Option.some.injEq] at e
 subst e
 rw [hh] at hb
 injection hb with hb
 exact ho _ _ hb.symm
theorem QG.storeRow {g gd n cp base:Nat} {xs:List Value} {a w:World} (h:QG g a w) (hR:Row w base 5 (.slice (some ⟨gd,0,none⟩) n cp) n xs) (j:Nat) (u:Value):QG g a (w.setCell ⟨gd,j,none⟩ u) :=
 fun b o h1 h2 h3=>(Below.heap_setCell w ⟨gd,j,none⟩ u b (fun e=>hR.notOther h2 (h b o h1 h2 h3) (by rw [e];rfl))).trans (h b o h1 h2 h3)
theorem QG.grown {g n base:Nat} {v:Value} {xs:List Value} {a w w':World} (h:QG g a w) (hR:Row w base 5 v n xs) (hg:w.grownBy w' v.ownBlock):QG g a w' :=
 fun b o h1 h2 h3=>(hg.block b (Js (h b o h1 h2 h3)) (fun e=>hR.notOther h2 (h b o h1 h2 h3) e.symm)).trans (h b o h1 h2 h3)
theorem Qp.only {w w':World} {base g b:Nat} {l:List Nat} {T:TypeId} {cs:Array Value} (h:Qp w base g l) (ho:Only b w w') (hb:Has w b T cs) (hT:5≠T) (hne:g≠b):Qp w' base g l:=by
 obtain ⟨v,D,hB,hR,hP,hn⟩:=h
 refine ⟨v,D,ho.has hB hne,hR.keep fun q hq=>ho.block q (hR.lt q hq).2 ?_,hP,hn⟩
 intro e
 exact hR.neHas hb hT (by rw [hq,e])
end Go.Proofs.YtembljihmnmmfaaGreat
