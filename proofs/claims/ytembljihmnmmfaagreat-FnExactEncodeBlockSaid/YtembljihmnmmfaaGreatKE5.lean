/- Texts of the proof, merged. -/
import Derived.ArgAppend
import Derived.Laws.IdiomStrings
import Derived.Maps.AppendAt
import Derived.Test.YtembljihmnmmfaaGreatKE2
import Derived.RegionTactic
import Derived.ChangeAlike
import Derived.Deep.QuietTactic
import Derived.BigQuiet
import Derived.BigRegion
import Derived.OwnWalk
import Derived.Test.YtembljihmnmmfaaGreatKE3
namespace Go.Proofs.YtembljihmnmmfaaGreat
set_option maxHeartbeats 4000000
set_option maxRecDepth 100000
set_option linter.unusedVariables false
set_option linter.unusedSimpArgs false
open Go.RowKit
def Row (w:World) (base:Nat) (E:TypeId) (v:Value) (n:Nat) (xs:List Value):Prop :=
 ∃ (g cap:Nat) (cur:Array Value) (fr:Nat × Nat),v=.slice (some ⟨g,0,none⟩) n cap∧base≤g∧w.heap[g]? = some (.cells cur E fr)∧(fr=(0,0)∨cur.size≤fr.1)∧n≤cap∧cap≤cur.size∧cap≤maxLen∧xs.length=n∧cur.toList.take n=xs
section
variable {w w':World} {base g cap n:Nat} {E:TypeId} {v:Value} {xs:List Value}
theorem Row.form (h:Row w base E v n xs):∃ g cap,v=.slice (some ⟨g,0,none⟩) n cap∧base≤g∧g<w.heap.size∧n≤cap:=by
 obtain ⟨g,cap,cur,fr,rfl,hb,hh,_,hn,_⟩:=h
 refine ⟨g,cap,rfl,hb,?_,hn⟩
 rcases Nat.lt_or_ge g w.heap.size with hl | hl
 ·exact hl
 ·rw [Array.getElem?_eq_none hl] at hh;cases hh
theorem Row.len (h:Row w base E v n xs):xs.length=n:=by obtain ⟨_,_,_,_,_,_,_,_,_,_,_,hl,_⟩:=h;exact hl
theorem Row.cell (h:Row w base E (.slice (some ⟨g,0,none⟩) n cap) n xs) (j:Nat) (u:Value) (hu:xs[j]? = some u):w.cell? ⟨g,j,none⟩=some u:=by
 obtain ⟨g',cap',cur,fr,hv,hb,hh,hfr,hn,hc,_,hl,ht⟩:=h
 simp only [Value.slice.injEq,Option.some.injEq,Addr.mk.injEq,and_true,true_and] at hv
 obtain ⟨rfl,rfl⟩:=hv
 rw [cell_of_row w g j cur E fr hh]
 subst ht
 rw [List.getElem?_take] at hu
 split at hu
 ·simpa using hu
 ·cases hu
theorem Row.free (h:Row w base E (.slice (some ⟨g,0,none⟩) n cap) n xs) (j:Nat) (hj:j<cap):w.frozen? ⟨g,j,none⟩=false:=by
 obtain ⟨g',cap',cur,fr,hv,hb,hh,hfr,hn,hc,_,hl,ht⟩:=h
 simp only [Value.slice.injEq,Option.some.injEq,Addr.mk.injEq,and_true,true_and] at hv
 obtain ⟨rfl,rfl⟩:=hv
 unfold World.frozen?
 rw [hh]
 rcases hfr with rfl | h
 ·simp
 ·have:¬ fr.1≤j:=by omega
  simp [this]
theorem Row.there (h:Row w base E (.slice (some ⟨g,0,none⟩) n cap) n xs) (j:Nat) (hj:j<cap):(w.cell? ⟨g,j,none⟩).isSome=true:=by
 obtain ⟨g',cap',cur,fr,hv,hb,hh,hfr,hn,hc,_,hl,ht⟩:=h
 simp only [Value.slice.injEq,Option.some.injEq,Addr.mk.injEq,and_true,true_and] at hv
 obtain ⟨rfl,rfl⟩:=hv
 rw [cell_of_row w g j cur E fr hh]
 simp [show j<cur.size by omega]
theorem Row.keep (h:Row w base E v n xs) (hk:∀ g,v.ownBlock=some g→w'.heap[g]? = w.heap[g]?):Row w' base E v n xs:=by
 obtain ⟨g,cap,cur,fr,rfl,hb,hh,hr⟩:=h
 exact ⟨g,cap,cur,fr,rfl,hb,(hk g rfl).trans hh,hr⟩
theorem Row.lt (h:Row w base E v n xs):∀ g,v.ownBlock=some g→base≤g∧g<w.heap.size:=by
 obtain ⟨g,cap,rfl,hb,hl,_⟩:=h.form
 intro g' hg
 simp only [Value.ownBlock,Option.some.injEq] at hg
 omega
theorem Row.below {B:Nat} (h:Row w base E v n xs) (hb:Below B w w') (hB:∀ g,v.ownBlock=some g→g<B):Row w' base E v n xs:=h.keep fun g hg=>hb.block g (hB g hg)
theorem Row.belowAll (h:Row w base E v n xs) (hb:Below w.heap.size w w'):Row w' base E v n xs:=h.below hb fun g hg=>(h.lt g hg).2
theorem Row.alloc (h:Row w base E v n xs) (o:Obj):Row (w.alloc o) base E v n xs:=h.keep fun g hg=>Below.heap_alloc w o g (h.lt g hg).2
theorem Row.drew (h:Row w base E v n xs):Row w.drew base E v n xs:=h
theorem Row.drewN (h:Row w base E v n xs) (k:Nat):Row (w.drewN k) base E v n xs:=h
theorem Row.storeAway (h:Row w base E v n xs) {p:Addr} (hp:v.ownBlock≠some p.block) (u:Value):Row (w.setCell p u) base E v n xs :=
 h.keep fun g hg=>Below.heap_setCell w p u g (fun e=>hp (by rw [hg,e]))
theorem Row.store (h:Row w base E (.slice (some ⟨g,0,none⟩) n cap) n xs) (j:Nat) (u:Value):Row (w.setCell ⟨g,j,none⟩ u) base E (.slice (some ⟨g,0,none⟩) n cap) n (xs.set j u):=by
 obtain ⟨g',cap',cur,fr,hv,hb,hh,hfr,hn,hc,hm,hl,ht⟩:=h
 simp only [Value.slice.injEq,Option.some.injEq,Addr.mk.injEq,and_true,true_and] at hv
 obtain ⟨rfl,rfl⟩:=hv
 refine ⟨g,cap,cur.setIfInBounds j u,fr,rfl,hb,?_,by simpa using hfr,hn,by simpa using hc,hm,by simpa using hl,?_⟩
 ·simp [World.setCell,Array.getElem?_modify,hh]
 ·rw [←ht];simp [List.take_set]
theorem Row.mono {base':Nat} (h:Row w base E v n xs) (hb:base'≤base):Row w base' E v n xs:=by
 obtain ⟨g,cap,cur,fr,hv,h1,hr⟩:=h
 exact ⟨g,cap,cur,fr,hv,Nat.le_trans hb h1,hr⟩
theorem Row.ofOwn (h:w.ownsRow base E 1 v n xs) (hn:0<n):Row w base E v n xs:=by
 rcases h.2 with ⟨_,h0⟩ | ⟨g,cap,cur,rfl,hb,hh,hnc,hm,hs,ht⟩
 ·omega
 ·have hl:=h.1
  rw [Nat.mul_one] at hl hs ht
  exact ⟨g,cap,cur,(0,0),rfl,hb,hh,.inl rfl,hnc,by omega,hm,hl,ht⟩
theorem Row.grow (h:Row w base E (.slice (some ⟨g,0,none⟩) n cap) n xs) (hr:n+1≤cap) (u:Value):Row (w.setCell ⟨g,n,none⟩ u) base E (.slice (some ⟨g,0,none⟩) (n+1) cap) (n+1) (xs++[u]):=by
 obtain ⟨g',cap',cur,fr,hv,hb,hh,hfr,hn,hc,hm,hl,ht⟩:=h
 simp only [Value.slice.injEq,Option.some.injEq,Addr.mk.injEq,and_true,true_and] at hv
 obtain ⟨rfl,rfl⟩:=hv
 refine ⟨g,cap,cur.setIfInBounds n u,fr,rfl,hb,?_,by simpa using hfr,hr,by simpa using hc,hm,by simp [hl],?_⟩
 ·simp [World.setCell,Array.getElem?_modify,hh]
 ·rw [←ht]
  have hn':n<cur.size:=by omega
  apply List.ext_getElem (by simp;omega)
  intro j h1 h2
  simp only [List.length_take,Array.length_toList,Array.size_setIfInBounds] at h1
  by_cases hj:j<n
  ·simp [List.getElem_append,hj,show n≠j by omega,Array.getElem_setIfInBounds,show j<cur.size by omega,show min n cur.size=n by omega]
  ·obtain rfl:j=n:=by omega
   simp [List.getElem_append,hn',show min j cur.size=j by omega]
theorem Row.neHas {T:TypeId} {cs:Array Value} {b:Nat} (h:Row w base E v n xs) (hb:Has w b T cs) (hT:E≠T):v.ownBlock≠some b:=by
 obtain ⟨g,cap,cur,fr,rfl,_,hh,_⟩:=h
 intro he
 simp only [Value.ownBlock,Option.some.injEq] at he
 subst he
 unfold Has at hb
 rw [hh] at hb
 injection hb with hb
 injection hb with _ h2
 exact hT h2
theorem Row.ofString (w:World) (E:TypeId) (s:ByteArray) (hs:s.size≤maxLen) :
 Row (w.alloc (.cells (bytesRow s (grownCap w s.size 0 E)) E ((bytesRow s (grownCap w s.size 0 E)).size,(bytesRow s (grownCap w s.size 0 E)).size+1))) w.heap.size E
  (.slice (some ⟨w.heap.size,0,none⟩) s.size (grownCap w s.size 0 E)) s.size (u8s (Qb s)):=by
 have hge:=grownCap_ge w s.size 0 E
 have hsz:(bytesRow s (grownCap w s.size 0 E)).size=grownCap w s.size 0 E:=by
  unfold bytesRow;rw [Array.size_append,Array.size_map,Array.size_replicate];show s.size+_=_;omega
 refine ⟨w.heap.size,_,_,_,rfl,Nat.le_refl _,heap_alloc_new w _,.inr (Nat.le_refl _),hge,by rw [hsz];exact Nat.le_refl _,grownCap_le_maxLen w s.size 0 E hs,by rw [QS,Qi],?_⟩
 have hl:(s.data.toList).length=s.size:=by simp
 unfold bytesRow u8s Qb
 rw [Array.toList_append,Array.toList_map,List.take_append_of_le_length (by simp),List.take_of_length_le (by simp),List.map_map]
 rfl
theorem vF {P:Program} {D:List Nat} {src dst:TypeId} (hs:P.underlying src=some (.slice E)) (he:P.underlying E=some (.int .u8)) (hd:P.underlying dst=some .string)
 (h:Row w base E v n (u8s D)):(convert src dst v).run P w=.ok (.string (Qh D)) w:=by
 have hn:D.length=n:=by have:=h.len;rwa [QS] at this
 obtain ⟨g,cap,rfl,_⟩:=h.form
 rw [run_convert_bytes_string w src dst E _ _ _ hs he hd]
 have hl:=run_loadCells_list (P:=P) (w:=w) ⟨g,0,none⟩ (u8s D) (fun j u hu=>by
  have:=h.cell j u hu
  unfold Addr.add
  split
  ·rename_i h0;rw [h0] at this;exact this
  ·simpa using this)
 rw [QS,hn] at hl
 have e1:(u8s D).toArray=((D.map fun (b:Nat)=>(b:Int)).map (Value.int .u8)).toArray:=by simp [u8s]
 rw [e1] at hl
 rw [run_bytesToString w ⟨g,0,none⟩ n cap _ hl]
 congr 2
 rw [List.foldl_map]
 simp only [Int.toNat_natCast]
 rw [ACb]
 simp [Qh]
end
theorem xX {P:Program} (w:World) {ops:Array Oper} {rest:List Oper} {o:Oper} {a:Act} {Q:Exit→Act→World→Prop}
 (hg:o.guard=none) (s x:Operand) (t:TypeId) (hop:o.op=Op.call { callee:=Callee.builtin Builtin.append,args:=#[s,x],argTypes:=#[t,t] })
 (E:TypeId) (i:TypeInfo) (h1:P.underlying t=some (.slice E)) (h2:P.info? E=some i) (h3:i.zero=some (.int .u8 0)) (h4:i.size=1) (h5:i.bytes=1)
 (v:Value) (n base:Nat) (xs:List Value) (hs:a.eval s=v) (hrow:Row w base E v n xs)
 (ad:Addr) (c:Nat) (u:Value) (hx:a.eval x=.slice (some ad) 1 c) (hc:w.cell? ad=some u) (h1c:u.oneCell'=true)
 (b1:n+1≤140737488351232) (hbase:base≤w.heap.size)
 (hK:∀ v' w',Row w' base E v' (n+1) (xs++[u])→w.grownBy w' v.ownBlock→wpList P ops Q rest (a.put o.dst v') w') :
 wpList P ops Q (o::rest) a w:=by
 obtain ⟨g,cap,rfl,hb,hlt,hnc⟩:=hrow.form
 have hl:=hrow.len
 refine wpList_append_arg w hg s x t hop E i (.int .u8 0) 1 1 h1 h2 h3 h4 h5 rfl (by decide) g 0 n cap xs hs (by omega) (fun j u hu=>by rw [Nat.zero_add];exact hrow.cell j u hu)
  ad 1 c [u] hx rfl (fun j u' hu=>by
   match j,hu with
   | 0,hu=>simp at hu;subst hu;simpa [Addr.add] using hc) (by simpa using h1c)
  (fun hr j hj=>by
    have:j=0:=by simpa using hj
    subst this
    simp only [Nat.zero_add,Nat.mul_one,Nat.add_zero]
    exact ⟨hrow.there n (by omega),hrow.free n (by omega)⟩) (by unfold maxLen;omega) (by omega) ?_ ?_
 ·intro hr
  have:=hK _ _ (hrow.grow hr u) ⟨rfl,rfl,rfl,by simp [World.setCell],fun i hi hne=>Below.heap_setCell w _ u i (by intro e;exact hne (by rw [e];rfl))⟩
  simpa [World.setCells] using this
 ·intro hr v' w' hown hgr
  exact hK v' w' ((Row.ofOwn hown (by omega)).mono hbase) ⟨hgr.os,hgr.tape,hgr.output,hgr.size,fun i hi _=>hgr.block i hi (by simp)⟩
def half (v n k:Nat):List Nat:=Qe (v / 2^(n-k)) k++List.replicate (n-k) 0
theorem AUz (v n k:Nat) (h:k≤n):(half v n k).length=n:=by simp [half,QD];omega
theorem ARd (v n:Nat):half v n 0=List.replicate n 0:=by simp [half,Qe]
theorem ATh (v n:Nat):half v n n=Qe v n:=by simp [half]
theorem AUq (v n k:Nat) (h:k<n):(half v n k).set k (v / 2^(n-1-k) % 2)=half v n (k+1):=by
 have e:Qe (v / 2^(n-(k+1))) (k+1)=Qe (v / 2^(n-k)) k++[v / 2^(n-1-k) % 2]:=by
  rw [Jz,Nat.div_div_eq_div_mul,←Nat.pow_add,show n-(k+1)+1=n-k by omega,show n-(k+1)=n-1-k by omega]
  simp [Qe]
 unfold half
 rw [e,show n-k=(n-(k+1))+1 by omega,List.replicate_succ,List.set_append_right _ _ (by rw [QD];exact Nat.le_refl _),QD]
 simp
theorem Vp (n:Nat):(madeCells #[Value.int .u8 0] n).toList=u8s (List.replicate n 0):=by
 rw [toList_madeCells_one];simp [u8s]
theorem QY (v n:Nat) (w:World) (hn:n≤40) (hv:v<2^32) :
 Calls Tryz.prog 64 #[.int .i64 v,.int .i64 n] w fun e w' =>
  e=.returned (.slice (some ⟨w.heap.size,0,none⟩) n n)∧w'.ownsRow w.heap.size 5 1 (.slice (some ⟨w.heap.size,0,none⟩) n n) n (u8s (Qe v n))∧Below w.heap.size w w':=by
 obtain ⟨i0,hi,hz0,hz1,hz2⟩:=info_parts Tryz.info5
 go_enter Tryz.func64,Tryz.ntmps64
 go_wp2_with (at_make;refine wpList_make_full _ rfl _ _ 61 rfl w.heap.size 5 i0 (.int .u8 0) 1 Tryz.underlying61 hi hz0 hz1 .i64 .i64 _ _ n rfl rfl rfl rfl ?c1 ?c2 ?c3 ?_)
 case c1=>rw [hz2];omega
 case c2=>unfold maxLen;omega
 case c3=>exact Nat.le_refl _
 intro w1 hown1 hg1
 have hb1:Below w.heap.size w w1:=(Below.refl _ _).grown hg1 (Nat.le_refl _) (by simp)
 rw [Vp] at hown1
 clear hg1
 go_wp2
 go_loopw [6] (fun i wr=>∃ k:Nat,k≤n∧i=.int .i64 k∧wr.ownsRow w.heap.size 5 1 (.slice (some ⟨w.heap.size,0,none⟩) n n) n (u8s (half v n k))∧Below w.heap.size w wr) (fun i _=>n-(intOf i).toNat)
 case atStart=>exact ⟨0,Nat.zero_le _,rfl,by rw [ARd];exact hown1,hb1⟩
 case round =>
  obtain ⟨k,hk,rfl,hown,hbl⟩:=hrel
  clear hb1 hown1
  by_cases hlt:k<n
  ·have c0:=hown.cellAt k (by omega)
   rw [YW _ _ (by rw [AUz _ _ _ hk];exact hlt)] at c0
   have f0:=hown.frozenAt k
   go_wp2
   refine ⟨⟨k+1,by omega,by go_num,?_,hbl.setCell (Nat.le_refl _) _⟩,by simp [intOf];omega⟩
   have hs:=hown.stored k (.int .u8 ((v / 2^(n-1-k) % 2:Nat):Int))
   rw [←qh,AUq v n k hlt] at hs
   have hv2:v / 2^(n-1-k)≤v:=Nat.div_le_self _ _
   have e2:bits BinOp.and IntKind.i64 ((v:Int) / 2^(n-1-k)) 1 % 256=((v / 2^(n-1-k) % 2:Nat):Int):=by
    have:=jl (v / 2^(n-1-k)) 1 (by omega) (by omega)
    rw [nat_mask1] at this
    rw [show ((v:Int) / 2^(n-1-k))=((v / 2^(n-1-k):Nat):Int) by simp,show (1:Int)=((1:Nat):Int) by rfl,this]
    omega
   rw [e2];exact hs.1
  ·have hkn:k=n:=by omega
   subst hkn
   go_wp2
   go_ret
   rw [ATh] at hown
   exact ⟨rfl,hown,hbl⟩
theorem AIp (l:List Nat) (hl1:∀ b∈l,b<2) (g c base:Nat) (w:World) (hl:l.length≤1000000) (hg0:g<w.heap.size)
 (hown0:w.ownsRow base 5 1 (.slice (some ⟨g,0,none⟩) l.length c) l.length (u8s l)) :
 Calls Tryz.prog 32 #[.slice (some ⟨g,0,none⟩) l.length c] w fun e w' =>
  ∃ D,Packs D l∧e=.returned (.agg #[.string (Qh D),.int .i64 l.length])∧Below w.heap.size w w':=by
 obtain ⟨i0,hi,hz0,hz1,hz2⟩:=info_parts Tryz.info5
 obtain ⟨m,hm⟩:∃ m,m=(l.length+7) / 8:=⟨_,rfl⟩
 have hm2:l.length≤8*m:=by omega
 have hm3:m≤1000000:=by omega
 have HM:=Qa hm
 clear hm
 go_enter Tryz.func32,Tryz.ntmps32
 go_wp2_with (at_make;refine wpList_make_full _ rfl _ _ 61 rfl (w.heap.size+1) 5 i0 (.int .u8 0) 1 Tryz.underlying61 hi hz0 hz1 .i64 .i64 _ _ m rfl rfl ?c4 ?c5 ?c1 ?c2 ?c3 ?_)
 case c4=>have:=HM.out;omega
 case c5=>have:=HM.out;omega
 case c1=>rw [hz2];omega
 case c2=>unfold maxLen;omega
 case c3=>simp
 intro w1 hown1 hg1
 have hb1:Below w.heap.size w w1:=((Below.refl _ _).alloc (Nat.le_refl _) _).grown hg1 (by simp) (by simp)
 have hR1:Has w1 w.heap.size 32 #[.string ⟨#[]⟩,.int .i64 0]:=(Has.fresh w _ _).grown hg1 (by simp)
 rw [Vp] at hown1
 (try simp only [World.size_alloc] at hown1)
 clear hg1
 go_wp2
 go_loopw [4] (fun i wr=>∃ (k:Nat) (D:List Nat),k≤l.length∧i=.int .i64 k∧D.length=m∧(∀ j,D.getD j 0<256)∧Hid (∀ j,j<8*m→bitL D j=(l.take k).getD j 0)∧wr.ownsRow (w.heap.size+1) 5 1 (.slice (some ⟨w.heap.size+1,0,none⟩) m m) m (u8s D)∧Has wr w.heap.size 32 #[.string ⟨#[]⟩,.int .i64 0]∧Below w.heap.size w wr) (fun i _=>l.length-(intOf i).toNat)
 case atStart=>exact ⟨0,List.replicate m 0,Nat.zero_le _,rfl,by simp,fun j=>by simp [List.getD_eq_getElem?_getD,List.getElem?_replicate];split <;> simp,Qa fun j hj=>by simp [bitL,List.getD_eq_getElem?_getD,List.getElem?_replicate];split <;> simp,hown1,hR1,hb1⟩
 case round =>
  obtain ⟨k,D,hk,rfl,hD,hDs,hDb,hown,hR,hbl⟩:=hrel
  clear hb1 hown1 hR1
  by_cases hlt:k<l.length
  ·have HD:=Qa hD
   have c0:wr.cell? ⟨g,k,none⟩=some (.int .u8 ((l.getD k 0:Nat):Int)):=by
    rw [hbl.cell (p:=⟨g,k,none⟩) hg0,hown0.cellAt k (by omega),YW _ _ hlt]
   have c1:=hown.cellAt (k / 8) (by omega)
   rw [YW _ _ (by omega)] at c1
   have f1:=hown.frozenAt (k / 8)
   have hi1:0≤(k:Int) / 8∧(k:Int) / 8<m:=by omega
   clear hD
   obtain ⟨W0,HW0⟩:∃ W0,Hid (W0=wr):=⟨_,Qa rfl⟩
   go_wp2
   go_region
   all_goals go_wp2
   have hb2:l[k]<2:=hl1 _ (List.getElem_mem _)
   have hp:=AGq (D:=D) (l:=l.take k) l[k] hb2 HD.out hDs (by rw [List.length_take];omega) hDb.out
   rw [List.length_take,Nat.min_eq_left (by omega),←List.take_succ_eq_append_getElem hlt] at hp
   refine ⟨⟨k+1,D.set (k / 8) (D.getD (k / 8) 0 ||| l[k]*2^(7-k % 8)),by omega,by go_num,?_,hp.1,Qa hp.2,?_,?_,?_⟩,by simp [intOf];omega⟩
   ·rw [List.length_set];exact HD.out
   ·have hs:=(hown.stored (k / 8) (.int .u8 ((D.getD (k / 8) 0 ||| l[k]*2^(7-k % 8):Nat):Int))).1
    rw [←qh] at hs
    have hx:l[k]*2^(7-k % 8)<256:=by
     have h1:2^(7-k % 8)≤2^7:=Nat.pow_le_pow_right (by omega) (by omega)
     have:=Nat.mul_le_mul (show l[k]≤1 by omega) h1
     omega
    have e2:bits BinOp.or IntKind.u8 (↑(D[k / 8]?.getD 0)) ((l[k]:Int)*2^(7-k % 8) % 256)=((D.getD (k / 8) 0 ||| l[k]*2^(7-k % 8):Nat):Int):=by
     rw [←u8_or_nat _ _ (hDs _) hx,List.getD_eq_getElem?_getD]
     congr 1
     rw [show ((l[k]:Int)*2^(7-k % 8))=((l[k]*2^(7-k % 8):Nat):Int) by simp]
     omega
    rw [e2];exact hs
   ·exact (hR.storeAway (by simp) _).drew
   ·exact (hbl.setCell (by simp) _).drew
  ·have hkn:k=l.length:=by omega
   subst hkn
   have HD:=Qa hD
   have e0:=hR.cell 0
   have e1:=hR.cell 1
   have g0:=hR.free 0
   have g1:=hR.free 1
   simp at e0 e1
   have hrun:=Ye (P:=Tryz.prog) (src:=61) (dst:=9) Tryz.underlying61 Tryz.underlying5 Tryz.underlying9 hown hD
   have hP:Packs D l:=⟨hD.trans HM.out,hDs,fun j hj=>by have:=hDb.out j (by omega);rwa [List.take_length] at this⟩
   clear hDs hown hR hD
   go_wp2
   refine bodyPost_ret (v:=.agg #[.string (Qh D),.int .i64 l.length]) (by simp [results,Tryz.results32,go_sem,e0,e1,g0,g1]) rfl ⟨D,hP,rfl,?_⟩
   repeat (first | exact Below.refl _ _ | refine Below.alloc ?_ (by (try simp);(try omega)) _ | refine Below.setCell ?_ (by (try simp);(try omega)) _ | refine Below.drew ?_ | refine Qc (by assumption) (by (try simp);(try omega)) ?_ | refine JD (by assumption) (by (try simp);(try omega)) (by (try simp);(try omega)) ?_)
theorem ARj:Packs [] []:=⟨rfl,fun j=>by simp,fun j hj=>by simp at hj⟩
theorem AJe (w:World) :
 Calls Tryz.prog 32 #[.slice none 0 0] w fun e w' =>
  e=.returned (.agg #[.string (Qh []),.int .i64 0])∧Below w.heap.size w w':=by
 obtain ⟨i0,hi,hz0,hz1,hz2⟩:=info_parts Tryz.info5
 go_enter Tryz.func32,Tryz.ntmps32
 go_wp2_with (at_make;refine wpList_make_full _ rfl _ _ 61 rfl (w.heap.size+1) 5 i0 (.int .u8 0) 1 Tryz.underlying61 hi hz0 hz1 .i64 .i64 _ _ 0 rfl rfl ?c4 ?c5 ?c1 ?c2 ?c3 ?_)
 case c4=>rfl
 case c5=>rfl
 case c1=>rw [hz2];omega
 case c2=>unfold maxLen;omega
 case c3=>simp
 intro w1 hown1 hg1
 have hb1:Below w.heap.size w w1:=((Below.refl _ _).alloc (Nat.le_refl _) _).grown hg1 (by simp) (by simp)
 have hR:Has w1 w.heap.size 32 #[.string ⟨#[]⟩,.int .i64 0]:=(Has.fresh w _ _).grown hg1 (by simp)
 rw [Vp] at hown1
 (try simp only [World.size_alloc] at hown1)
 have e0:=hR.cell 0
 have e1:=hR.cell 1
 have g0:=hR.free 0
 have g1:=hR.free 1
 simp at e0 e1
 have hrun:=Ye (P:=Tryz.prog) (src:=61) (dst:=9) Tryz.underlying61 Tryz.underlying5 Tryz.underlying9 hown1 (by simp)
 simp only [List.replicate_zero] at hrun
 clear hg1 hown1 hR
 go_wp2
 refine wp_loop_rounds 1 ?_
 rw [rounds_succ]
 go_wp2
 refine bodyPost_ret (v:=.agg #[.string (Qh []),.int .i64 0]) (by simp [results,Tryz.results32,go_sem,e0,e1,g0,g1]) rfl ⟨rfl,?_⟩
 repeat (first | exact Below.refl _ _ | refine Below.alloc ?_ (by (try simp);(try omega)) _ | refine Below.setCell ?_ (by (try simp);(try omega)) _ | refine Below.drew ?_ | refine Qc (by assumption) (by (try simp);(try omega)) ?_ | refine JD (by assumption) (by (try simp);(try omega)) (by (try simp);(try omega)) ?_)
theorem AKd (l:List Nat) (hl1:∀ b∈l,b<2) (v:Value) (base:Nat) (w:World) (hl:l.length≤1000000)
 (hown0:w.ownsRow base 5 1 v l.length (u8s l)) :
 Calls Tryz.prog 32 #[v] w fun e w' =>
  ∃ D,Packs D l∧e=.returned (.agg #[.string (Qh D),.int .i64 l.length])∧Below w.heap.size w w':=by
 rcases hown0.2 with ⟨rfl,h0⟩ | ⟨g,c,cur,rfl,_⟩
 ·obtain rfl:l=[]:=List.eq_nil_of_length_eq_zero h0
  exact (AJe w).mono fun e w' ⟨he,hb⟩=>⟨[],ARj,he,hb⟩
 ·exact AIp l hl1 g c base w hl (hown0.lt g rfl).2 hown0
theorem APs (n:Nat) (w:World) (h1:1≤n) (h2:n≤1048575) :
 Calls Tryz.prog 104 #[.int .i64 n] w fun e w'=>e=.returned (.int .i64 (Nat.log2 n))∧w=w':=by
 have hk:=Yz h1 h2
 have HF:Hid (∀ m,2≤m→Nat.log2 m=Nat.log2 (m / 2)+1):=Qa (fun m h=>XK h)
 have H1:Hid (Nat.log2 1=0):=Qa ASb
 obtain ⟨g,hg⟩:∃ g,Nat.log2 n=g:=⟨_,rfl⟩
 rw [hg] at hk ⊢
 have HG:=Qa hg
 clear hg
 go_enter Tryz.func104,Tryz.ntmps104
 go_wp2
 go_loop [0,3] (fun sn sk=>∃ m k:Nat,sn=.int .i64 m∧sk=.int .i64 k∧1≤m∧m≤1048575∧k≤g∧Hid (Nat.log2 m+k=g)) (fun sn _=>(intOf sn).toNat)
 case atStart=>exact ⟨n,0,rfl,rfl,h1,h2,by omega,Qa (by rw [HG.out];rfl)⟩
 case round =>
  obtain ⟨m,k,rfl,rfl,hm1,hm2,hk2,HM⟩:=hrel
  by_cases hlt:1<m
  ·have HM2:Hid (Nat.log2 (m / 2)+(k+1)=g):=Qa (by have:=HF.out m (by omega);have:=HM.out;omega)
   go_wp2
   go_round
   case rel=>exact ⟨m / 2,k+1,by go_num,by go_num,by omega,by omega,by have:=HM2.out;omega,HM2⟩
   case measure=>simp [intOf];omega
  ·have e:m=1:=by omega
   subst e
   have hkg:k=g:=by have:=HM.out;rw [H1.out] at this;omega
   subst hkg
   go_wp2
   go_ret
   exact ⟨rfl,rfl⟩
theorem ZC (n:Nat) (w:World) (h1:1≤n) (h2:n≤1048575) :
 Calls Tryz.prog 65 #[.int .i64 n] w fun e w'=>∃ v,e=.returned v∧w'.ownsRow w.heap.size 5 1 v (gamL n).length (u8s (gamL n))∧Below w.heap.size w w':=by
 have K1:=Qa (fun W=>APs n W h1 h2)
 have hk:=Yz h1 h2
 have HL:=Qa (jC n)
 have K2:Hid (∀ W,Calls Tryz.prog 64 #[.int .i64 n,.int .i64 (2*(Nat.log2 n:Int)+1)] W fun e w' =>
  ∃ v,e=.returned v∧w'.ownsRow W.heap.size 5 1 v (2*Nat.log2 n+1) (u8s (gamL n))∧Below W.heap.size W w'):=Qa (fun W=>by
  have h:=QY n (2*Nat.log2 n+1) W (by omega) (by omega)
  rw [show ((2*Nat.log2 n+1:Nat):Int)=2*(Nat.log2 n:Int)+1 by omega] at h
  refine h.mono ?_
  rintro e w' ⟨rfl,hown,hb⟩
  exact ⟨_,rfl,hown,hb⟩)
 obtain ⟨g,hg⟩:∃ g,Nat.log2 n=g:=⟨_,rfl⟩
 rw [hg] at hk K1 K2 HL
 clear hg
 go_enter Tryz.func65,Tryz.ntmps65
 go_wp2_with fail
 refine (K1.out _).mono ?_
 rintro e w1 ⟨rfl,rfl⟩
 go_wp2_with fail
 refine (K2.out _).mono ?_
 rintro e w2 ⟨v,rfl,hown,hb⟩
 go_wp2
 go_ret
 exact ⟨v,rfl,by rw [HL.out];exact hown,hb⟩
def ADu (n:Int):Bool:=decide (1≤n∧n≤1048575)
theorem ARw (n:Int):ADu n=true↔1≤n∧n≤1048575:=by simp [ADu]
theorem AGe (w:World) (u v:Value) (T:TypeId):∀ (j:Nat) (x:Value),[u,v][j]? = some x→(w.alloc (.cells #[u,v] T)).cell? ((⟨w.heap.size,0,none⟩:Addr).add j)=some x:=by
 intro j x h
 have hF:=Has.fresh w T #[u,v]
 match j,h with
 | 0,h=>simp at h;subst h;exact hF.cell 0
 | 1,h=>simp at h;subst h;exact hF.cell 1
 | j+2,h=>simp at h
theorem AAx (a:Option Addr) (cap B:Nat) (ls:List Int) (w:World) (hz:Ints w B a ls) (hB:B≤w.heap.size) (hok:lOk ls=true) :
 Calls Tryz.prog 72 #[.slice a ls.length cap] w fun e w'=>∃ v,e=.returned v∧w'.ownsRow w.heap.size 5 1 v (put5 ls).length (u8s (put5 ls))∧Below w.heap.size w w':=by
 obtain ⟨i0,hi,hz0,hz1,hz2⟩:=info_parts Tryz.info5
 have hr:=Za hok
 have HLN:Hid (∀ s,s<ls.length→ls.getD s 0=(lnF ls s:Int)∧1≤lnF ls s∧lnF ls s≤20):=Qa (fun s hs=>⟨Jw hr s hs,QZ hr s hs⟩)
 have HLE:=Qa (fun k hk=>vU hr k hk)
 have HNR:=Qa (fun k hk=>zm hr k hk)
 have HPS:Hid (∀ k,k<ls.length→putN ls (k+1)=putN ls k++JR (nowN ls k) (lnF ls k)∧nowN ls (k+1)=lnF ls k):=Qa (fun k hk=>⟨zQ ls k hk,zV ls k hk⟩)
 have HP0:Hid (putN ls 0=Qe (lnF ls 0) 5∧nowN ls 0=lnF ls 0):=Qa ⟨xc ls,AAt ls⟩
 have HPA:Hid (put5 ls=putN ls ls.length):=Qa rfl
 obtain ⟨P,hP⟩:∃ P,putN ls=P:=⟨_,rfl⟩
 obtain ⟨Nw,hN⟩:∃ N,nowN ls=N:=⟨_,rfl⟩
 obtain ⟨l,hl⟩:∃ l,lnF ls=l:=⟨_,rfl⟩
 obtain ⟨n,hn⟩:∃ n,ls.length=n:=⟨_,rfl⟩
 have hn1:1≤n:=by rw [←hn];exact hr.1
 have hn2:n≤260:=by rw [←hn];exact hr.2.1
 obtain ⟨b,off,rfl,hb,hc⟩:=hz.2.2 (by omega)
 have HC:=Qa hc
 rw [hP] at HLE HPS HP0 HPA
 rw [hN] at HNR HPS HP0
 rw [hl] at HLN HPS HP0
 rw [hn] at HLN HLE HNR HPS HC HPA ⊢
 have hbw:b<w.heap.size:=by omega
 have h0:=HLN.out 0 (by omega)
 have c0:=hc 0 (by rw [hn];omega)
 rw [h0.1] at c0
 simp only [Nat.add_zero] at c0
 obtain ⟨x0,hx0⟩:∃ x,l 0=x:=⟨_,rfl⟩
 rw [hx0] at h0 c0 HP0
 have h0r:=h0.2
 have K1:=Qa (fun W=>QY x0 5 W (by omega) (by omega))
 clear hz hr hn hc hok hl hP hN h0
 go_enter Tryz.func72,Tryz.ntmps72
 go_wp2_with fail
 refine (K1.out _).mono ?_
 rintro e w1 ⟨rfl,hown1,b1⟩
 have c1:=(b1.cell (p:=⟨b,off,none⟩) hbw).trans c0
 have hs1:=b1.size
 clear c0
 go_wp2
 go_loopw [3,4,5] (fun v sn si wr=>∃ k:Nat,k≤n∧si=.int .i64 k∧sn=.int .i64 (Nw k)∧wr.ownsRow w.heap.size 5 1 v (P k).length (u8s (P k))∧Below w.heap.size w wr) (fun _ _ si _=>n-(intOf si).toNat)
 case atStart=>exact ⟨0,by omega,rfl,by rw [HP0.out.2],by rw [HP0.out.1,QD];exact hown1,b1⟩
 case round =>
  obtain ⟨k,hk,rfl,rfl,hown,hbl⟩:=hrel
  by_cases hlt:k<n
  ·have hln:=HLN.out k hlt
   have hnr:=HNR.out k (by omega)
   have hle:=HLE.out (k+1) (by omega)
   have hle0:=HLE.out k (by omega)
   obtain ⟨hps,hnw⟩:=HPS.out k hlt
   have hcx:=HC.out k hlt
   rw [hln.1] at hcx
   obtain ⟨x,hx⟩:∃ x,l k=x:=⟨_,rfl⟩
   obtain ⟨now,hnow⟩:∃ x,Nw k=x:=⟨_,rfl⟩
   obtain ⟨L,hL⟩:∃ L,P k=L:=⟨_,rfl⟩
   rw [hx] at hln hps hnw hcx
   rw [hnow] at hnr hps ⊢
   rw [hL] at hps hle0 hown
   have hxr:=hln.2
   rw [ALb] at hps
   have HS:=Qa hps
   have HW:=Qa hnw
   have HLl:=Qa hle0
   clear hps hnw hnow hL hx hln hle hle0
   go_wp2
   go_loopw [3,4] (fun v sn wx=>∃ j:Nat,j≤x-now∧sn=.int .i64 ((now+j:Nat):Int)∧wx.ownsRow w.heap.size 5 1 v (L++upP j).length (u8s (L++upP j))∧Below w.heap.size w wx) (fun _ sn _=>x-(intOf sn).toNat)
   case atStart=>exact ⟨0,by omega,rfl,by simpa [upP] using hown,hbl⟩
   case round =>
    obtain ⟨j,hj,rfl,hown2,hbl2⟩:=hrel
    have hsz2:=hbl2.size
    have ck:=(hbl2.cell (p:=⟨b,off+k,none⟩) hbw).trans hcx
    have HPl:=Qa (show (L++upP j).length≤20000 by rw [List.length_append,ALh];have:=HLl.out;omega)
    by_cases hlt2:now+j<x
    ·have hI:((now+j:Nat):Int)<(x:Int):=by omega
     obtain ⟨p,hp⟩:∃ p,(L++upP j).length=p:=⟨_,rfl⟩
     have HN2:Hid ((L++upP (j+1)).length=p+2∧u8s (L++upP (j+1))=u8s (L++upP j)++[.int .u8 1,.int .u8 0]):=Qa (by
      rw [upP,←List.append_assoc]
      exact ⟨by rw [List.length_append,hp];rfl,by rw [Qq];rfl⟩)
     have hpl:=HPl.out
     rw [hp] at hown2 hpl
     obtain ⟨y,hy⟩:∃ y,now+j=y:=⟨_,rfl⟩
     rw [hy] at hI ⊢
     have HY:=Qa hy
     clear hp hy hlt2 hj
     go_wp2_with (at_builtin;refine wpList_append_own_at _ rfl _ _ 61 rfl w.heap.size 5 i0 (.int .u8 0) 1 1 Tryz.underlying61 hi hz0 hz1 hz2 rfl (by decide) _ _ _ rfl (hown2.alloc _) ⟨wr.heap.size,0,none⟩ 2 2 [.int .u8 1,.int .u8 0] rfl rfl ?ca2 ?ca3 ?ca4 ?ca5 ?ca6 ?_)
     case ca2=>exact AGe _ _ _ _
     case ca3=>exact fun u hu=>by simp at hu;rcases hu with rfl | rfl <;> rfl
     case ca4=>unfold maxLen;omega
     case ca5=>omega
     case ca6=>first | omega | (simp;omega)
     intro v3 w3 hown3 hgrow _ _
     have hbl3:Below w.heap.size w w3:=(hbl2.alloc (by omega) _).grown hgrow (by simp;omega) (fun b hb=>(hown2.lt b hb).1)
     have hownN:w3.ownsRow w.heap.size 5 1 v3 (L++upP (j+1)).length (u8s (L++upP (j+1))):=by rw [HN2.out.1,HN2.out.2];exact hown3
     clear hown3 hgrow hown2 hbl2
     go_wp2
     go_roundw
     case rel=>exact ⟨j+1,by have:=HY.out;omega,by have:=HY.out;rw [show now+(j+1)=y+1 by omega];go_num,hownN,hbl3⟩
     case measure=>simp [intOf];have:=HY.out;omega
    ·have hjx:j=x-now:=by omega
     have hI:¬ ((now+j:Nat):Int)<(x:Int):=by omega
     obtain ⟨M,hM⟩:∃ M,L++upP j=M:=⟨_,rfl⟩
     rw [hM] at hown2 HPl
     have HM:=Qa hM
     obtain ⟨y,hy⟩:∃ y,now+j=y:=⟨_,rfl⟩
     rw [hy] at hI ⊢
     have HY:=Qa (show y=max now x by omega)
     have hyr:y≤20:=by omega
     have HJ:=Qa hjx
     clear hM hlt2 hy hj hjx
     go_wp2
     go_loopw [3,4] (fun v sn wy=>∃ q:Nat,q≤now-x∧sn=.int .i64 ((y-q:Nat):Int)∧wy.ownsRow w.heap.size 5 1 v (M++dnP q).length (u8s (M++dnP q))∧Below w.heap.size w wy) (fun _ sn _=>(intOf sn).toNat)
     case atStart=>exact ⟨0,by omega,rfl,by simpa [dnP] using hown2,hbl2⟩
     case round =>
      obtain ⟨q,hq,rfl,hown4,hbl4⟩:=hrel
      have hsz4:=hbl4.size
      have cq:=(hbl4.cell (p:=⟨b,off+k,none⟩) hbw).trans hcx
      have hMl:=HPl.out
      have HMl:=Qa (show (M++dnP q).length≤30000 by rw [List.length_append,AKp];omega)
      by_cases hlt4:x<y-q
      ·have hI:(x:Int)<((y-q:Nat):Int):=by omega
       obtain ⟨p,hp⟩:∃ p,(M++dnP q).length=p:=⟨_,rfl⟩
       have HN2:Hid ((M++dnP (q+1)).length=p+2∧u8s (M++dnP (q+1))=u8s (M++dnP q)++[.int .u8 1,.int .u8 1]):=Qa (by
        rw [dnP,←List.append_assoc]
        exact ⟨by rw [List.length_append,hp];rfl,by rw [Qq];rfl⟩)
       have hpl:=HMl.out
       rw [hp] at hown4 hpl
       obtain ⟨z,hz⟩:∃ z,y-q=z:=⟨_,rfl⟩
       rw [hz] at hI ⊢
       have hz20:z≤20:=by omega
       have HZ:=Qa hz
       have HQ:=Qa (show q+1≤now-x by have:=HY.out;omega)
       clear hp hz hlt4 hq ck
       go_wp2_with (at_builtin;refine wpList_append_own_at _ rfl _ _ 61 rfl w.heap.size 5 i0 (.int .u8 0) 1 1 Tryz.underlying61 hi hz0 hz1 hz2 rfl (by decide) _ _ _ rfl (hown4.alloc _) ⟨wr.heap.size,0,none⟩ 2 2 [.int .u8 1,.int .u8 1] rfl rfl ?cb2 ?cb3 ?cb4 ?cb5 ?cb6 ?_)
       case cb2=>exact AGe _ _ _ _
       case cb3=>exact fun u hu=>by simp at hu;rcases hu with rfl | rfl <;> rfl
       case cb4=>unfold maxLen;omega
       case cb5=>omega
       case cb6=>first | omega | (simp;omega)
       intro v5 w5 hown5 hgrow _ _
       have hbl5:Below w.heap.size w w5:=(hbl4.alloc (by omega) _).grown hgrow (by simp;omega) (fun b hb=>(hown4.lt b hb).1)
       have hownN:w5.ownsRow w.heap.size 5 1 v5 (M++dnP (q+1)).length (u8s (M++dnP (q+1))):=by rw [HN2.out.1,HN2.out.2];exact hown5
       clear hown5 hgrow hown4 hbl4
       go_wp2
       go_roundw
       case rel=>exact ⟨q+1,HQ.out,by have:=HZ.out;rw [show ((y-(q+1):Nat):Int)=(z:Int)-1 by omega],hownN,hbl5⟩
       case measure=>simp [intOf];omega
      ·have HQ:=Qa (show q=now-x∧y-q=x by have:=HY.out;omega)
       have hI:¬ (x:Int)<((y-q:Nat):Int):=by omega
       obtain ⟨p,hp⟩:∃ p,(M++dnP q).length=p:=⟨_,rfl⟩
       have HN2:Hid ((P (k+1)).length=p+1∧u8s (P (k+1))=u8s (M++dnP q)++[.int .u8 0]):=Qa (by
        have e:P (k+1)=(M++dnP q)++[0]:=by
         rw [HS.out,←HM.out,←HQ.out.1,←HJ.out,List.append_assoc,List.append_assoc,List.append_assoc]
        rw [e]
        exact ⟨by rw [List.length_append,hp];rfl,by rw [Qq];rfl⟩)
       have hpl:=HMl.out
       rw [hp] at hown4 hpl
       obtain ⟨z,hz⟩:∃ z,y-q=z:=⟨_,rfl⟩
       rw [hz] at hI ⊢
       have HZ:=Qa hz
       clear hp hz hlt4 hq ck
       go_wp2_with (at_builtin;refine wpList_append_own_at _ rfl _ _ 61 rfl w.heap.size 5 i0 (.int .u8 0) 1 1 Tryz.underlying61 hi hz0 hz1 hz2 rfl (by decide) _ _ _ rfl (hown4.alloc _) ⟨wr.heap.size,0,none⟩ 1 1 [.int .u8 0] rfl rfl ?cc2 ?cc3 ?cc4 ?cc5 ?cc6 ?_)
       case cc3=>first | rfl | exact fun u hu=>by simp at hu;subst hu;rfl
       case cc4=>unfold maxLen;omega
       case cc5=>omega
       case cc6=>first | omega | (simp;omega)
       intro v5 w5 hown5 hgrow _ _
       have hbl5:Below w.heap.size w w5:=(hbl4.alloc (by omega) _).grown hgrow (by simp;omega) (fun b hb=>(hown4.lt b hb).1)
       have hownN:w5.ownsRow w.heap.size 5 1 v5 (P (k+1)).length (u8s (P (k+1))):=by rw [HN2.out.1,HN2.out.2];exact hown5
       clear hown5 hgrow hown4 hbl4
       go_wp2
       exact ⟨⟨k+1,by omega,by go_num,by rw [HW.out,←HQ.out.2,HZ.out],hownN,hbl5⟩,by simp [intOf];omega⟩
  ·have hkn:k=n:=by omega
   subst hkn
   go_wp2
   go_ret
   exact ⟨_,rfl,by rw [HPA.out];exact hown,hbl⟩
def Qs (w:World) (base g:Nat) (l:List Nat):Prop :=
 ∃ (v:Value) (D:List Nat),Has w g 102 #[v,.int .i64 (l.length:Int)]∧Row w base 5 v D.length (u8s D)∧Packs D l∧some g≠v.ownBlock
theorem ZB (s:ByteArray) (n:Nat) (w:World) (hok:okB s n=true) :
 Calls Tryz.prog 34 #[.agg #[.string s,.int .i64 n]] w fun e w'=>∃ g,e=.returned (.pointer (some ⟨g,0,none⟩))∧Qs w' w.heap.size g (row s 0 n)∧w.heap.size≤g∧Below w.heap.size w w':=by
 have hroom:=zi hok
 have hcv:=fun W:World=>run_bytes_of_string (P:=Tryz.prog) W 9 61 5 s Tryz.underlying9 Tryz.underlying61 Tryz.underlying5
 go_enter Tryz.func34,Tryz.ntmps34
 go_wp2
 go_ret
 have hrow:=Row.ofString (w.alloc (.cells #[.string s,.int .i64 n] 32)) 5 s (by unfold maxLen;omega)
 have hpk:=zR hok
 refine ⟨w.heap.size+1+1,rfl,⟨.slice (some ⟨w.heap.size+1,0,none⟩) s.size (grownCap (w.alloc (.cells #[.string s,.int .i64 n] 32)) s.size 0 5),Qb s,?_,?_,hpk,?_⟩,by omega,?_⟩
 ·rw [Xc]
  exact Has.drew (Has.freshAt (by simp) _ _)
 ·rw [Qi]
  have:=((hrow.alloc (.cells #[.slice (some ⟨w.heap.size+1,0,none⟩) s.size (grownCap (w.alloc (.cells #[.string s,.int .i64 n] 32)) s.size 0 5),.int .i64 n] 102)).mono (show w.heap.size≤_ by simp)).drew
  simpa using this
 ·simp [Value.ownBlock]
 ·repeat (first | exact Below.refl _ _ | assumption | refine Below.alloc ?_ (by (try simp);(try omega)) _ | refine Below.setCell ?_ (by (try simp);(try omega)) _ | refine Below.drew ?_ | refine Qc (by assumption) (by (try simp);(try omega)) ?_ | refine JD (by assumption) (by (try simp);(try omega)) (by (try simp);(try omega)) ?_ | refine VD (by assumption) (by (try simp);(try omega)) ?_)
theorem Qs.lt {w:World} {base g:Nat} {l:List Nat} (h:Qs w base g l):g<w.heap.size:=by
 obtain ⟨v,D,hB,_⟩:=h;exact hB.lt
theorem Qs.below {w w':World} {base g:Nat} {l:List Nat} (h:Qs w base g l) (hb:Below w.heap.size w w'):Qs w' base g l:=by
 obtain ⟨v,D,hB,hR,hP,hne⟩:=h
 exact ⟨v,D,hB.below hb hB.lt,hR.belowAll hb,hP,hne⟩
theorem Qs.alloc {w:World} {base g:Nat} {l:List Nat} (h:Qs w base g l) (o:Obj):Qs (w.alloc o) base g l:=by
 obtain ⟨v,D,hB,hR,hP,hne⟩:=h
 exact ⟨v,D,hB.alloc o,hR.alloc o,hP,hne⟩
theorem Xq (g base:Nat) (l:List Nat) (w:World) (h:Qs w base g l) :
 Calls Tryz.prog 44 #[.pointer (some ⟨g,0,none⟩)] w fun e w'=>∃ D,Packs D l∧e=.returned (.agg #[.string (Qh D),.int .i64 l.length])∧Below w.heap.size w w':=by
 obtain ⟨v,D,hB,hR,hP,hne⟩:=h
 have hcv:∀ W:World,W.heap.size=w.heap.size+1→Row W base 5 v D.length (u8s D)→(convert 61 9 v).run Tryz.prog W=.ok (.string (Qh D)) W :=
  fun W _ h=>vF Tryz.underlying61 Tryz.underlying5 Tryz.underlying9 h
 have hB1:=hB.alloc (.cells #[.string ⟨#[]⟩,.int .i64 0] 32)
 have hlt:=hB.lt
 have c0:=hB1.cell 0
 have c1:=hB1.cell 1
 simp at c0 c1
 have hq:=hcv _ (by simp) (hR.alloc (.cells #[.string ⟨#[]⟩,.int .i64 0] 32)).drew
 clear hcv
 go_enter Tryz.func44,Tryz.ntmps44
 go_wp2
 go_region
 all_goals go_wp2
 all_goals
  refine bodyPost_ret (v:=.agg #[.string (Qh D),.int .i64 l.length]) (by simp [results,Tryz.results44,go_sem]) rfl ⟨D,hP,rfl,?_⟩
  repeat (first | exact Below.refl _ _ | assumption | refine Below.alloc ?_ (by (try simp);(try omega)) _ | refine Below.setCell ?_ (by (try simp);(try omega)) _ | refine Below.drew ?_ | refine Qc (by assumption) (by (try simp);(try omega)) ?_ | refine JD (by assumption) (by (try simp);(try omega)) (by (try simp);(try omega)) ?_ | refine VD (by assumption) (by (try simp);(try omega)) ?_)
def QK (g:Nat) (a w:World):Prop:=∀ b o,b≠g→(∀ cs fr,o≠Obj.cells cs 5 fr)→a.heap[b]? = some o→w.heap[b]? = some o
theorem QK.has {g:Nat} {a w:World} (h:QK g a w) {b:Nat} {T:TypeId} {cs:Array Value} (h1:b≠g) (h2:T≠5) (h3:Has a b T cs):Has w b T cs :=
 h b _ h1 (fun cs fr e=>by injection e with _ e2;exact h2 e2) h3
theorem Jq {w:World} {b:Nat} {o:Obj} (h:w.heap[b]? = some o):b<w.heap.size:=(Array.getElem?_eq_some_iff.1 h).1
theorem QK.refl (g:Nat) (w:World):QK g w w:=fun _ _ _ _ h=>h
theorem QK.trans {g:Nat} {a b c:World} (h:QK g a b) (k:QK g b c):QK g a c:=fun b' o h1 h2 h3=>k b' o h1 h2 (h b' o h1 h2 h3)
theorem QK.alloc {g:Nat} {a w:World} (h:QK g a w) (o:Obj):QK g a (w.alloc o):=fun b o2 h1 h2 h3=>(Below.heap_alloc w o b (Jq (h b o2 h1 h2 h3))).trans (h b o2 h1 h2 h3)
theorem QK.drewN {g:Nat} {a w:World} (h:QK g a w) (n:Nat):QK g a (w.drewN n):=fun b o h1 h2 h3=>h b o h1 h2 h3
theorem QK.store {g:Nat} {a w:World} (h:QK g a w) (j:Nat) (u:Value):QK g a (w.setCell ⟨g,j,none⟩ u):=fun b o h1 h2 h3=>(Below.heap_setCell w ⟨g,j,none⟩ u b h1).trans (h b o h1 h2 h3)
theorem Row.notOther {w:World} {base n:Nat} {v:Value} {xs:List Value} (hR:Row w base 5 v n xs) {b:Nat} {o:Obj} (ho:∀ cs fr,o≠Obj.cells cs 5 fr) (hb:w.heap[b]? = some o):v.ownBlock≠some b:=by
 obtain ⟨g,cap,cur,fr,rfl,_,hh,_⟩:=hR
 intro e
 simp only [Value.ownBlock,Option.some.injEq] at e
 subst e
 rw [hh] at hb
 injection hb with hb
 exact ho _ _ hb.symm
theorem QK.storeRow {g gd n cp base:Nat} {xs:List Value} {a w:World} (h:QK g a w) (hR:Row w base 5 (.slice (some ⟨gd,0,none⟩) n cp) n xs) (j:Nat) (u:Value):QK g a (w.setCell ⟨gd,j,none⟩ u) :=
 fun b o h1 h2 h3=>(Below.heap_setCell w ⟨gd,j,none⟩ u b (fun e=>hR.notOther h2 (h b o h1 h2 h3) (by rw [e];rfl))).trans (h b o h1 h2 h3)
theorem QK.grown {g n base:Nat} {v:Value} {xs:List Value} {a w w':World} (h:QK g a w) (hR:Row w base 5 v n xs) (hg:w.grownBy w' v.ownBlock):QK g a w' :=
 fun b o h1 h2 h3=>(hg.block b (Jq (h b o h1 h2 h3)) (fun e=>hR.notOther h2 (h b o h1 h2 h3) e.symm)).trans (h b o h1 h2 h3)
theorem Qs.only {w w':World} {base g b:Nat} {l:List Nat} {T:TypeId} {cs:Array Value} (h:Qs w base g l) (ho:Only b w w') (hb:Has w b T cs) (hT:5≠T) (hne:g≠b):Qs w' base g l:=by
 obtain ⟨v,D,hB,hR,hP,hn⟩:=h
 refine ⟨v,D,ho.has hB hne,hR.keep fun q hq=>ho.block q (hR.lt q hq).2 ?_,hP,hn⟩
 intro e
 exact hR.neHas hb hT (by rw [hq,e])
end Go.Proofs.YtembljihmnmmfaaGreat
