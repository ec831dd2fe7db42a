/- Texts of the proof, merged. -/
import Derived.Maps.AppendAt
import Derived.Lib.AppendZerosOnto
import Derived.Laws.OwnMore
import Derived.OwnWalkIn
import Derived.Test.YtembljihmnmmfaaGreatKB16
import Derived.Test.YtembljihmnmmfaaGreatKB2
namespace Go.Proofs.YtembljihmnmmfaaGreat
set_option maxHeartbeats 2000000
set_option maxRecDepth 100000
set_option linter.unusedVariables false
set_option linter.unusedSimpArgs false
open Go.RowKit
theorem XM (z:Value) (m:Nat):Builtin.zeroCells #[z] m=(List.replicate m z).toArray:=by
 apply Array.ext
 ·simp [Builtin.zeroCells]
 ·intro i h1 h2
  simp [Builtin.zeroCells,Nat.mod_one]
theorem ze {P:Program} (w:World) (base:Nat) (t tn ty e:TypeId) (i:TypeInfo) (z:Value) (kn:IntKind) (bytes:Nat) (ht:P.underlying t=some (.slice e)) (htn:P.underlying tn=some (.int kn)) (hi:P.info? e=some i) (hz:i.zero=some z)
 (hsize:i.size=1) (hby:i.bytes=bytes) (hzs:z.cells=#[z]) (hz1:z.oneCell'=true)
 (v:Value) (n:Nat) (xs:List Value) (hown:w.ownsRow base e 1 v n xs)
 (m:Nat) (h0:0<m) (h63:n+m≤maxLen) (hbytes:(n+m)*bytes≤140737488355328) (hbase:base≤w.heap.size) :
 ∃ v' w',(Builtin.append_ #[t,tn] ty #[v,.int .i64 (m:Int)]).run P w=.ok v' w'∧w'.ownsRow base e 1 v' (n+m) (xs++List.replicate m z)∧w.grownBy w' v.ownBlock ∧
  (v'.ownBlock=v.ownBlock∨v'.ownBlock=some w.heap.size):=by
 subst hby
 have hsmall:n+m≤9223372036854775807:=by simp only [maxLen] at h63;omega
 have hlen:(xs++List.replicate m z).length=(n+m)*1:=by rw [List.length_append,hown.1,List.length_replicate,Nat.mul_one,Nat.mul_one]
 have hbm:m*i.bytes≤140737488355328:=Nat.le_trans (Nat.mul_le_mul_right _ (Nat.le_add_left m n)) hbytes
 have grown:∀ (old:Nat),old<n+m→∀ (row:Option Nat),
  (w.drew.alloc (.cells (xs.toArray++Builtin.zeroCells z.cells m++Builtin.zeroCells z.cells (grownCap w (n+m) old e-(n+m))) e)).ownsRow base e 1
    (.slice (some ⟨w.heap.size,0,none⟩) (n+m) (grownCap w (n+m) old e)) (n+m) (xs++List.replicate m z) ∧
  w.grownBy (w.drew.alloc (.cells (xs.toArray++Builtin.zeroCells z.cells m++Builtin.zeroCells z.cells (grownCap w (n+m) old e-(n+m))) e)) row:=by
  intro old ho row
  have hge:=grownCap_ge w (n+m) old e
  have hcm:grownCap w (n+m) old e≤maxLen:=grownCap_le_maxLen w (n+m) old e h63
  have hxl:=hown.1
  rw [Nat.mul_one] at hxl
  refine ⟨⟨hlen,.inr ⟨w.heap.size,_,_,rfl,hbase,heap_alloc_new w.drew _,hge,hcm,?_,?_⟩⟩,⟨rfl,rfl,rfl,by simp,fun k hk _=>by first | exact heap_alloc_old w.drew _ k hk | exact heap_alloc_old w.drew _ hk⟩⟩
  ·rw [hzs,XM,XM]
   simp only [Array.size_append,List.size_toArray,List.length_replicate,hxl]
   omega
  ·rw [hzs,XM,XM]
   simp only [Array.toList_append]
   rw [←hlen]
   exact List.take_left
 rcases hown.2 with ⟨rfl,rfl⟩ | ⟨g,cap,cur,rfl,hbg,hg,hnc,hcm,hcs,htake⟩
 ·have hx:xs=[]:=List.eq_nil_of_length_eq_zero (by simpa using hown.1)
  subst hx
  have hr:=Lib.run_append_nil_zeros (P:=P) w t tn ty e i z .i64 kn ht htn hi hz m h0 (by omega) (by omega) (by omega)
  have hgr:=grown 0 (by omega) (Value.ownBlock (.slice none 0 0))
  simp only [Nat.zero_add,List.nil_append,Array.empty_append] at hgr ⊢
  exact ⟨_,_,hr,hgr.1,hgr.2,Or.inr rfl⟩
 ·by_cases hroom:n+m≤cap
  ·have hw:IntKind.i64.wrap (m:Int)=m:=by rw [IntKind.wrap_i64];omega
   have hneg:¬ ((m:Int)<0):=by omega
   have h48i:¬ (281474976710656<(m:Int)*(i.bytes:Int)):=by rw [←Int.natCast_mul];omega
   have hns:¬ (m=0):=by omega
   have hfit:n*1+0+(List.replicate m z).length≤cur.size:=by rw [List.length_replicate,hcs];omega
   have hst:=run_storeCells_at P g (n*1) e (List.replicate m z) 0 cur w hg hfit (fun u hu=>by rw [List.eq_of_mem_replicate hu];exact hz1)
   simp only [Nat.add_zero] at hst
   have hr:(Builtin.append_ #[t,tn] ty #[.slice (some ⟨g,0,none⟩) n cap,.int .i64 (m:Int)]).run P w=.ok (.slice (some ⟨g,0,none⟩) (n+m) cap) (w.setRow g (cur.toList.take (n*1)++List.replicate m z++cur.toList.drop (n*1+(List.replicate m z).length)).toArray):=by
    simp [Builtin.append_,run_underlying ht,run_underlying htn,sizeOf,typeInfo,zeroValue,hi,hz,hsize,asInt,asIntOf,hw,hneg,hns,h48i,hroom,hzs,XM,Addr.add_lit]
    simp at hst
    rw [hst]
    simp
   refine ⟨_,_,hr,⟨hlen,.inr ⟨g,cap,_,rfl,hbg,setRow_heap w g cur _ e _ hg,hroom,hcm,?_,?_⟩⟩,⟨rfl,rfl,rfl,by simp,fun k _ hk=>setRow_other w g k _ (fun e=>hk (by simp [Value.ownBlock,e]))⟩,Or.inl rfl⟩
   ·simp only [List.size_toArray,List.length_append,List.length_take,List.length_drop,Array.length_toList,List.length_replicate]
    omega
   ·rw [htake,←hlen]
    exact List.take_left
  ·have holds:∀ j u,xs[j]? = some u→w.cell? ((⟨g,0,none⟩:Addr).add j)=some u:=hown.cells (g:=g) rfl
   have hold:(Builtin.firstCells i.size n (.slice (some ⟨g,0,none⟩) n cap)).run P w.drew=.ok xs.toArray w.drew:=by
    rw [hsize]
    exact run_firstCells_some (P:=P) w.drew 1 n ⟨g,0,none⟩ n cap xs hown.1 holds
   have hr:=Lib.run_append_grow_zeros (P:=P) w t tn ty e i z .i64 kn ht htn hi hz (some ⟨g,0,none⟩) n cap xs hold m h0 (by omega) (by omega) (by omega) (by omega) (growslice_fits (by omega) hbytes)
   have hgr:=grown cap (by omega) (Value.ownBlock (.slice (some ⟨g,0,none⟩) n cap))
   exact ⟨_,_,hr,hgr.1,hgr.2,Or.inr rfl⟩
theorem zm {P:Program} {w:World} {ops:Array Oper} {rest:List Oper} {o:Oper} {a:Act} {Q:Exit→Act→World→Prop} (hgd:o.guard=none) (s x:Operand) (t tn:TypeId)
 (ho:o.op=.call { callee:=.builtin .append,args:=#[s,x],argTypes:=#[t,tn] })
 (base:Nat) (e:TypeId) (i:TypeInfo) (z:Value) (kn:IntKind) (bytes:Nat) (ht:P.underlying t=some (.slice e)) (htn:P.underlying tn=some (.int kn)) (hi:P.info? e=some i) (hz:i.zero=some z)
 (hsize:i.size=1) (hby:i.bytes=bytes) (hzs:z.cells=#[z]) (hz1:z.oneCell'=true)
 (v:Value) (n:Nat) (xs:List Value) (hs:a.eval s=v) (hown:w.ownsRow base e 1 v n xs)
 (m:Nat) (hx:a.eval x=.int .i64 (m:Int)) (h0:0<m) (h63:n+m≤maxLen) (hbytes:(n+m)*bytes≤140737488355328) (hbase:base≤w.heap.size)
 (h:∀ v' w',w'.ownsRow base e 1 v' (n+m) (xs++List.replicate m z)→w.grownBy w' v.ownBlock→(v'.ownBlock=v.ownBlock∨v'.ownBlock=some w.heap.size)→wpList P ops Q rest (a.put o.dst v') w') :
 wpList P ops Q (o::rest) a w:=by
 refine wpList_plain hgd fun K hK=>?_
 obtain ⟨v',w',hr,h2,h3,h5⟩:=ze (P:=P) w base t tn o.type e i z kn bytes ht htn hi hz hsize hby hzs hz1 v n xs hown m h0 h63 hbytes hbase
 unfold Oper.wp execOp
 simp only [ho,resolve,invoke,builtin,Sem.run_bind,Sem.run_pure,Result.andThen_ok,List.map_toArray,List.map_cons,List.map_nil,hs,hx,hr]
 exact hK _ _ (h v' w' h2 h3 h5)
theorem VH {P:Program} (w:World) (base:Nat) (t ty e:TypeId) (i:TypeInfo) (z:Value) (bytes:Nat) (ht:P.underlying t=some (.slice e)) (hi:P.info? e=some i) (hz:i.zero=some z)
 (hsize:i.size=1) (hby:i.bytes=bytes) (hzs:z.cells.size=1)
 (v:Value) (n:Nat) (xs:List Value) (hown:w.ownsRow base e 1 v n xs)
 (v2:Value) (base2 m:Nat) (ys:List Value) (hown2:w.ownsRow base2 e 1 v2 m ys) (h1:∀ u∈ys,u.oneCell'=true)
 (h63:n+m≤maxLen) (hbytes:(n+m)*bytes≤140737488355328) (hbase:base≤w.heap.size) :
 ∃ v' w',(Builtin.append_ #[t,t] ty #[v,v2]).run P w=.ok v' w'∧w'.ownsRow base e 1 v' (n+m) (xs++ys)∧w.grownBy w' v.ownBlock ∧
  (v'.ownBlock=v.ownBlock∨v'.ownBlock=some w.heap.size):=by
 rcases hown2.2 with ⟨rfl,rfl⟩ | ⟨g,cap,cur,rfl,_⟩
 ·have hy:ys=[]:=List.eq_nil_of_length_eq_zero (by simpa using hown2.1)
  subst hy
  refine ⟨v,w,run_append_owned_none (P:=P) w base t ty e i 1 ht hi v n xs hown,?_,World.grownBy.refl w _,.inl rfl⟩
  rw [List.append_nil,Nat.add_zero]
  exact hown
 ·obtain ⟨v',w',hr,h2,h3,_,h5⟩:=run_append_own_at (P:=P) w base t ty e i z 1 bytes ht hi hz hsize hby hzs (by decide) v n xs hown ⟨g,0,none⟩ m cap ys hown2.1 (hown2.cells (g:=g) rfl) h1 h63 hbytes hbase
  exact ⟨v',w',hr,h2,h3,h5⟩
theorem ZO {P:Program} {w:World} {ops:Array Oper} {rest:List Oper} {o:Oper} {a:Act} {Q:Exit→Act→World→Prop} (hgd:o.guard=none) (s x:Operand) (t:TypeId)
 (ho:o.op=.call { callee:=.builtin .append,args:=#[s,x],argTypes:=#[t,t] })
 (base:Nat) (e:TypeId) (i:TypeInfo) (z:Value) (bytes:Nat) (ht:P.underlying t=some (.slice e)) (hi:P.info? e=some i) (hz:i.zero=some z)
 (hsize:i.size=1) (hby:i.bytes=bytes) (hzs:z.cells.size=1)
 (v:Value) (n:Nat) (xs:List Value) (hs:a.eval s=v) (hown:w.ownsRow base e 1 v n xs)
 (v2:Value) (base2 m:Nat) (ys:List Value) (hx:a.eval x=v2) (hown2:w.ownsRow base2 e 1 v2 m ys) (h1:∀ u∈ys,u.oneCell'=true)
 (h63:n+m≤maxLen) (hbytes:(n+m)*bytes≤140737488355328) (hbase:base≤w.heap.size)
 (h:∀ v' w',w'.ownsRow base e 1 v' (n+m) (xs++ys)→w.grownBy w' v.ownBlock→(v'.ownBlock=v.ownBlock∨v'.ownBlock=some w.heap.size)→wpList P ops Q rest (a.put o.dst v') w') :
 wpList P ops Q (o::rest) a w:=by
 refine wpList_plain hgd fun K hK=>?_
 obtain ⟨v',w',hr,h2,h3,h5⟩:=VH (P:=P) w base t o.type e i z bytes ht hi hz hsize hby hzs v n xs hown v2 base2 m ys hown2 h1 h63 hbytes hbase
 unfold Oper.wp execOp
 simp only [ho,resolve,invoke,builtin,Sem.run_bind,Sem.run_pure,Result.andThen_ok,List.map_toArray,List.map_cons,List.map_nil,hs,hx,hr]
 exact hK _ _ (h v' w' h2 h3 h5)
theorem Xg {F:Fence} {n':Nat} {P:Program} {ops:Array Oper} {o:Oper} {a:Act} {w:World} {K:Act→World→Prop} {Q:Exit→Act→World→Prop} {E:Prop} (hgd:o.guard=none) (s x:Operand) (t:TypeId)
 (ho:o.op=.call { callee:=.builtin .append,args:=#[s,x],argTypes:=#[t,t] })
 (base:Nat) (e:TypeId) (i:TypeInfo) (z:Value) (bytes:Nat) (ht:P.underlying t=some (.slice e)) (hi:P.info? e=some i) (hz:i.zero=some z)
 (hsize:i.size=1) (hby:i.bytes=bytes) (hzs:z.cells.size=1)
 (v:Value) (n:Nat) (xs:List Value) (hs:a.eval s=v) (hown:w.ownsRow base e 1 v n xs)
 (v2:Value) (base2 m:Nat) (ys:List Value) (hx:a.eval x=v2) (hown2:w.ownsRow base2 e 1 v2 m ys) (h1:∀ u∈ys,u.oneCell'=true)
 (h63:n+m≤maxLen) (hbytes:(n+m)*bytes≤140737488355328) (hbase:base≤w.heap.size)
 (h:∀ v' w',w'.ownsRow base e 1 v' (n+m) (xs++ys)→w.grownBy w' v.ownBlock→(v'.ownBlock=v.ownBlock∨v'.ownBlock=some w.heap.size)→K (a.put o.dst v') w') :
 if Region.wanted o (yielded ops a.tmps)=true then Oper.wpIn F n' P o a w K Q else E:=by
 have hw:Region.wanted o (yielded ops a.tmps)=true:=by simp [Region.wanted,hgd]
 rw [if_pos hw]
 obtain ⟨v',w',hrun,h2,h3,h5⟩:=VH (P:=P) w base t o.type e i z bytes ht hi hz hsize hby hzs v n xs hown v2 base2 m ys hown2 h1 h63 hbytes hbase
 unfold Oper.wpIn
 refine ⟨?_,?_⟩
 ·simp [Oper.about,ho,resolve,Target.leads,Sem.run_pure]
 ·rw [Oper.semAt_plain F _ _ (by rw [ho];intro c hc';cases hc')]
  simp [execOp,ho,resolve,invoke,builtin,hs,hx,hrun,Result.andThen]
  exact h v' w' h2 h3 h5
def pkR (r:Nat) (L:List Nat) (i:Nat):List Nat:=if i≤L.length then Ze r (L.drop i) else []
theorem ATk {r:Nat} {L:List Nat} {i:Nat} (h:i<L.length) (h0:L.getD i 0=0):pkR r L i=pkR (r+1) L (i+1):=by
 unfold pkR
 rw [if_pos (by omega),if_pos (by omega),Zx L i h,h0,YC]
theorem AWd {r:Nat} {L:List Nat} {i:Nat} (h:i<L.length) (h0:0<L.getD i 0):pkR r L i=rsF r++[L.getD i 0+1]++pkR 0 L (i+1):=by
 unfold pkR
 rw [if_pos (by omega),if_pos (by omega),Zx L i h,Jv r h0]
 simp
theorem AYz {r:Nat} {L:List Nat}:pkR r L L.length=rsF r++pkR 0 L (L.length+1):=by
 unfold pkR
 rw [if_pos (Nat.le_refl _),if_neg (by omega),List.drop_length,XQ,List.append_nil]
theorem jF (a:Option Addr) (cap B m:Nat) (L:List Nat) (w:World) (hz:Ints w B a (ints L)) (hB:B≤w.heap.size) (hok:rOk (ints L) m=true) (hm1:1≤m) (hm2:m≤256) (hL6:L.length≤600) (hLm:∀ x∈L,x<m) :
 Calls Tryz.prog 22 #[.slice a L.length cap,.int .i64 m] w fun e w'=>∃ v,e=.returned v∧w'.ownsRow w.heap.size 3 1 v (Ze 0 L++[m+1]).length (Qe (Ze 0 L++[m+1]))∧Below w.heap.size w w':=by
 obtain ⟨i0,hi,hz0,hz1,hz2⟩:=info_parts Tryz.infoInt
 have KR:=Qa (Zp a cap B (ints L) m w hz (by rw [Qj];omega) (by omega) (by omega))
 rw [hok,Qj] at KR
 have HZ:=Qa hz
 have HLM:=Qa hLm
 have HST:Hid (Ze 0 L=pkR 0 L 0):=Qa (by unfold pkR;rw [if_pos (by omega),List.drop_zero])
 have HZE:=Qa (fun r i (h:i<L.length) h0=>ATk (r:=r) h h0)
 have HPO:=Qa (fun r i (h:i<L.length) h0=>AWd (r:=r) h h0)
 have HEN:=Qa (fun r=>AYz (r:=r) (L:=L))
 have HNO:Hid (pkR 0 L (L.length+1)=[]):=Qa (by unfold pkR;rw [if_neg (by omega)])
 obtain ⟨A,hA⟩:∃ A,Ze 0 L=A:=⟨_,rfl⟩
 have HAl:Hid (A.length≤600):=Qa (by rw [←hA];have:=Jw L 0;omega)
 rw [hA] at HST ⊢
 obtain ⟨n,hn⟩:∃ n,L.length=n:=⟨_,rfl⟩
 have HN:=Qa hn
 rw [hn] at KR hL6 HZE HPO HEN HNO ⊢
 clear hz hA hn hok hLm
 go_enter Tryz.func22,Tryz.ntmps22
 go_wp2_with fail
 refine KR.out.mono ?_
 rintro e w0 ⟨rfl,rfl⟩
 go_wp2
 go_loopw [5,6,7] (fun vo sr si wr=>∃ (i r:Nat) (D:List Nat),i≤n+1∧r≤n∧si=.int .i64 i∧sr=.int .i64 r∧Hid (r≤i)∧Hid (A=D++pkR r L i)∧wr.ownsRow w.heap.size 3 1 vo D.length (Qe D)∧Below w.heap.size w wr) (fun _ _ si _=>n+1-(intOf si).toNat)
 case atStart=>exact ⟨0,0,[],by omega,by omega,rfl,rfl,Qa (Nat.le_refl _),Qa (by rw [HST.out];rfl),World.ownsRow_nil _ _ _ _,Below.refl _ _⟩
 case round =>
  obtain ⟨i,r,D,hin,hrn,rfl,rfl,HRI,HD,hown,hbl⟩:=hrel
  have hsz:=hbl.size
  have HDl:Hid (D.length≤600):=Qa (by have:=HAl.out;rw [HD.out,List.length_append] at this;omega)
  have hDl:=HDl.out
  by_cases hlt:i<n
  ·obtain ⟨b,off,rfl,hb,hc⟩:=(HZ.out.below (hbl.mono hB)).2.2 (by rw [Qj,HN.out];omega)
   have ck:=Xz (B:=B) hc i (by rw [HN.out];exact hlt)
   have HZ1:=Qa (HZE.out r i hlt)
   have HP1:=Qa (HPO.out r i hlt)
   have hxm:=HLM.out _ (ZE L i (by rw [HN.out];exact hlt))
   obtain ⟨x,hx⟩:∃ x,L.getD i 0=x:=⟨_,rfl⟩
   rw [hx] at ck HZ1 HP1 hxm
   have hiI:(i:Int)≤n:=by omega
   have hiJ:(i:Int)<n:=by omega
   have hri:=HRI.out
   clear hc hx
   by_cases h0:x=0
   ·subst h0
    have HD2:Hid (A=D++pkR (r+1) L (i+1)):=Qa (by rw [HD.out,HZ1.out rfl])
    go_wp2
    go_roundw
    case rel=>exact ⟨i+1,r+1,D,by omega,by omega,by go_num,by go_num,Qa (by omega),HD2,hown,hbl⟩
    case measure=>simp [intOf];omega
   ·have hne:¬ (x:Int)=0:=by omega
    have hbe:((x:Int) == (0:Int))=false:=by rw [beq_eq_false_iff_ne];exact hne
    have HD2:Hid (A=(D++rsF r++[x+1])++pkR 0 L (i+1)):=Qa (by rw [HD.out,HP1.out (by omega)];simp)
    have ck0:w.cell? ⟨b,off+i,none⟩=some (.int .i64 (x:Int)):=((hbl.cell (p:=⟨b,off+i,none⟩) (by simp;omega)).symm).trans ck
    have KS:=Qa (fun W=>VI (r:Int) W)
    have HRS:Hid (rsZ (r:Int)=ints (rsF r)):=Qa (by
     rcases Nat.eq_zero_or_pos r with e | e
     ·subst e;rw [ADu (by omega),XK];rfl
     ·exact AAf e (by omega))
    rw [HRS.out,Qj,Qy] at KS
    have HO:=Qa hown
    have HRL:Hid (D.length+(rsF r).length+1≤600):=Qa (by
     have:=HAl.out
     rw [HD2.out] at this
     simp only [List.length_append,List.length_cons,List.length_nil] at this
     omega)
    have hrl:=HRL.out
    clear hown
    go_wp2_with fail
    refine (KS.out _).mono ?_
    rintro e w4 ⟨v4,rfl,hown4,b4⟩
    have hO4:=Ql HO.out b4
    have hb4:=Qc b4 hsz hbl
    have hs4:=hb4.size
    have ck4:w4.cell? ⟨b,off+i,none⟩=some (.int .i64 (x:Int)):=(hb4.cell (p:=⟨b,off+i,none⟩) (by simp;omega)).trans ck0
    clear HO b4 ck KS
    obtain ⟨ld,hld⟩:∃ ld,D.length=ld:=⟨_,rfl⟩
    obtain ⟨lr,hlr⟩:∃ lr,(rsF r).length=lr:=⟨_,rfl⟩
    rw [hld,hlr] at hrl
    rw [hld] at hO4
    rw [hlr] at hown4
    have HL2:Hid ((D++rsF r++[x+1]).length=ld+lr+1):=Qa (by rw [List.length_append,List.length_append,hld,hlr];rfl)
    clear hld hlr
    go_wp2_with (at_builtin;refine ZO rfl _ _ 24 rfl w.heap.size 3 i0 (.int .i64 0) 8 Tryz.underlying24 hi hz0 hz1 hz2 rfl _ _ _ rfl hO4 _ _ _ _ rfl hown4 (Zr _) ?c1 ?c2 ?c3 ?_)
    case c1=>unfold maxLen;omega
    case c2=>omega
    case c3=>omega
    intro v5 w5 hown5 hgrow5 _
    rw [←ZM] at hown5
    have hb5:Below w.heap.size w w5:=hb4.grown hgrow5 hs4 (fun q hq=>(hO4.lt q hq).1)
    have hs5:=hb5.size
    have ck5:w5.cell? ⟨b,off+i,none⟩=some (.int .i64 (x:Int)):=(hb5.cell (p:=⟨b,off+i,none⟩) (by simp;omega)).trans ck0
    clear hO4 hown4 hgrow5 hb4 ck4 ck0 hbl
    go_wp2_with (at_builtin;refine wpList_append_own _ rfl _ _ 24 rfl w.heap.size 3 i0 (.int .i64 0) 1 8 Tryz.underlying24 hi hz0 hz1 hz2 rfl (by decide) _ _ _ rfl (hown5.alloc _) ⟨w5.heap.size,0,none⟩ 1 1 [.int .i64 ((x+1:Nat):Int)] rfl rfl ?d1 ?d2 ?d3 ?d4 ?d5 ?_)
    case d1=>exact cell_one_new _ _ _
    case d2=>exact fun u hu=>by simp at hu;subst hu;rfl
    case d3=>unfold maxLen;omega
    case d4=>omega
    case d5=>first | omega | (simp;omega)
    intro v6 w6 hown6 hgrow6 _
    have hb6:=Zf hb5 hs5 hown5 hgrow6
    have hown7:w6.ownsRow w.heap.size 3 1 v6 (ld+lr+1) (Qe (D++rsF r++[x+1])):=by rw [QX];exact hown6
    have HO6:Hid (w6.ownsRow w.heap.size 3 1 v6 (D++rsF r++[x+1]).length (Qe (D++rsF r++[x+1]))):=Qa (by rw [HL2.out];exact hown7)
    clear hown5 hown6 hown7 hgrow6 hb5
    go_wp2
    go_roundw
    case rel=>exact ⟨i+1,0,D++rsF r++[x+1],by omega,by omega,by go_num,rfl,Qa (by omega),HD2,HO6.out,hb6⟩
    case measure=>simp [intOf];omega
  ·by_cases hie:i=n
   ·subst hie
    have HD2:Hid (A=(D++rsF r)++pkR 0 L (i+1)):=Qa (by
     have:=HEN.out r
     rw [HD.out,this,List.append_assoc])
    have KS:=Qa (fun W=>VI (r:Int) W)
    have HRS:Hid (rsZ (r:Int)=ints (rsF r)):=Qa (by
     rcases Nat.eq_zero_or_pos r with e | e
     ·subst e;rw [ADu (by omega),XK];rfl
     ·exact AAf e (by omega))
    rw [HRS.out,Qj,Qy] at KS
    have HO:=Qa hown
    have HRL:Hid (D.length+(rsF r).length≤600):=Qa (by
     have:=HAl.out
     rw [HD2.out] at this
     simp only [List.length_append] at this
     omega)
    have hrl:=HRL.out
    clear hown
    go_wp2_with fail
    refine (KS.out _).mono ?_
    rintro e w4 ⟨v4,rfl,hown4,b4⟩
    have hO4:=Ql HO.out b4
    have hb4:=Qc b4 hsz hbl
    have hs4:=hb4.size
    clear HO b4 KS
    obtain ⟨ld,hld⟩:∃ ld,D.length=ld:=⟨_,rfl⟩
    obtain ⟨lr,hlr⟩:∃ lr,(rsF r).length=lr:=⟨_,rfl⟩
    rw [hld,hlr] at hrl
    rw [hld] at hO4
    rw [hlr] at hown4
    have HL2:Hid ((D++rsF r).length=ld+lr):=Qa (by simp [hld,hlr])
    clear hld hlr
    go_wp2_with (at_builtin;refine ZO rfl _ _ 24 rfl w.heap.size 3 i0 (.int .i64 0) 8 Tryz.underlying24 hi hz0 hz1 hz2 rfl _ _ _ rfl hO4 _ _ _ _ rfl hown4 (Zr _) ?c1 ?c2 ?c3 ?_)
    case c1=>unfold maxLen;omega
    case c2=>omega
    case c3=>omega
    intro v5 w5 hown5 hgrow5 _
    rw [←ZM] at hown5
    have hb5:Below w.heap.size w w5:=hb4.grown hgrow5 hs4 (fun q hq=>(hO4.lt q hq).1)
    have HO6:Hid (w5.ownsRow w.heap.size 3 1 v5 (D++rsF r).length (Qe (D++rsF r))):=Qa (by rw [HL2.out];exact hown5)
    clear hO4 hown4 hgrow5 hb4 hbl hown5
    go_wp2
    go_roundw
    case rel=>exact ⟨i+1,0,D++rsF r,by omega,by omega,by go_num,rfl,Qa (by omega),HD2,HO6.out,hb5⟩
    case measure=>first | (simp [intOf];done) | (simp [intOf];omega)
   ·have hi1:i=n+1:=by omega
    subst hi1
    have HE:Hid (A=D):=Qa (by
     have h1:pkR r L (n+1)=[]:=by unfold pkR;rw [if_neg (by rw [HN.out];omega)]
     rw [HD.out,h1,List.append_nil])
    have hle:¬ (((n+1:Nat):Int)≤(n:Int)):=by omega
    have hle2:¬ ((n:Int)+1≤(n:Int)):=by omega
    obtain ⟨ld,hld⟩:∃ ld,D.length=ld:=⟨_,rfl⟩
    rw [hld] at hown hDl
    have HL2:Hid ((A++[m+1]).length=ld+1):=Qa (by rw [HE.out];simp [hld])
    clear hld
    go_wp2_with (at_builtin;refine wpList_append_own _ rfl _ _ 24 rfl w.heap.size 3 i0 (.int .i64 0) 1 8 Tryz.underlying24 hi hz0 hz1 hz2 rfl (by decide) _ _ _ rfl (hown.alloc _) ⟨wr.heap.size,0,none⟩ 1 1 [.int .i64 ((m+1:Nat):Int)] rfl rfl ?d1 ?d2 ?d3 ?d4 ?d5 ?_)
    all_goals (try (exact cell_one_new _ _ _))
    case d2=>first | rfl | exact fun u hu=>by simp at hu;subst hu;rfl
    case d3=>unfold maxLen;omega
    case d4=>omega
    case d5=>first | omega | (simp;omega)
    intro v6 w6 hown6 hgrow6 _
    have hb6:=Zf hbl hsz hown hgrow6
    have hown7:w6.ownsRow w.heap.size 3 1 v6 (ld+1) (Qe (D++[m+1])):=by rw [QX];exact hown6
    clear hown6
    go_wp2
    go_ret
    exact ⟨_,rfl,by rw [HL2.out,HE.out];exact hown7,hb6⟩
theorem Vo (a:Option Addr) (cap B:Nat) (z:List Int) (n:Int) (w:World) (hz:Ints w B a z) (hB:B≤w.heap.size) (hl:z.length≤1048576) (n1:-9223372036854775808≤n) (n2:n≤9223372036854775807) :
 Calls Tryz.prog 22 #[.slice a z.length cap,.int .i64 n] w fun e w'=>∃ v,e=.returned v∧w'.ownsRow w.heap.size 3 1 v (ZP z n).length (Qo (ZP z n))∧Below w.heap.size w w':=by
 by_cases hok:rOk z n=true
 ·obtain ⟨L,m,rfl,rfl,hm1,hm2,hL6,hLm⟩:=Za hok
  rw [VJ hok,Qy,Qj,Qj]
  exact jF a cap B m L w hz hB hok hm1 hm2 hL6 hLm
 ·have hno:=QC hok
  have KR:=Qa (Zp a cap B z n w hz hl n1 n2)
  rw [hno] at KR
  rw [jD hno]
  clear hno hok
  go_enter Tryz.func22,Tryz.ntmps22
  go_wp2_with fail
  refine KR.out.mono ?_
  rintro e w0 ⟨rfl,rfl⟩
  go_wp2
  go_ret
  exact ⟨_,rfl,World.ownsRow_nil _ _ _ _,Below.refl _ _⟩
end Go.Proofs.YtembljihmnmmfaaGreat
