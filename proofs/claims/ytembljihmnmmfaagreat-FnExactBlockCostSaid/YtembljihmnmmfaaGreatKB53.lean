/- Texts of the proof, merged. -/
import Derived.StillTailTactics
import Derived.Test.YtembljihmnmmfaaGreatKB50
import Derived.Test.YtembljihmnmmfaaGreatKB38
import Derived.Test.YtembljihmnmmfaaGreatKB16
import Derived.Test.YtembljihmnmmfaaGreatKB15
import Derived.Test.YtembljihmnmmfaaGreatKB12
import Derived.Test.YtembljihmnmmfaaGreatKB8
namespace Go.Proofs.YtembljihmnmmfaaGreat
set_option maxHeartbeats 1000000
set_option maxRecDepth 100000
set_option linter.unusedVariables false
set_option linter.unusedSimpArgs false
open Go.RowKit
theorem yU {l l':List Nat} {q:Nat} (hl:l.length=16) (hl':l'.length=16) (hb:∀ b∈l,b<2) (hb':∀ b∈l',b<2) (hq:q<16) (h:∀ p,p<16→l'.getD p 0=if p=q then 1 else l.getD p 0):num l'=num l ||| 2^(15-q):=by
 have e1:=YV l hb
 have e2:=YV l' hb'
 rw [hl] at e1
 rw [hl'] at e2
 apply Nat.eq_of_testBit_eq
 intro i
 rw [Nat.testBit_or,Nat.testBit_two_pow]
 by_cases hi:i<16
 ·have a:=AFi hl hb (15-i) (by omega)
  have a':=AFi hl' hb' (15-i) (by omega)
  rw [show 15-(15-i)=i by omega] at a a'
  rw [Nat.testBit_eq_decide_div_mod_eq,Nat.testBit_eq_decide_div_mod_eq,a,a',h _ (by omega)]
  by_cases e:15-i=q
  ·have h2:15-q=i:=by omega
   simp [e,h2]
  ·have h2:¬ 15-q=i:=by omega
   simp [e,h2]
 ·have hp:2^16≤2^i:=Nat.pow_le_pow_right (by omega) (by omega)
  rw [Nat.testBit_lt_two_pow (Nat.lt_of_lt_of_le e1 hp),Nat.testBit_lt_two_pow (Nat.lt_of_lt_of_le e2 hp)]
  have h2:¬ 15-q=i:=by omega
  simp [h2]
theorem AUn (P:List Nat) (x g:Nat):num (QM (P++[x]) g)=if g=x / 16 then num (QM P g) ||| 2^(15-x % 16) else num (QM P g):=by
 split
 ·next e =>
  subst e
  refine yU (Xx _ _) (Xx _ _) (Jo _ _) (Jo _ _) (by omega) ?_
  intro p hp
  rw [ABf _ _ _ hp,ABf _ _ _ hp]
  by_cases h1:p=x % 16
  ·rw [if_pos h1,if_pos]
   exact List.mem_append_right _ (by rw [List.mem_singleton];omega)
  ·rw [if_neg h1]
   have:16*(x / 16)+p∈P++[x]↔16*(x / 16)+p∈P:=by
    rw [List.mem_append,List.mem_singleton]
    constructor
    ·rintro (h | h)
     ·exact h
     ·omega
    ·exact .inl
   simp only [this]
 ·next e =>
  congr 1
  unfold QM
  apply List.map_congr_left
  intro p hp
  have hp:=List.mem_range.1 hp
  have:16*g+p∈P++[x]↔16*g+p∈P:=by
   rw [List.mem_append,List.mem_singleton]
   constructor
   ·rintro (h | h)
    ·exact h
    ·omega
   ·exact .inl
  simp only [this]
theorem AVl (P:List Nat) (x g:Nat):ZV (P++[x]) g=if g=x / 16 then 1 else ZV P g:=by
 have a:=xf (P++[x]) g
 have b:=xf P g
 have la:=qO (P++[x]) g
 have lb:=qO P g
 split
 ·next e =>
  subst e
  exact a.2 ⟨x % 16,by omega,List.mem_append_right _ (by rw [List.mem_singleton];omega)⟩
 ·next e =>
  have:(ZV (P++[x]) g=1)↔ZV P g=1:=by
   rw [a,b]
   constructor
   ·rintro ⟨p,hp,h⟩
    rw [List.mem_append,List.mem_singleton] at h
    rcases h with h | h
    ·exact ⟨p,hp,h⟩
    ·omega
   ·rintro ⟨p,hp,h⟩
    exact ⟨p,hp,List.mem_append_left _ h⟩
  omega
theorem AYk (P:List Nat) (x:Nat) (hx:x<256):num (QF (P++[x]))=num (QF P) ||| 2^(15-x / 16):=by
 refine yU (XT _) (XT _) (Jg _) (Jg _) (by omega) ?_
 intro p hp
 rw [zX _ _ hp,zX _ _ hp,AVl]
theorem zL {l:List Nat} (h:∀ b∈l,b<2) (h1:1 ∉ l):num l=0:=by
 have key:∀ (m:List Nat),(∀ b∈m,b=0)→num m=0:=by
  intro m
  induction m with
  | nil=>intro _;rfl
  | cons a m ih =>
    intro hm
    have h0:=hm a (List.mem_cons_self ..)
    subst h0
    have:=JQ [0] m
    rw [ih (fun b hb=>hm b (List.mem_cons_of_mem _ hb))] at this
    simpa [num] using this
 refine key l fun b hb=>?_
 have:=h b hb
 have:b≠1:=fun e=>h1 (e ▸ hb)
 omega
theorem AVj (u:List Nat) (g:Nat):YD u g=if num (QM u g)=0 then [] else Qh (num (QM u g)) 16:=by
 unfold YD ZV
 by_cases h:1∈QM u g
 ·rw [if_pos h,if_pos rfl,if_neg (AGj (Xx _ _) (Jo _ _) h)]
  have:=Yy (QM u g) (Jo _ _)
  rw [Xx] at this
  exact this.symm
 ·rw [if_neg h,if_neg (by decide),if_pos (zL (Jo _ _) h)]
theorem AQi (u:List Nat):Qh (num (QF u)) 16=QF u:=by
 have:=Yy (QF u) (Jg _)
 rwa [XT] at this
theorem AOj (u:List Nat) (g:Nat):num (QM u g)<65536:=by
 have:=YV _ (Jo u g)
 rwa [Xx] at this
theorem AVy (u:List Nat):num (QF u)<65536:=by
 have:=YV _ (Jg u)
 rwa [XT] at this
def arrC (f:Nat→Nat):Array Value:=(nats 16 f).toArray
theorem AUo (f:Nat→Nat) (g:Nat) (h:g<16):(arrC f)[g]? = some (.int .i64 (f g:Int)):=by unfold arrC;rw [List.getElem?_toArray];exact Qw _ _ _ h
theorem AUw (f:Nat→Nat) (g x:Nat):(arrC f).setIfInBounds g (.int .i64 (x:Int))=arrC (fun t=>if t=g then x else f t):=by unfold arrC;rw [List.setIfInBounds_toArray,Zb]
theorem yN {f g:Nat→Nat} (h:∀ t,t<16→f t=g t):arrC f=arrC g:=by unfold arrC;rw [Qu h]
theorem ANx (f:Nat→Nat):(arrC f).size=16:=by simp [arrC,nats]
theorem AXk (f:Nat→Nat) (g:Nat) (hg:g<16) (w:World):(Instr.index 137 (.agg (arrC f)) (.int .i64 (g:Int))).run Tryz.prog w=.ok (.int .i64 (f g:Int)) w:=by
 unfold arrC
 have hu:=AVv
 rw [AMg,AQx] at hu
 have hp:(part 3 (nats 16 f).toArray g).run Tryz.prog w=.ok (.int .i64 (f g:Int)) w:=by
  have hget:(nats 16 f).toArray[g]? = some (.int .i64 (f g:Int)):=by rw [List.getElem?_toArray];exact Qw _ _ _ hg
  have hi:(isAgg 3).run Tryz.prog w=.ok false w:=by kernel_rfl
  simp [part,Sem.run_bind,hi,hget]
 have hz:=ARa w
 have hget:=Qw 16 f g hg
 simp [Instr.index,run_underlying hu,asIntOf,hg,hget,hz,hp,go_sem]
theorem zj {P:Program} {ops:Array Oper} {rest:List Oper} {o:Oper} {a:Act} {w:World} {Q:Exit→Act→World→Prop} (hgd:o.guard=none) (ty:TypeId) (x i:Operand) (ho:o.op=.index ty x i)
 (v u r:Value) (hx:a.eval x=v) (hi:a.eval i=u) (hr:(Instr.index ty v u).run P w=.ok r w) (h:wpList P ops Q rest (a.put o.dst r) w):wpList P ops Q (o::rest) a w :=
 wpList_plain hgd fun _ hK=>by
  unfold Oper.wp execOp
  simp only [ho,hx,hi,Sem.run_bind,Sem.run_pure,Result.andThen_ok,hr]
  exact hK _ _ h
theorem yz (s:ByteArray) (w:World) (hs:s.size≤1048576) (hok:JK (Qb s)=true) :
 Calls Tryz.prog 80 #[.string s] w fun e w'=>∃ D,Packs D (Qr (Qb s))∧e=.returned (.tuple #[.agg #[.string (Qg D),.int .i64 ((Qr (Qb s)).length:Int)],.bool true])∧Below w.heap.size w w':=by
 have bb:Below w.heap.size w (w.alloc (.cells #[.string ⟨#[]⟩,.int .i64 0] 32)):=(Below.refl _ _).alloc (Nat.le_refl _) _
 have hR:=Has.fresh w 32 #[.string ⟨#[]⟩,.int .i64 0]
 have K0:=Qa (fun W=>ANb s W hs)
 rw [hok] at K0
 have K4:=Qa (fun (W:World)=>Zw ⟨#[]⟩ 0 W (by decide))
 have KM:=Qa (fun (W:World) p hp=>AJl p W hp)
 have HTK:=Qa (fun k h=>qE s k h)
 have HALL:Hid ((Qb s).take s.size=Qb s):=Qa (by rw [←Qf];exact List.take_length)
 obtain ⟨O,hO⟩:∃ O,Qb s=O:=⟨_,rfl⟩
 rw [hO] at HTK HALL ⊢
 have HUB:Hid (Qr O=QF O++QD O 16):=Qa rfl
 have HUL:=Qa (ZK O)
 have HRL:=Qa (Vp O)
 obtain ⟨A,hA⟩:∃ A,Qr O=A:=⟨_,rfl⟩
 rw [hA] at HUB HUL ⊢
 clear hA hok hO
 go_enter Tryz.func80,Tryz.ntmps80
 go_wp2_with fail
 refine (K0.out _).mono ?_
 rintro e w1 ⟨rfl,b1⟩
 replace bb:=Qc b1 bb.size bb
 replace hR:=hR.below b1 hR.lt
 have hs1:=bb.size
 have hRl1:=hR.lt
 clear b1
 have hM0:Has (w1.alloc (.cells (arrC (fun _=>0)) 137)) w1.heap.size 137 (arrC (fun g=>num (QM (O.take 0) g))):=by
  rw [show arrC (fun g=>num (QM (O.take 0) g))=arrC (fun _=>0) from yN (fun t _=>by rw [List.take_zero];exact zL (Jo _ _) (by simp [QM]))]
  exact Has.fresh w1 137 _
 have bM0:Below w.heap.size w (w1.alloc (.cells (arrC (fun _=>0)) 137)):=bb.alloc hs1 _
 have hR0:=hR.alloc (.cells (arrC (fun _=>0)) 137)
 have h00:num (QF (O.take 0))=0:=by rw [List.take_zero];exact zL (Jg _) (by simp [QF,ZV,QM])
 have e0:(arrC (fun _=>0))=#[Value.int .i64 0,.int .i64 0,.int .i64 0,.int .i64 0,.int .i64 0,.int .i64 0,.int .i64 0,.int .i64 0,.int .i64 0,.int .i64 0,.int .i64 0,.int .i64 0,.int .i64 0,.int .i64 0,.int .i64 0,.int .i64 0]:=rfl
 rw [e0] at hM0 bM0 hR0
 have H00:=Qa h00
 obtain ⟨mb,hmb⟩:∃ mb,w1.heap.size=mb:=⟨_,rfl⟩
 clear e0 h00 bb hR
 go_wp2
 rw [hmb] at hM0 hRl1
 go_loopw [4,6,7,8,18] (fun sg _ _ _ sk wr=>∃ k:Nat,k≤s.size∧sk=.int .i64 k∧sg=.int .i64 (num (QF (O.take k)):Int)∧Has wr mb 137 (arrC (fun g=>num (QM (O.take k) g)))∧Has wr w.heap.size 32 #[.string ⟨#[]⟩,.int .i64 0]∧Below w.heap.size w wr) (fun _ _ _ _ sk _=>s.size-(intOf sk).toNat)
 case atStart=>exact ⟨0,by omega,rfl,by rw [H00.out];rfl,hM0,hR0,bM0⟩
 case round =>
  obtain ⟨k,hk,rfl,rfl,hM,hR,hbl⟩:=hrel
  clear hM0 hR0 bM0
  by_cases hlt:k<s.size
  ·have hx256:s[k].toNat<256:=UInt8.toNat_lt _
   have HTK2:=Qa (HTK.out k hlt)
   obtain ⟨x,hx⟩:∃ x,s[k].toNat=x:=⟨_,rfl⟩
   rw [hx] at HTK2 hx256
   have hg16:x / 16<16:=by omega
   have hq16:x % 16<16:=by omega
   have HM1:=Qa (fun g=>AUn (O.take k) x g)
   have HH1:=Qa (AYk (O.take k) x hx256)
   rw [←HTK2.out] at HM1 HH1
   have d0:=hM.cell (x / 16)
   rw [AUo _ _ hg16] at d0
   have f0:=hM.free (x / 16)
   have HM:=Qa hM
   have hmlt:=AOj (O.take k) (x / 16)
   have hhlt:=AVy (O.take k)
   have hp1:2^(15-x / 16)≤2^15:=Nat.pow_le_pow_right (by omega) (by omega)
   have hp2:2^(15-x % 16)≤2^15:=Nat.pow_le_pow_right (by omega) (by omega)
   have KA:=Qa (KM.out · (x / 16) hg16)
   have KB:=Qa (KM.out · (x % 16) hq16)
   rw [show ((x / 16:Nat):Int)=(x:Int) / 16 by omega] at KA
   rw [show ((x % 16:Nat):Int)=(x:Int) % 16 by omega] at KB
   obtain ⟨G,hG⟩:∃ G,num (QF (O.take k))=G:=⟨_,rfl⟩
   obtain ⟨M,hMM⟩:∃ M,num (QM (O.take k) (x / 16))=M:=⟨_,rfl⟩
   obtain ⟨a,ha⟩:∃ a,2^(15-x / 16)=a:=⟨_,rfl⟩
   obtain ⟨b,hb⟩:∃ b,2^(15-x % 16)=b:=⟨_,rfl⟩
   rw [hG] at HH1 hhlt ⊢
   rw [hMM] at d0 hmlt
   rw [ha] at KA HH1 hp1
   rw [hb] at KB HM1 hp2
   have HMM:=Qa hMM
   have hor1:=qG G a (by omega) (by omega)
   have hor2:=qG M b (by omega) (by omega)
   have hl1:G ||| a<65536:=Nat.or_lt_two_pow (n:=16) hhlt (by omega)
   have hl2:M ||| b<65536:=Nat.or_lt_two_pow (n:=16) hmlt (by omega)
   obtain ⟨G2,hG2⟩:∃ G2,G ||| a=G2:=⟨_,rfl⟩
   obtain ⟨M2,hM3⟩:∃ M2,M ||| b=M2:=⟨_,rfl⟩
   rw [hG2] at hor1 HH1 hl1
   rw [hM3] at hor2 hl2
   have HM3:=Qa hM3
   clear hG hMM ha hb hG2 hM3 hM
   go_wp2
   go_region
   all_goals go_wp2_with fail
   refine (KA.out _).mono ?_
   rintro e w3 ⟨rfl,rfl⟩
   go_wp2
   have hx0:(0:Int)≤(x:Int) / 16:=by omega
   have hx1:(x:Int) / 16<16:=by omega
   have hxn:((x:Int) / 16).toNat=x / 16:=by omega
   obtain ⟨wd,hwd⟩:∃ wd,wr.drew=wd:=⟨_,rfl⟩
   rw [hwd]
   have dd:wd.cell? ⟨mb,x / 16,none⟩=some (.int .i64 (M:Int)):=by rw [←hwd];exact d0
   go_still_tail 7,(by kernel_rfl)
   still_call (KB.out _)
   repeat still_step
   refine wpStill_nil ?_
   obtain ⟨wx,hwx⟩:∃ wx,wd.drew=wx:=⟨_,rfl⟩
   have hMx:Has wx mb 137 (arrC (fun g=>num (QM (O.take k) g))):=by rw [←hwx,←hwd];exact HM.out
   have hRx:Has wx w.heap.size 32 #[.string ⟨#[]⟩,.int .i64 0]:=by rw [←hwx,←hwd];exact hR
   have hblx:Below w.heap.size w wx:=by rw [←hwx,←hwd];exact hbl.drew.drew
   have hsx:=hblx.size
   have hMs:=hMx.store (x / 16) (.int .i64 (M2:Int))
   have HMN:Hid (arrC (fun g=>num (QM (O.take (k+1)) g))=(arrC (fun g=>num (QM (O.take k) g))).setIfInBounds (x / 16) (.int .i64 (M2:Int))):=Qa (by
    rw [AUw]
    refine yN fun t _=>?_
    rw [HM1.out t]
    split
    ·next e=>subst e;rw [HMM.out,HM3.out]
    ·rfl)
   rw [←HMN.out] at hMs
   have hRs:=hRx.storeAway (p:=⟨mb,x / 16,none⟩) (by simp;omega) (.int .i64 (M2:Int))
   have hbs:=hblx.setCell (p:=⟨mb,x / 16,none⟩) (by simp;omega) (.int .i64 (M2:Int))
   change wpList _ _ _ _ _ wd.drew
   rw [hwx]
   have ex:wx.cell? ⟨mb,x / 16,none⟩=some (.int .i64 (M:Int)):=by rw [←hwx];exact dd
   have fx:wx.frozen? ⟨mb,x / 16,none⟩=false:=by rw [←hwx,←hwd];exact f0
   clear hwx hwd dd d0 f0 hR hbl hMx hRx hblx
   go_wp2
   go_roundw
   case rel=>exact ⟨k+1,by omega,by go_num,by rw [HH1.out],hMs,hRs,hbs⟩
   case measure=>simp [intOf];omega
  ·have hkn:k=s.size:=by omega
   subst hkn
   rw [HALL.out] at hM ⊢
   have hsz:=hbl.size
   have hhlt:=AVy O
   have HHM:=Qa (AQi O)
   have HHL:=Qa (XT O)
   obtain ⟨G,hG⟩:∃ G,num (QF O)=G:=⟨_,rfl⟩
   rw [hG] at HHM hhlt ⊢
   have hMl:=hM.lt
   clear hG
   go_wp2_with fail
   refine (K4.out _).mono ?_
   rintro e w3 ⟨g,rfl,hW,hg,b3⟩
   have hM3:=hM.below b3 hM.lt
   have hR3:=hR.below b3 hR.lt
   have hb3:=Qc b3 hsz hbl
   have hs3:=b3.size
   rw [show row ⟨#[]⟩ 0 0=[] from rfl] at hW
   obtain ⟨base,hbase⟩:∃ base,wr.heap.size=base:=⟨_,rfl⟩
   rw [hbase] at hW hg hs3 hMl hsz
   have hgl:=hW.lt
   have KP:=Qa (QS g base [] G 16 w3 hW hg hs3 (by omega) (by omega) (by simp))
   clear b3 hM hR hbl hW hbase
   go_wp2_with fail
   refine KP.out.mono ?_
   rintro e w4 ⟨rfl,hW4,b4,k4⟩
   rw [List.nil_append,HHM.out] at hW4
   have hM4:=k4.has (by omega) (by decide) hM3
   have hR4:=k4.has (by omega) (by decide) hR3
   have hb4:Below w.heap.size w w4:=hb3.trans (b4.mono (by omega))
   have hs4:base≤w4.heap.size:=Nat.le_trans hs3 b4.size
   clear hM3 hR3 hb3 b4 k4
   have hi16:(Tryz.prog.info? 137).map (·.size)=some (arrC (fun g=>num (QM O g))).size:=by rw [ANx];kernel_rfl
   have HM4:=Qa hM4
   clear hM4
   go_wp2_with (refine wpList_load_row rfl 137 _ rfl mb rfl 137 _ (0,0) _ HM4.out Tryz.underlying137 rfl hi16 ?_)
   have HI16:=Qa (AXk (fun g=>num (QM O g)))
   obtain ⟨C,hC⟩:∃ C,arrC (fun g=>num (QM O g))=C:=⟨_,rfl⟩
   rw [hC] at HI16 ⊢
   clear hC hi16 HM4
   have hW40:Qp w4 base g (QF O++QD O 0):=by rw [show QF O++QD O 0=QF O from by simp [QD]];exact hW4
   clear hW4
   go_wp2
   go_loopw [11,49] (fun _ sj wr=>∃ j:Nat,j≤16∧sj=.int .i64 j∧Qp wr base g (QF O++QD O j)∧Has wr w.heap.size 32 #[.string ⟨#[]⟩,.int .i64 0]∧Below w.heap.size w wr∧base≤wr.heap.size) (fun _ sj _=>16-(intOf sj).toNat)
   case atStart=>exact ⟨0,by omega,rfl,hW40,hR4,hb4,hs4⟩
   case round =>
    obtain ⟨j,hj,rfl,hWj,hRj,hbj,hsj⟩:=hrel
    clear hW40 hR4 hb4
    have hHb:w.heap.size<base:=by omega
    by_cases hlt:j<16
    ·have hltI:(j:Int)<16:=by omega
     have hij:=fun W=>HI16.out j hlt W
     have HG:=Qa (AVj O j)
     have HRS:=Qa (Yq O j)
     have hmlt:=AOj O j
     have hDl:(QF O++QD O j).length≤16+16*j:=by
      have:=HRL.out j
      rw [List.length_append,HHL.out];omega
     obtain ⟨D,hD⟩:∃ D,QF O++QD O j=D:=⟨_,rfl⟩
     have HD:=Qa hD
     rw [hD] at hWj hDl
     obtain ⟨m,hm⟩:∃ m,num (QM O j)=m:=⟨_,rfl⟩
     rw [hm] at hij HG hmlt
     clear hD hm
     by_cases h0:m=0
     ·subst h0
      have HN:Hid (QF O++QD O (j+1)=D):=Qa (by rw [HRS.out,HG.out,if_pos rfl,List.append_nil,HD.out])
      go_wp2_with (refine zj rfl _ _ _ rfl _ _ _ rfl rfl (hij _) ?_)
      go_roundw
      case rel=>exact ⟨j+1,by omega,by go_num,by rw [HN.out];exact hWj,hRj,hbj,hsj⟩
      case measure=>simp [intOf];omega
     ·have HN:Hid (QF O++QD O (j+1)=D++Qh m 16):=Qa (by rw [HRS.out,HG.out,if_neg h0,←List.append_assoc,HD.out])
      have hne:((m:Int) != 0)=true:=by simpa using h0
      have hnz:¬ (m:Int)=0:=by omega
      have KQ:=Qa (QS g base D m 16 wr hWj hg hsj (by omega) (by omega) (by omega))
      clear hWj
      go_wp2_with (refine zj rfl _ _ _ rfl _ _ _ rfl rfl (hij _) ?_)
      refine KQ.out.mono ?_
      rintro e w5 ⟨rfl,hW5,b5,k5⟩
      have hR5:=k5.has (by omega) (by decide) hRj
      have hb5:Below w.heap.size w w5:=hbj.trans (b5.mono (by omega))
      have hs5:base≤w5.heap.size:=Nat.le_trans hsj b5.size
      rw [←HN.out] at hW5
      clear hRj hbj b5 k5
      go_wp2
      go_roundw
      case rel=>exact ⟨j+1,by omega,by go_num,hW5,hR5,hb5,hs5⟩
      case measure=>simp [intOf];omega
    ·have hj16:j=16:=by omega
     have hltI:¬ (j:Int)<16:=by omega
     subst hj16
     rw [←HUB.out] at hWj
     have KF:=Qa (Xm g base A wr hWj)
     clear hWj
     go_wp2_with fail
     refine KF.out.mono ?_
     rintro e w7 ⟨E,hE,rfl,b7⟩
     have hbs:=hbj.size
     have bb7:=Qc b7 hbs hbj
     have hR7:=hRj.below b7 hRj.lt
     have e0:=hR7.cell 0
     have e1:=hR7.cell 1
     have g0:=hR7.free 0
     have g1:=hR7.free 1
     simp at e0 e1
     have hs7:=bb7.size
     clear b7 hRj hR7
     go_wp2
     refine bodyPost_ret (v:=.tuple #[.agg #[.string (Qg E),.int .i64 (A.length:Int)],.bool true]) (by simp [results,Tryz.results80,go_sem,e0,e1,g0,g1]) rfl ⟨E,hE,rfl,?_⟩
     repeat (first | exact Below.refl _ _ | assumption | refine Below.alloc ?_ (by (try simp);(try omega)) _ | refine Below.setCell ?_ (by (try simp);(try omega)) _ | refine Below.drew ?_ | refine Qc (by assumption) (by (try simp);(try omega)) ?_)
end Go.Proofs.YtembljihmnmmfaaGreat
