/- Texts of the proof, merged. -/
import Derived.Deep.RegionHeld3
import Derived.Deep.DrawnRows
import Derived.Deep.RegionLaw
import Derived.Test.YtembljihmnmmfaaGreatKB2
import Derived.Test.YtembljihmnmmfaaGreatKB16
import Derived.Test.YtembljihmnmmfaaGreatKB13
namespace Go.Proofs.YtembljihmnmmfaaGreat
set_option maxHeartbeats 2000000
set_option maxRecDepth 100000
set_option linter.unusedVariables false
set_option linter.unusedSimpArgs false
open Go.RowKit
attribute [local go_sem ↓] Go.wp_at_zero Go.wp_at_succ
theorem ALp (a:Option Addr) (cap B x:Nat) (L:List Nat) (w:World) (hz:Ints w B a (ints L)) (hB:B≤w.heap.size) (hL6:L.length≤600) :
 Calls Tryz.prog 252 #[.slice a L.length cap,.int .i64 x] w fun e w'=>∃ v,e=.returned v∧w'.ownsRow w.heap.size 3 1 v (Yd L x).length (Qe (Yd L x))∧(Yd L x=[]→v=.slice none 0 0)∧Below w.heap.size w w':=by
 obtain ⟨i0,hi,hz0,hz1,hz2⟩:=info_parts Tryz.infoInt
 have HZ:=Qa hz
 have HGl:Hid ((Yd L x).length≤600):=Qa (by unfold Yd;rw [Yh];exact Nat.le_trans List.count_le_length hL6)
 obtain ⟨A,hA⟩:∃ A,Yd L x=A:=⟨_,rfl⟩
 have HA:Hid (A=QW x 0 L):=Qa (by rw [←hA];rfl)
 rw [hA] at HGl ⊢
 obtain ⟨n,hn⟩:∃ n,L.length=n:=⟨_,rfl⟩
 have HN:=Qa hn
 rw [hn] at hL6 ⊢
 clear hz hA hn
 go_enter Tryz.func252,Tryz.ntmps252
 go_wp2
 go_loopw [5,6,8,11,15,21] (fun vo sg _ si _ _ wr=>∃ (i g:Nat) (D:List Nat),i≤n∧si=.int .i64 i∧sg=.int .i64 g∧Hid (g≤i)∧Hid (A=D++QW x g (L.drop i))∧Hid (D=[]→vo=.slice none 0 0)∧wr.ownsRow w.heap.size 3 1 vo D.length (Qe D)∧Below w.heap.size w wr) (fun _ _ _ si _ _ _=>n-(intOf si).toNat)
 case atStart=>exact ⟨0,0,[],by omega,rfl,rfl,Qa (Nat.le_refl _),Qa (by rw [HA.out];rfl),Qa (fun _=>rfl),World.ownsRow_nil _ _ _ _,Below.refl _ _⟩
 case round =>
  obtain ⟨i,g,D,hin,rfl,rfl,HGI,HD,HNil,hown,hbl⟩:=hrel
  have hsz:=hbl.size
  by_cases hlt:i<n
  ·obtain ⟨b,off,rfl,hb,hc⟩:=(HZ.out.below (hbl.mono hB)).2.2 (by rw [Qj,HN.out];omega)
   have ck:=Xz (B:=B) hc i (by rw [HN.out];exact hlt)
   have HDR:=Qa (Zx L i (by rw [HN.out];exact hlt))
   obtain ⟨y,hy⟩:∃ y,L.getD i 0=y:=⟨_,rfl⟩
   rw [hy] at ck HDR
   have hgi:=HGI.out
   have hiI:(i:Int)<n:=by omega
   clear hy hc
   by_cases hgt:x<y
   ·have hgtI:(x:Int)<y:=by omega
    have HD2:Hid (A=D++QW x (g+1) (L.drop (i+1))):=Qa (by rw [HD.out,HDR.out,qQ _ hgt])
    go_wp2
    go_roundw
    case rel=>exact ⟨i+1,g+1,D,by omega,by go_num,by go_num,Qa (by omega),HD2,HNil,hown,hbl⟩
    case measure=>simp [intOf];omega
   ·have hgtI:¬ (x:Int)<y:=by omega
    by_cases he:y=x
    ·subst he
     have hbe:((y:Int) == (y:Int))=true:=by simp
     have HD2:Hid (A=(D++[g])++QW y 0 (L.drop (i+1))):=Qa (by rw [HD.out,HDR.out,qA];simp)
     have HDl:Hid (D.length+1≤600):=Qa (by
      have:=HGl.out
      rw [HD2.out] at this
      simp only [List.length_append,List.length_cons,List.length_nil] at this
      omega)
     have hDl:=HDl.out
     have HDlen:Hid ((D++[g]).length=D.length+1):=Qa (by simp)
     obtain ⟨q,hq⟩:∃ q,D.length=q:=⟨_,rfl⟩
     rw [hq] at hown hDl HDlen
     clear hq
     go_wp2_with (at_builtin;refine wpList_append_own _ rfl _ _ 24 rfl w.heap.size 3 i0 (.int .i64 0) 1 8 Tryz.underlying24 hi hz0 hz1 hz2 rfl (by decide) _ _ _ rfl (hown.alloc _) ⟨wr.heap.size,0,none⟩ 1 1 [.int .i64 (g:Int)] rfl rfl ?c1 ?c2 ?c3 ?c4 ?c5 ?_)
     case c2=>first | rfl | exact fun u hu=>by simp at hu;subst hu;rfl
     case c3=>unfold maxLen;omega
     case c4=>omega
     case c5=>first | omega | (simp;omega)
     intro v5 w5 hown5 hgrow _
     have hb5:=Zf hbl hsz hown hgrow
     rw [←QX] at hown5
     have HO5:Hid (w5.ownsRow w.heap.size 3 1 v5 (D++[g]).length (Qe (D++[g]))):=Qa (by rw [HDlen.out];exact hown5)
     clear hown hown5 hgrow hbl
     go_wp2
     go_roundw
     case rel=>exact ⟨i+1,0,D++[g],by omega,by go_num,rfl,Qa (by omega),HD2,Qa (fun h=>by simp at h),HO5.out,hb5⟩
     case measure=>simp [intOf];omega
    ·have hneI:¬ (y:Int)=x:=by omega
     have hbe:((y:Int) == (x:Int))=false:=by rw [beq_eq_false_iff_ne];exact hneI
     have HD2:Hid (A=D++QW x g (L.drop (i+1))):=Qa (by rw [HD.out,HDR.out,qU _ (by omega)])
     go_wp2
     go_roundw
     case rel=>exact ⟨i+1,g,D,by omega,by go_num,rfl,Qa (by omega),HD2,HNil,hown,hbl⟩
     case measure=>simp [intOf];omega
  ·have hie:i=n:=by omega
   subst hie
   have HE:Hid (A=D):=Qa (by rw [HD.out,←HN.out,List.drop_length,QW,List.append_nil])
   go_wp2
   go_ret
   exact ⟨_,rfl,by rw [HE.out];exact hown,fun h=>HNil.out (by rw [←HE.out];exact h),hbl⟩
def ntC (m:Nat) (f:Nat→Nat):Array Value:=(nats m f).toArray
theorem AYb (m:Nat) (f:Nat→Nat) (k:Nat) (h:k<m):(ntC m f)[k]? = some (.int .i64 (f k:Int)):=by unfold ntC;rw [List.getElem?_toArray];exact Qw _ _ _ h
theorem AXd (m:Nat) (f:Nat→Nat) (k x:Nat):(ntC m f).setIfInBounds k (.int .i64 (x:Int))=ntC m (fun t=>if t=k then x else f t):=by unfold ntC;rw [List.setIfInBounds_toArray,Zb]
theorem AOp {m:Nat} {f g:Nat→Nat} (h:∀ t,t<m→f t=g t):ntC m f=ntC m g:=by unfold ntC;rw [Qu h]
theorem AXg (m:Nat):madeCells #[Value.int .i64 0] m=ntC m (fun _=>0):=by
 have:=Zl m
 unfold ntC
 rw [←this]
theorem AZr (m:Nat) (hm:m≤256) (w:World):(Instr.makeSlice 24 (.int .i64 (m:Int)) (.int .i64 (m:Int))).run Tryz.prog w=.ok (.slice (some ⟨w.heap.size,0,none⟩) m m) (w.alloc (.cells (ntC m (fun _=>0)) 3)):=by
 obtain ⟨i,hi,h1,h2,h3⟩:=info_parts Tryz.infoInt
 have:=run_make (P:=Tryz.prog) w 24 3 i (.int .i64 0) Tryz.underlying24 hi h1 .i64 .i64 m m (by omega) (Int.le_refl _) (by rw [h3];omega) (by omega)
 have hz:(Value.int .i64 0).cells=#[Value.int .i64 0]:=rfl
 simp only [Int.toNat_natCast,h2,Nat.mul_one,hz,AXg] at this
 exact this
theorem AWc {W:World} {g m base:Nat} {f:Nat→Nat} (h:Has W g 3 (ntC m f)) (hb:base≤g) (hm:m≤256):W.ownsRow base 3 1 (.slice (some ⟨g,0,none⟩) m m) m (nats m f):=by
 refine ⟨by rw [Va,Nat.mul_one],.inr ⟨g,m,ntC m f,rfl,hb,h,Nat.le_refl _,by unfold maxLen;omega,by unfold ntC;simp [Va],?_⟩⟩
 unfold ntC
 rw [List.take_of_length_le (by simp [Va])]
theorem jT {P:Program} (w:World) {ops:Array Oper} {o:Oper} {a:Act} {K:Act→World→Prop} {Q:Exit→Act→World→Prop} {E:Prop} (hgd:o.guard=none) (s x:Operand) (t:TypeId)
 (ho:o.op=.call { callee:=.builtin .append,args:=#[s,x],argTypes:=#[t,t] }) (base:Nat) (e:TypeId) (i:TypeInfo) (size:Nat) (ht:P.underlying t=some (.slice e)) (hi:P.info? e=some i)
 (v:Value) (n:Nat) (xs:List Value) (hs:a.eval s=v) (hown:w.ownsRow base e size v n xs) (hx:a.eval x=.slice none 0 0) (h:K (a.put o.dst v) w) :
 if Region.wanted o (yielded ops a.tmps)=true then Oper.wp P o a w K Q else E:=by
 have hw:Region.wanted o (yielded ops a.tmps)=true:=by simp [Region.wanted,hgd]
 rw [if_pos hw]
 unfold Oper.wp execOp
 simp only [ho,resolve,invoke,builtin,Sem.run_bind,Sem.run_pure,Result.andThen_ok,List.map_toArray,List.map_cons,List.map_nil,hs,hx,run_append_owned_none (P:=P) w base t o.type e i size ht hi v n xs hown]
 exact h
theorem ACn (r0:Value) (a:Option Addr) (cap B m:Nat) (L:List Nat) (w:World) (hr0:r0=.agg #[]) (hz:Ints w B a (ints L)) (hB:B≤w.heap.size) (hm1:1≤m) (hm2:m≤256) (hL6:L.length≤600) (hLm:∀ x∈L,x<m) :
 Calls Tryz.prog 251 #[r0,.slice a L.length cap,.int .i64 m] w fun e w'=>∃ cb aG nG cG,e=.returned (.agg #[.slice (some ⟨cb,0,none⟩) m m,.slice aG nG cG])∧w'.ownsRow w.heap.size 3 1 (.slice (some ⟨cb,0,none⟩) m m) m (Qe ((List.range m).map fun x=>L.count x))∧w'.ownsRow w.heap.size 3 1 (.slice aG nG cG) (Qs L (m-1)).length (Qe (Qs L (m-1)))∧Hid ((Value.slice aG nG cG).ownBlock≠some cb)∧Below w.heap.size w w':=by
 subst hr0
 obtain ⟨i0,hi,hz0,hz1,hz2⟩:=info_parts Tryz.infoInt
 have hmk:=AZr m hm2
 have HZ:=Qa hz
 have HLM:=Qa hLm
 have HGL:Hid (∀ k,k≤m→(Qs L k).length≤600):=Qa (fun k hk=>Nat.le_trans (VE hLm hk) hL6)
 have KG:=Qa (fun (W:World) (x:Nat) (hW:Below w.heap.size w W)=>ALp a cap B x L W (hz.below (hW.mono hB)) (Nat.le_trans hB hW.size) hL6)
 obtain ⟨n,hn⟩:∃ n,L.length=n:=⟨_,rfl⟩
 have HN:=Qa hn
 rw [hn] at KG hL6 ⊢
 have hmI:(m:Int)-1=((m-1:Nat):Int):=by omega
 have HMI:=Qa hmI
 clear hz hn hmI hLm
 obtain ⟨W3,hW3⟩:∃ W,W=((((w.alloc (.cells #[] 85)).alloc (.cells #[.slice none 0 0,.slice none 0 0] 87)).alloc (.cells (ntC m (fun _=>0)) 3)).alloc (.cells #[.slice (some ⟨w.heap.size+1+1,0,none⟩) m m,.slice none 0 0] 87)):=⟨_,rfl⟩
 have hR0:Has W3 (w.heap.size+1) 87 #[.slice none 0 0,.slice none 0 0]:=by rw [hW3];exact ((Has.freshAt (by simp) _ _).alloc _).alloc _
 have hN0:Has W3 (w.heap.size+1+1) 3 (ntC m (fun _=>0)):=by rw [hW3];exact (Has.freshAt (by simp) _ _).alloc _
 have hC0:Has W3 (w.heap.size+1+1+1) 87 #[.slice (some ⟨w.heap.size+1+1,0,none⟩) m m,.slice none 0 0]:=by rw [hW3];exact Has.freshAt (by simp) _ _
 have bb0:Below w.heap.size w W3:=by rw [hW3];exact ((((Below.refl _ _).alloc (Nat.le_refl _) _).alloc (by simp) _).alloc (by simp;omega) _).alloc (by simp;omega) _
 have hs0:w.heap.size+4≤W3.heap.size:=by rw [hW3];simp
 go_enter Tryz.func251,Tryz.ntmps251
 go_wp2
 rw [←hW3]
 clear hW3
 obtain ⟨R,hR⟩:∃ R,w.heap.size+1=R:=⟨_,rfl⟩
 rw [hR] at hR0 hN0 hC0 ⊢
 obtain ⟨cb,hcb⟩:∃ cb,R+1=cb:=⟨_,rfl⟩
 rw [hcb] at hN0 hC0 ⊢
 obtain ⟨C,hC⟩:∃ C,cb+1=C:=⟨_,rfl⟩
 rw [hC] at hC0 ⊢
 have HLoc:Hid (w.heap.size+1=R∧R+1=cb∧cb+1=C):=Qa ⟨hR,hcb,hC⟩
 have q1:w.heap.size≤cb:=by omega
 have q2:w.heap.size≤C:=by omega
 have q3:¬ cb=C:=by omega
 have q4:¬ C=cb:=by omega
 have q5:¬ R=cb:=by omega
 have q6:¬ R=C:=by omega
 have q7:C<w.heap.size+4:=by omega
 have q8:cb<w.heap.size+4:=by omega
 have q9:R<w.heap.size+4:=by omega
 have q10:w.heap.size≤R:=by omega
 clear hR hcb hC
 go_loopw [9,16] (fun _ sk wr=>∃ (k:Nat) (f:Nat→Nat),k≤n∧sk=.int .i64 k∧Hid (∀ y,f y=(L.take k).count y)∧Has wr C 87 #[.slice (some ⟨cb,0,none⟩) m m,.slice none 0 0]∧Has wr cb 3 (ntC m f)∧Has wr R 87 #[.slice none 0 0,.slice none 0 0]∧Below w.heap.size w wr∧w.heap.size+4≤wr.heap.size) (fun _ sk _=>n-(intOf sk).toNat)
 case atStart=>exact ⟨0,fun _=>0,by omega,rfl,Qa (fun y=>by simp),hC0,hN0,hR0,bb0,hs0⟩
 case round =>
  obtain ⟨k,f,hk,rfl,HF,hC,hN,hR,hbl,hs4⟩:=hrel
  clear hC0 hN0 hR0 bb0 hs0
  by_cases hlt:k<n
  ·obtain ⟨b,off,rfl,hb,hc⟩:=(HZ.out.below (hbl.mono hB)).2.2 (by rw [Qj,HN.out];omega)
   have ck:=Xz (B:=B) hc k (by rw [HN.out];exact hlt)
   have hym:=HLM.out _ (ZE L k (by rw [HN.out];exact hlt))
   have HCT:=Qa (fun z=>jf L k z (by rw [HN.out];exact hlt))
   obtain ⟨y,hy⟩:∃ y,L.getD k 0=y:=⟨_,rfl⟩
   rw [hy] at ck hym HCT
   have hkI:(k:Int)<n:=by omega
   have hyI:(y:Int)<m:=by omega
   have c0:=hC.cell 0
   simp at c0
   have d0:=hN.cell y
   rw [AYb _ _ _ hym] at d0
   have f0:=hN.free y
   have hcle:f y≤k:=by rw [HF.out y];exact Nat.le_trans List.count_le_length (by rw [List.length_take];omega)
   have HF2:Hid (∀ z,(if z=y then f y+1 else f z)=(L.take (k+1)).count z):=Qa (fun z=>by
    rw [HCT.out z]
    by_cases e:z=y
    ·subst e;rw [if_pos rfl,if_pos rfl,HF.out z]
    ·rw [if_neg e,if_neg (fun h=>e h.symm),Nat.add_zero,HF.out z])
   obtain ⟨c,hcc⟩:∃ c,f y=c:=⟨_,rfl⟩
   rw [hcc] at d0 hcle HF2
   have hcE:((c:Int)+1)=((c+1:Nat):Int):=by omega
   have hN2:=hN.store y (.int .i64 ((c:Int)+1))
   rw [hcE,AXd,←hcE] at hN2
   have hC2:=hC.storeAway (p:=⟨cb,y,none⟩) (by simpa using q4) (.int .i64 ((c:Int)+1))
   have hR2:=hR.storeAway (p:=⟨cb,y,none⟩) (by simpa using q5) (.int .i64 ((c:Int)+1))
   have hb2:=hbl.setCell (p:=⟨cb,y,none⟩) q1 (.int .i64 ((c:Int)+1))
   have hs5:w.heap.size+4≤(wr.setCell ⟨cb,y,none⟩ (.int .i64 ((c:Int)+1))).heap.size:=by simpa using hs4
   clear hcE hC hN hR hbl hy hc hcc
   go_wp2
   go_roundw
   case rel=>exact ⟨k+1,_,by omega,by go_num,HF2,hC2,hN2,hR2,hb2,hs5⟩
   case measure=>simp [intOf];omega
  ·have hkn:k=n:=by omega
   have HE:Hid (ntC m f=ntC m (fun y=>L.count y)):=Qa (AOp fun t _=>by rw [HF.out t,hkn,←HN.out,List.take_length])
   rw [HE.out] at hN
   have hlt9:¬ (k:Int)<n:=by omega
   clear HE HF hkn
   have hG0:wr.ownsRow (w.heap.size+4) 3 1 (.slice none 0 0) (Qs L 0).length (Qe (Qs L 0)):=World.ownsRow_nil _ _ _ _
   go_wp2
   go_loopw [10,30] (fun _ sx wr=>∃ (x:Nat) (aG:Option Addr) (cG:Nat),x≤m-1∧sx=.int .i64 x∧Has wr C 87 #[.slice (some ⟨cb,0,none⟩) m m,.slice aG (Qs L x).length cG]∧Has wr cb 3 (ntC m (fun y=>L.count y))∧Has wr R 87 #[.slice none 0 0,.slice none 0 0]∧wr.ownsRow (w.heap.size+4) 3 1 (.slice aG (Qs L x).length cG) (Qs L x).length (Qe (Qs L x))∧Below w.heap.size w wr∧w.heap.size+4≤wr.heap.size) (fun _ sx _=>m-(intOf sx).toNat)
   case atStart=>exact ⟨0,none,0,by omega,rfl,hC,hN,hR,hG0,hbl,hs4⟩
   case round =>
    obtain ⟨x,aG,cG,hx,rfl,hC2,hN2,hR2,hG2,hbl2,hs5⟩:=hrel
    clear hC hN hR hG0 hbl hs4
    by_cases hlt3:x<m-1
    ·have hxI:(x:Int)<(m:Int)-1:=by omega
     have c1:=hC2.cell 1
     have f1:=hC2.free 1
     simp at c1
     have HGS:=Qa (je L x)
     have HGl:Hid ((Qs L x).length+(Yd L x).length≤600):=Qa (by
      have:=HGL.out (x+1) (by omega)
      rw [HGS.out,List.length_append] at this
      exact this)
     have hGl:=HGl.out
     obtain ⟨D,hD⟩:∃ D,Qs L x=D:=⟨_,rfl⟩
     rw [hD] at HGS hG2 hGl hC2 c1
     have KGx:=Qa (KG.out · x ·)
     obtain ⟨gs,hgs⟩:∃ gs,Yd L x=gs:=⟨_,rfl⟩
     rw [hgs] at KGx HGS hGl
     have HC2:=Qa hC2
     have HN2:=Qa hN2
     have HR2:=Qa hR2
     clear hD hgs hC2 hN2 hR2
     by_cases hE:gs=[]
     ·have HD2:Hid (Qs L (x+1)=D):=Qa (by rw [HGS.out,hE,List.append_nil])
      go_wp2
      go_region_law (first | (go_simp;go_at_call 252;refine (KGx.out _ ?hW).mono ?_;(case hW=>exact ⟨hbl2.os,hbl2.tape,hbl2.output,hbl2.size,hbl2.block⟩);rintro e w5 ⟨v5,rfl,o5,nil5,b5⟩;obtain rfl:=nil5 hE;clear nil5 o5;have hC5:Has w5 C _ _:=(b5.block C HC2.out.lt).trans HC2.out;have hN5:Has w5 cb _ _:=(b5.block cb HN2.out.lt).trans HN2.out;have hR5:Has w5 R _ _:=(b5.block R HR2.out.lt).trans HR2.out;have c5:=hC5.cell 1;have f5:=hC5.free 1;simp at c5;have hG5:=Yl hG2 (fun i hi=>b5.block i hi);have bl5:Below w.heap.size w w5:=⟨b5.os.trans hbl2.os,b5.tape.trans hbl2.tape,b5.output.trans hbl2.output,Nat.le_trans hbl2.size b5.size,fun i hi=>(b5.block i (Nat.lt_of_lt_of_le hi hbl2.size)).trans (hbl2.block i hi)⟩;have hs6:w.heap.size+4≤w5.heap.size:=Nat.le_trans hs5 b5.size) | (refine jT _ (by rfl) _ _ _ (by rfl) (w.heap.size+4) 3 i0 1 Tryz.underlying24 hi (.slice aG D.length cG) D.length (Qe D) (by rfl) ?hown (by rfl) ?_;(case hown=>exact hG5)))
      all_goals
       have hC6:=hC5.store 1 (.slice aG D.length cG)
       simp at hC6
       have hN6:=hN5.storeAway (p:=⟨C,1,none⟩) (by simpa using q3) (.slice aG D.length cG)
       have hR6:=hR5.storeAway (p:=⟨C,1,none⟩) (by simpa using q6) (.slice aG D.length cG)
       have hG6:=Zm hG5 (p:=⟨C,1,none⟩) q7 (.slice aG D.length cG)
       have bl6:=bl5.setCell (p:=⟨C,1,none⟩) q2 (.slice aG D.length cG)
       have hs7:w.heap.size+4≤(w5.setCell ⟨C,1,none⟩ (.slice aG D.length cG)).heap.size:=by simpa using hs6
       clear hC5 hN5 hR5 hG5 bl5 hs6
       go_wp2
       go_roundw
       case rel=>exact ⟨x+1,aG,cG,by omega,by go_num,by rw [HD2.out];exact hC6,hN6,hR6,by rw [HD2.out];exact hG6,bl6,hs7⟩
       case measure=>simp [intOf];omega
     ·have hgp:0<gs.length:=List.length_pos_iff.2 hE
      have hm8:D.length+gs.length≤maxLen:=by unfold maxLen;omega
      have hb8:(D.length+gs.length)*8≤140737488355328:=by omega
      have HD2:Hid (Qs L (x+1)=D++gs):=Qa HGS.out
      have HD3:Hid ((D++gs).length=D.length+gs.length):=Qa (by simp)
      have hgl1:(Qe gs).length=gs.length*1:=by rw [ZF,Nat.mul_one]
      go_wp2
      go_region_law (first | (go_simp;go_at_call 252;refine (KGx.out _ ?hW).mono ?_;(case hW=>exact ⟨hbl2.os,hbl2.tape,hbl2.output,hbl2.size,hbl2.block⟩);rintro e w5 ⟨v5,rfl,o5,nil5,b5⟩;obtain ⟨g5,cg5,rfl⟩:=Joins.ownsRow_form o5 hgp;clear nil5;have hnw:=o5.cells (g:=g5) rfl;have hC5:Has w5 C _ _:=(b5.block C HC2.out.lt).trans HC2.out;have hN5:Has w5 cb _ _:=(b5.block cb HN2.out.lt).trans HN2.out;have hR5:Has w5 R _ _:=(b5.block R HR2.out.lt).trans HR2.out;have c5:=hC5.cell 1;have f5:=hC5.free 1;simp at c5;have hG5:=Yl hG2 (fun i hi=>b5.block i hi);have bl5:Below w.heap.size w w5:=⟨b5.os.trans hbl2.os,b5.tape.trans hbl2.tape,b5.output.trans hbl2.output,Nat.le_trans hbl2.size b5.size,fun i hi=>(b5.block i (Nat.lt_of_lt_of_le hi hbl2.size)).trans (hbl2.block i hi)⟩;have hs6:w.heap.size+4≤w5.heap.size:=Nat.le_trans hs5 b5.size) | (refine qf _ (by rfl) _ _ _ (by rfl) (w.heap.size+4) 3 i0 (.int .i64 0) 1 8 Tryz.underlying24 hi hz0 hz1 hz2 (by rfl) (by decide) (.slice aG D.length cG) D.length _ (by rfl) (by exact hG5) ⟨g5,0,none⟩ gs.length _ (Qe gs) (by rfl) hgl1 (by exact hnw) (Zr _) hm8 hb8 (by exact hs6) ?_;intro v6 w6 o6 g6;obtain ⟨a6,c6,rfl⟩:=Qq o6;have hC6:=hC5.grown g6 (AEj hG5 q7);have hN6:=hN5.grown g6 (AEj hG5 q8);have hR6:=hR5.grown g6 (AEj hG5 q9);have e6:=hC6.cell 1;have f6:=hC6.free 1;simp at e6))
      all_goals
       rw [←ZM] at o6
       have bl6:Below w.heap.size w w6:=bl5.grown g6 bl5.size (fun q hq=>by have:=(hG5.lt q hq).1;omega)
       have hs7:w.heap.size+4≤w6.heap.size:=Nat.le_trans hs6 g6.size
       have hC7:=hC6.store 1 (.slice a6 (D.length+gs.length) c6)
       simp at hC7
       have hN7:=hN6.storeAway (p:=⟨C,1,none⟩) (by simpa using q3) (.slice a6 (D.length+gs.length) c6)
       have hR7:=hR6.storeAway (p:=⟨C,1,none⟩) (by simpa using q6) (.slice a6 (D.length+gs.length) c6)
       have hG7:=Zm o6 (p:=⟨C,1,none⟩) q7 (.slice a6 (D.length+gs.length) c6)
       have bl7:=bl6.setCell (p:=⟨C,1,none⟩) q2 (.slice a6 (D.length+gs.length) c6)
       have hs8:w.heap.size+4≤(w6.setCell ⟨C,1,none⟩ (.slice a6 (D.length+gs.length) c6)).heap.size:=by simpa using hs7
       clear hC5 hN5 hR5 hG5 bl5 hs6 hC6 hN6 hR6 o6 bl6 hs7 g6 hnw
       go_wp2
       go_roundw
       case rel=>exact ⟨x+1,a6,c6,by omega,by go_num,by rw [HD2.out,HD3.out];exact hC7,hN7,hR7,by rw [HD2.out,HD3.out];exact hG7,bl7,hs8⟩
       case measure=>simp [intOf];omega
    ·have hxI:¬ (x:Int)<(m:Int)-1:=by omega
     have hxm:x=m-1:=by omega
     have c0:=hC2.cell 0
     have c1:=hC2.cell 1
     have r0:=hR2.cell 0
     have r1:=hR2.cell 1
     have g0:=hR2.free 0
     have g1:=hR2.free 1
     simp at c0 c1 r0 r1
     have hO:=AWc hN2 q1 hm2
     have HE:Hid (nats m (fun y=>L.count y)=Qe ((List.range m).map fun y=>L.count y)):=Qa (by
      rw [ZC,List.length_map,List.length_range]
      exact Qu fun s hs=>by simp [List.getD_eq_getElem?_getD,hs])
     rw [HE.out] at hO
     have hO2:=YH (YH hO (p:=⟨R,0,none⟩) (by simp [Value.ownBlock];omega) (.slice (some ⟨cb,0,none⟩) m m)) (p:=⟨R,1,none⟩) (by simp [Value.ownBlock];omega) (.slice aG (Qs L x).length cG)
     have hG3:=Zm (Zm hG2 (p:=⟨R,0,none⟩) q9 (.slice (some ⟨cb,0,none⟩) m m)) (p:=⟨R,1,none⟩) q9 (.slice aG (Qs L x).length cG)
     have hb3:=(hbl2.setCell (p:=⟨R,0,none⟩) q10 (.slice (some ⟨cb,0,none⟩) m m)).setCell (p:=⟨R,1,none⟩) q10 (.slice aG (Qs L x).length cG)
     have HAp:Hid ((Value.slice aG (Qs L x).length cG).ownBlock≠some cb):=Qa (fun h=>by have:=(hG2.lt cb h).1;omega)
     have HXM:Hid (Qs L x=Qs L (m-1)):=Qa (by rw [hxm])
     have HG3:=Qa hG3
     have HO2:=Qa hO2
     have HB3:=Qa hb3
     clear hC2 hN2 hR2 hG2 hbl2 hO hG3 hO2 hb3 hxm
     go_wp2
     refine bodyPost_ret (v:=.agg #[.slice (some ⟨cb,0,none⟩) m m,.slice aG (Qs L x).length cG]) (by simp [results,Tryz.results251,go_sem,r0,r1,g0,g1]) rfl ⟨cb,aG,(Qs L x).length,cG,rfl,?_,?_,HAp,?_⟩
     ·exact HO2.out
     ·rw [←HXM.out];exact Joins.ownsRow_le HG3.out (by omega)
     ·exact HB3.out
end Go.Proofs.YtembljihmnmmfaaGreat
