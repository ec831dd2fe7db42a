/- Texts of the proof, merged. -/
import Derived.Test.YtembljihmnmmfaaGreatKB24
import Derived.Test.YtembljihmnmmfaaGreatKB37
import Derived.Test.YtembljihmnmmfaaGreatKB30
namespace Go.Proofs.YtembljihmnmmfaaGreat
set_option maxHeartbeats 4000000
set_option maxRecDepth 100000
set_option linter.unusedVariables false
set_option linter.unusedSimpArgs false
open Go.RowKit
theorem AQg {x:Nat} (h:x<4):Qh (2^(x+1)-2) (x+1)=List.replicate x 1++[0]:=by
 rcases (by omega:x=0∨x=1∨x=2∨x=3) with rfl | rfl | rfl | rfl <;> decide
theorem AOg {w:World} {base n c g:Nat} {a:Option Addr} {D:List Nat} (h:w.ownsRow base 3 1 (.slice a n c) n (Qe D)) (hn:n=D.length) (hg:g<base) :
 ∀ W,QG g w W→∀ (i x:Nat),D[i]? = some x→∃ gm,a=some ⟨gm,0,none⟩∧W.cell? ⟨gm,i,none⟩=some (.int .i64 (x:Int)):=by
 intro W hW i x hx
 have hl:=(List.getElem?_eq_some_iff.1 hx).1
 rcases h.2 with ⟨hv,h0⟩ | ⟨g2,cap,cur,hv,hb,hcur,_⟩
 ·omega
 ·simp only [Value.slice.injEq] at hv
  obtain ⟨rfl,_,rfl⟩:=hv
  refine ⟨g2,rfl,?_⟩
  have h1:=hW g2 _ (by omega) (by intro cs fr e;cases e) hcur
  rw [World.cell?_of_block (h1.trans hcur.symm)]
  rw [h.cellAt i (by omega)]
  unfold Qe
  rw [List.getElem?_map,hx];rfl
theorem yE (a:Option Addr) (cap B k:Nat) (z:List Int) (w:World) (hz:Ints w B a z) (hB:B≤w.heap.size) (hk1:1≤k) (hk:k≤4) (hok:rOk z k=true) :
 Calls Tryz.prog 84 #[.slice a z.length cap,.int .i64 k] w fun e w'=>∃ D,Packs D (unaL (mtfD z k))∧e=.returned (.tuple #[.agg #[.string (Qg D),.int .i64 ((unaL (mtfD z k)).length:Int)],.bool true])∧Below w.heap.size w w':=by
 have h6:=((Jc z k).1 hok).2.2.1
 have KT:=Qa (fun W=>XG (k:Int) W)
 have hkk:(1:Int)≤(k:Int)∧(k:Int)≤4:=by omega
 rw [decide_eq_true hkk] at KT
 have bb:Below w.heap.size w (w.alloc (.cells #[.string ⟨#[]⟩,.int .i64 0] 32)):=(Below.refl _ _).alloc (Nat.le_refl _) _
 have hR:=Has.fresh w 32 #[.string ⟨#[]⟩,.int .i64 0]
 have KR:Hid (∀ W,Below w.heap.size w W→Calls Tryz.prog 92 #[.slice a z.length cap,.int .i64 k] W fun e w'=>e=.returned (.bool true)∧W=w'):=Qa (fun W hW=>(Zs a cap B z k W (hz.below (hW.mono hB)) (by omega) (by omega) (by omega)).mono fun e w' h=>⟨by rw [h.1,hok],by first | exact h.2 | exact h.2.symm⟩)
 have K4:=Qa (fun (W:World)=>Zw ⟨#[]⟩ 0 W (by decide))
 have hZ:mtfZ z k=ints (mtfD z k):=by unfold mtfZ mtfD;rw [if_pos hok,Int.toNat_natCast]
 have KM:=Qa (fun W (hW:Below w.heap.size w W)=>AHi a cap B z k W (hz.below (hW.mono hB)) (by have:=hW.size;omega) (by omega) (by omega) (by omega))
 rw [hZ,Qj,Qy,Jq] at KM
 have HML:Hid (∀ x∈mtfD z k,x<4):=Qa (fun x hx=>by
  have:=qj hok x hx
  omega)
 have HDL:=Qa (Jq z k)
 obtain ⟨N,hN⟩:∃ N,z.length=N:=⟨_,rfl⟩
 rw [hN] at h6 KM KR HDL ⊢
 clear hz hok hN hZ hkk
 generalize mtfD z k=D at KM HML HDL ⊢
 have HLE:Hid (∀ i,i≤N→(unaL (D.take i)).length≤i*4):=Qa (fun i hi=>by
  have h1:=qC (D:=D.take i) (k:=4) (fun x hx=>HML.out x (List.mem_of_mem_take hx))
  rw [List.length_take] at h1
  have:min i D.length=i:=by rw [HDL.out];omega
  rwa [this] at h1)
 go_enter Tryz.func84,Tryz.ntmps84
 go_wp2_with fail
 refine (KT.out _).mono ?_
 rintro e w1 ⟨rfl,hw1⟩
 rw [hw1] at hR bb
 clear hw1
 go_wp2_with fail
 refine (KR.out _ bb).mono ?_
 rintro e w2 ⟨rfl,hw2⟩
 rw [hw2] at hR bb
 clear hw2
 have hs2:=bb.size
 go_wp2_with fail
 refine (K4.out _).mono ?_
 rintro e w4 ⟨g,rfl,hW4,hg4,b4⟩
 have hs24:=b4.size
 have hgl4:=hW4.lt
 have hRl2:=hR.lt
 replace bb:=Qc b4 hs2 bb
 replace hR:=hR.below b4 hR.lt
 have hs4:=bb.size
 rw [show row ⟨#[]⟩ 0 0=unaL (D.take 0) from rfl] at hW4
 obtain ⟨base,hbase⟩:∃ base,w2.heap.size=base:=⟨_,rfl⟩
 rw [hbase] at hW4 hg4 hs2 hRl2 hs24
 clear b4
 go_wp2_with fail
 refine (KM.out _ bb).mono ?_
 rintro e w5 ⟨v,rfl,om,b5⟩
 obtain ⟨am,cm,rfl⟩:=Qq om
 have hcm:=Yk om
 have HOM:=Qa (AOg om HDL.out.symm hgl4)
 replace bb:=Qc b5 hs4 bb
 replace hR:=hR.below b5 hR.lt
 replace hW4:=hW4.below b5
 have hs45:=b5.size
 have hs5:=bb.size
 have HR:=Qa hR
 have HBB:=Qa bb
 clear om b5 hR bb KM
 go_wp2
 go_loopw [8,25] (fun _ si wr=>∃ (i:Nat),i≤N∧si=.int .i64 i∧Hid (Qp wr base g (unaL (D.take i)))∧Below base w5 wr∧Hid (QG g w5 wr)) (fun _ si _=>N-(intOf si).toNat)
 case atStart=>exact ⟨0,by omega,rfl,Qa hW4,Below.refl _ _,Qa (QG.refl _ _)⟩
 case round =>
  obtain ⟨i,hi2,rfl,HW,hbl,HK⟩:=hrel
  clear hW4
  have hsz:=hbl.size
  by_cases hlt:i<N
  ·obtain ⟨x,hx⟩:∃ x,D[i]? = some x:=⟨D[i]'(by rw [HDL.out];exact hlt),List.getElem?_eq_getElem _⟩
   have hx4:x<4:=HML.out x (List.mem_of_getElem? hx)
   obtain ⟨gm,rfl,cmx⟩:=HOM.out wr HK.out i x hx
   have HTK:Hid (unaL (D.take (i+1))=unaL (D.take i)++(List.replicate x 1++[0])):=Qa (by
    rw [List.take_add_one,hx];exact AAq _ _)
   have hle:=HLE.out i (by omega)
   have HP:=Qa (QS g base (unaL (D.take i)) (2^(x+1)-2) (x+1) wr HW.out hg4 (by omega) (by omega) (by have:=Nat.two_pow_pos (x+1);omega) (by omega))
   rw [AQg hx4,←HTK.out] at HP
   clear hx
   rcases (by omega:x=0∨x=1∨x=2∨x=3) with rfl | rfl | rfl | rfl
   all_goals
    go_wp2_with fail
    refine HP.out.mono ?_
    rintro e wp ⟨rfl,hWp,Bp,Kp⟩
    have bN:=hbl.trans Bp
    have HWp:=Qa hWp
    have HKp:=Qa (HK.out.trans Kp)
    clear hWp Bp Kp
    go_wp2
    go_roundw
    case rel=>exact ⟨i+1,by omega,by go_num,HWp,bN,HKp⟩
    case measure=>simp [intOf];omega
  ·have hkm:i=N:=by omega
   subst hkm
   have hE:D.take i=D:=List.take_of_length_le (by rw [HDL.out];exact Nat.le_refl _)
   have hW:=HW.out
   rw [hE] at hW
   have K5:=Qa (Xm g base _ wr hW)
   have hR:=HR.out.below hbl (by omega)
   have hbw5:Below w.heap.size w wr:=HBB.out.trans (hbl.mono hs2)
   clear hW HW hE
   go_wp2_with fail
   refine K5.out.mono ?_
   rintro e w6 ⟨DD,hD,rfl,b6⟩
   have bb:=Qc b6 (by have:=hbw5.size;omega) hbw5
   replace hR:=hR.below b6 hR.lt
   have e0:=hR.cell 0
   have e1:=hR.cell 1
   have g0:=hR.free 0
   have g1:=hR.free 1
   simp at e0 e1
   have hs6:=bb.size
   clear b6 hR hbw5 hbl
   go_wp2
   refine bodyPost_ret (v:=.tuple #[.agg #[.string (Qg DD),.int .i64 ((unaL D).length:Int)],.bool true]) (by simp [results,Tryz.results84,go_sem,e0,e1,g0,g1]) rfl ⟨DD,hD,rfl,?_⟩
   repeat (first | exact Below.refl _ _ | assumption | refine Below.alloc ?_ (by (try simp);(try omega)) _ | refine Below.setCell ?_ (by (try simp);(try omega)) _ | refine Below.drew ?_ | refine Qc (by assumption) (by (try simp);(try omega)) ?_)
end Go.Proofs.YtembljihmnmmfaaGreat
