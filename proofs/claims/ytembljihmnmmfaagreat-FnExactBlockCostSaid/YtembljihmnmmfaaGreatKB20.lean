/- Texts of the proof, merged. -/
import Derived.Deep.RegionHeld3
import Derived.OwnWalk
import Derived.Test.YtembljihmnmmfaaGreatKB7
import Derived.Test.YtembljihmnmmfaaGreatKB10
import Derived.Test.YtembljihmnmmfaaGreatKB13
import Derived.Test.YtembljihmnmmfaaGreatKB2
namespace Go.Proofs.YtembljihmnmmfaaGreat
set_option maxHeartbeats 4000000
set_option maxRecDepth 100000
set_option linter.unusedVariables false
set_option linter.unusedSimpArgs false
open Go.RowKit
theorem Tryz.infoIt:(Tryz.prog.info? 199).map (fun i=>(i.zero,i.size,i.bytes))=some (some (.agg #[.int .i64 0,.int .i64 0]),2,16):=by kernel_rfl
theorem AIf (x1 y1:Nat) (x2 y2:Int) (w:World) :
 Calls Tryz.prog 197 #[.agg #[.int .i64 x1,.int .i64 x2],.agg #[.int .i64 y1,.int .i64 y2]] w fun e w'=>e=.returned (.bool (ltI (x1,x2) (y1,y2)))∧Below w.heap.size w w':=by
 have HE:Hid (ltI (x1,x2) (y1,y2)=decide ((x1:Int)<(y1:Int))):=Qa (by simp [ltI])
 go_enter Tryz.func197,Tryz.ntmps197
 go_wp2
 go_ret
 refine ⟨Qk (by rw [HE.out];simp),?_⟩
 repeat (first | exact Below.refl _ _ | refine Below.alloc ?_ (by (try simp);(try omega)) _ | refine Below.drew ?_)
theorem AGi {w:World} {B b off:Nat} {x:Item} {L:List Item} (h:Lies w B (some ⟨b,off,none⟩) (Qi (x::L))):w.cell? ⟨b,off,none⟩=some (.int .i64 (x.1:Int))∧w.cell? ⟨b,off+1,none⟩=some (.int .i64 x.2)∧b<B∧Lies w B (some ⟨b,off+2,none⟩) (Qi L):=by
 have hl:(Qi (x::L)).length=L.length*2+2:=by rw [ZD];simp;omega
 have h0:=h.cell 0 (by omega)
 have h1:=h.cell 1 (by omega)
 have h2:=h.drop 2
 obtain ⟨b',off',e,hb⟩:=h.ex (by omega)
 injection e with e
 injection e with e1 e2
 subst e1
 exact ⟨h0,h1,hb,h2⟩
theorem AHu (L:List Item) (k:Nat):Qi (L.take k)=(Qi L).take (k*2):=by
 induction k generalizing L with
 | zero=>simp [Qi]
 | succ k ih=>cases L with
   | nil=>simp [Qi]
   | cons x L=>rw [show (k+1)*2=k*2+1+1 by omega];simp only [List.take_succ_cons,Qi];rw [ih]
theorem Vk {w:World} {base S n:Nat} {E:TypeId} {v:Value} {cs:List Value} (h:w.ownsRow base E S v n cs):∃ a c,v=.slice a n c∧n≤c∧(a=none→n=0∧c=0):=by
 rcases h.2 with ⟨rfl,rfl⟩ | ⟨g,cap,cur,rfl,_,_,hnc,_⟩
 ·exact ⟨none,0,rfl,Nat.le_refl _,fun _=>⟨rfl,rfl⟩⟩
 ·exact ⟨_,cap,rfl,hnc,fun e=>by cases e⟩
theorem Lies.newsO {w:World} {B:Nat} {a:Option Addr} {cs:List Value} (h:Lies w B a cs):∀ ad,a=some ad→∀ (j:Nat) (u:Value),cs[j]? = some u→w.cell? (ad.add j)=some u:=by
 rintro ad rfl;exact h.news
theorem AVp (a:Option Addr) (cap B:Nat) (L:List Item) (w:World) (hz:Lies w B a (Qi L)) (hB:B≤w.heap.size) (hlen:L.length≤1048576) :
 Calls Tryz.prog 212 #[.slice a L.length cap] w fun e w'=>∃ v,e=.returned v∧w'.ownsRow w.heap.size 199 2 v L.length (Qi L)∧Below w.heap.size w w':=by
 obtain ⟨j0,ji,jz0,jz1,jz2⟩:=info_parts Tryz.infoIt
 obtain ⟨n,hn⟩:∃ n,L.length=n:=⟨_,rfl⟩
 have HN:=Qa hn
 have HZ:=Qa hz
 rw [hn] at hlen ⊢
 clear hn hz
 go_enter Tryz.func212,Tryz.ntmps212
 go_wp2_with (at_make;refine wpList_make_full _ rfl _ _ 192 rfl w.heap.size 199 j0 (.agg #[.int .i64 0,.int .i64 0]) 2 Tryz.underlying192 ji jz0 jz1 .i64 .i64 _ _ n rfl rfl rfl rfl ?cb1 ?cb2 ?cb3 ?_)
 case cb1=>rw [jz2];omega
 case cb2=>unfold maxLen;omega
 case cb3=>exact Nat.le_refl _
 intro w1 hown hgrow
 have hbl:Below w.heap.size w w1:=⟨hgrow.os,hgrow.tape,hgrow.output,hgrow.size,fun i hi=>hgrow.block i hi (by simp)⟩
 clear hgrow
 obtain ⟨w2,hrun,hown2,hgrow2⟩:=Ya (P:=Tryz.prog) w1 192 192 3 199 Tryz.underlying192 2 (by simp [ji,jz1]) (by decide) w.heap.size w.heap.size n n cap B a _ hown (Qi L) (by rw [ZD,HN.out] <;> omega) (HZ.out.below (hbl.mono hB)) (Xe L)
 have hbl2:Below w.heap.size w w2:=hbl.grown hgrow2 hbl.size (fun b hb=>by cases hb;exact Nat.le_refl _)
 clear hgrow2 hown hbl
 go_wp2
 go_ret
 exact ⟨_,rfl,hown2,hbl2⟩
theorem AIa (a1 a2:Option Addr) (c1 c2 B:Nat) (A M:List Item) (w:World) (hA:Lies w B a1 (Qi A)) (hM:Lies w B a2 (Qi M)) (hB:B≤w.heap.size) (hcA:A.length≤c1) (hcM:M.length≤c2)
 (hn1:a1=none→A.length=0∧c1=0) (hn2:a2=none→M.length=0∧c2=0) (hlA:A.length≤1048576) (hlM:M.length≤1048576) :
 Calls Tryz.prog 195 #[.slice a1 A.length c1,.slice a2 M.length c2,.func (.func 197) #[] #[]] w fun e w'=>∃ v,e=.returned v∧w'.ownsRow w.heap.size 199 2 v (A.length+M.length) (Qi (mrg ltI A M))∧Below w.heap.size w w':=by
 obtain ⟨i0,hi,hz0,hz1,hz2⟩:=info_parts Tryz.infoIt
 obtain ⟨la0,hla0⟩:∃ n,A.length=n:=⟨_,rfl⟩
 obtain ⟨lm0,hlm0⟩:∃ n,M.length=n:=⟨_,rfl⟩
 rw [hla0] at hcA hlA hn1 ⊢
 rw [hlm0] at hcM hlM hn2 ⊢
 have HLA:=Qa hla0
 have HLM:=Qa hlm0
 have HA:=Qa hA
 have HM:=Qa hM
 have HN1:=Qa hn1
 have HN2:=Qa hn2
 clear hla0 hlm0 hA hM hn1 hn2
 obtain ⟨N,hN⟩:∃ N,la0+lm0=N:=⟨_,rfl⟩
 have HNN:=Qa hN
 go_enter Tryz.func195,Tryz.ntmps195
 go_wp2_with (at_make;refine wpList_make_own _ rfl _ _ 192 rfl w.heap.size 199 i0 (.agg #[.int .i64 0,.int .i64 0]) 2 Tryz.underlying192 hi hz0 hz1 _ _ _ N rfl rfl (by omega) ?b2 ?b3 (Nat.le_refl _) ?_)
 case b2=>rw [hz2];omega
 case b3=>unfold maxLen;omega
 intro w0 hown0 hgrow0
 have hbl0:Below w.heap.size w w0:=(Below.refl _ _).grown hgrow0 (Nat.le_refl _) (fun k h=>by cases h)
 clear hgrow0
 go_wp2
 go_loopw [0,1,7] (fun sa sb so wr=>∃ (x1 x2:Option Addr) (la lm lo d1 d2:Nat) (A' M' O:List Item),sa=.slice x1 la d1∧sb=.slice x2 lm d2∧so=.slice (some ⟨w.heap.size,0,none⟩) lo N∧la≤d1∧lm≤d2∧lo+la+lm=N∧Hid (A'.length=la∧M'.length=lm∧O.length=lo)∧Hid (x1=none→la=0∧d1=0)∧Hid (x2=none→lm=0∧d2=0) ∧
  Hid (Lies wr B x1 (Qi A'))∧Hid (Lies wr B x2 (Qi M'))∧Hid (O++mrg ltI A' M'=mrg ltI A M)∧wr.ownsRow w.heap.size 199 2 (.slice (some ⟨w.heap.size,0,none⟩) lo N) lo (Qi O)∧Below w.heap.size w wr)
  (fun sa sb _ _=>(match sa with | .slice _ l _=>l | _=>0)+(match sb with | .slice _ l _=>l | _=>0))
 case atStart=>exact ⟨a1,a2,la0,lm0,0,c1,c2,A,M,[],rfl,rfl,rfl,hcA,hcM,by omega,Qa ⟨HLA.out,HLM.out,rfl⟩,HN1,HN2,Qa (HA.out.below (hbl0.mono hB)),Qa (HM.out.below (hbl0.mono hB)),Qa (by simp),hown0,hbl0⟩
 case round =>
  obtain ⟨x1,x2,la,lm,lo,d1,d2,A',M',O,rfl,rfl,rfl,hd1,hd2,hsum,HLn,HX1,HX2,HA',HM',HO,hown,hbl⟩:=hrel
  clear hown0 hbl0
  by_cases h12:0<la∧0<lm
  ·obtain ⟨h1,h2⟩:=h12
   obtain ⟨⟨p1,p2⟩,A2,rfl⟩:∃ x A2,A'=x::A2:=by
    cases A' with
    | nil=>have:=HLn.out.1;simp at this;omega
    | cons x A2=>exact ⟨x,A2,rfl⟩
   obtain ⟨⟨q1,q2⟩,M2,rfl⟩:∃ x M2,M'=x::M2:=by
    cases M' with
    | nil=>have:=HLn.out.2.1;simp at this;omega
    | cons x M2=>exact ⟨x,M2,rfl⟩
   obtain ⟨la,rfl⟩:∃ k,la=k+1:=⟨la-1,by omega⟩
   obtain ⟨lm,rfl⟩:∃ k,lm=k+1:=⟨lm-1,by omega⟩
   obtain ⟨d1,rfl⟩:∃ k,d1=k+1:=⟨d1-1,by omega⟩
   obtain ⟨d2,rfl⟩:∃ k,d2=k+1:=⟨d2-1,by omega⟩
   obtain ⟨b1,o1,rfl,hb1⟩:=HA'.out.ex (by rw [ZD];simp)
   obtain ⟨b2,o2,rfl,hb2⟩:=HM'.out.ex (by rw [ZD];simp)
   obtain ⟨e1,e2,_,HA2⟩:=AGi HA'.out
   obtain ⟨f1,f2,_,HM2⟩:=AGi HM'.out
   replace HA2:=Qa HA2
   replace HM2:=Qa HM2
   have hsz:=hbl.size
   clear h1 h2
   obtain ⟨r,hr⟩:∃ r,ltI (q1,q2) (p1,p2)=r:=⟨_,rfl⟩
   have KL:=Qa (fun W=>AIf q1 p1 q2 p2 W)
   rw [hr] at KL
   simp only at e1 e2 f1 f2
   have HR:=Qa hr
   clear hr
   have hl1:b1<wr.heap.size:=by omega
   have hl2:b2<wr.heap.size:=by omega
   cases r
   ·go_wp2
    go_region_held3 (fun w'=>w'.cell? ⟨b1,o1,none⟩=some (.int .i64 (p1:Int))∧w'.cell? ⟨b1,o1+1,none⟩=some (.int .i64 p2)∧w'.cell? ⟨b2,o2,none⟩=some (.int .i64 (q1:Int))∧w'.cell? ⟨b2,o2+1,none⟩=some (.int .i64 q2)) (go_keep) (first | (go_at_call 197;refine (KL.out _).mono ?_;rintro e wp ⟨rfl,Bp⟩;have g1:=(Bp.cell (p:=⟨b1,o1,none⟩) hl1).trans e1;have g2:=(Bp.cell (p:=⟨b1,o1+1,none⟩) hl1).trans e2;have g3:=(Bp.cell (p:=⟨b2,o2,none⟩) hl2).trans f1;have g4:=(Bp.cell (p:=⟨b2,o2+1,none⟩) hl2).trans f2))
    have hbl2:Below w.heap.size w wp:=Qc Bp hsz hbl.drew
    have hown2:wp.ownsRow w.heap.size 199 2 (.slice (some ⟨w.heap.size,0,none⟩) lo N) lo (Qi O):=Ql (w:=wr.drew) hown Bp
    have hsz2:=hbl2.size
    clear hbl hown e1 e2 f1 f2
    go_wp2_with (at_builtin;refine wpList_append_fits _ rfl _ _ 192 rfl w.heap.size 199 i0 2 Tryz.underlying192 hi hz1 w.heap.size lo N _ rfl (hown2.alloc _) ⟨wp.heap.size,0,none⟩ 1 _ [.int .i64 (p1:Int),.int .i64 p2] rfl rfl ?da2 ?da3 ?da4 ?_)
    case da2=>exact JX (g:=wp.heap.size) (Has.fresh wp _ _)
    case da3=>exact YM _ _
    case da4=>omega
    intro w3 hown3 hgrow
    have hblN:Below w.heap.size w w3:=(hbl2.alloc (by omega) _).grown hgrow (by simp;omega) (fun b hb=>by cases hb;exact Nat.le_refl _)
    have hbw3:Below w.heap.size wr w3:=by
     have h1:Below w.heap.size wr wp:=⟨Bp.os,Bp.tape,Bp.output,Bp.size,fun i hi=>Bp.block i (by show i<wr.heap.size;omega)⟩
     exact (h1.alloc (by omega) _).grown hgrow (by simp;omega) (fun b hb=>by cases hb;exact Nat.le_refl _)
    have hownN:w3.ownsRow w.heap.size 199 2 (.slice (some ⟨w.heap.size,0,none⟩) (lo+1) N) (lo+1) (Qi (O++[(p1,p2)])):=by rw [QQ];exact hown3
    have HO2:Hid ((O++[(p1,p2)])++mrg ltI A2 ((q1,q2)::M2)=mrg ltI A M):=Qa (by
     rw [←HO.out,mrg,if_neg (by rw [HR.out];decide),List.append_assoc];rfl)
    have LL:Hid (A2.length=la∧((q1,q2)::M2).length=lm+1∧(O++[(p1,p2)]).length=lo+1):=Qa (by have:=HLn.out;simp at this ⊢;omega)
    have L1:Hid (Lies w3 B (some ⟨b1,o1+2,none⟩) (Qi A2)):=Qa (HA2.out.below (hbw3.mono hB))
    have L2:Hid (Lies w3 B (some ⟨b2,o2,none⟩) (Qi ((q1,q2)::M2))):=Qa (HM'.out.below (hbw3.mono hB))
    clear hown3 hgrow hown2 hbl2 g1 g3
    by_cases hd:d1=0
    ·subst hd
     obtain rfl:la=0:=by omega
     go_wp2
     refine ⟨⟨_,_,_,_,_,_,_,A2,(q1,q2)::M2,O++[(p1,p2)],rfl,rfl,rfl,by omega,by omega,by omega,LL,Qa (fun e=>by cases e),Qa (fun e=>by cases e),Qa ?_,L2,HO2,hownN,hblN⟩,by simp only;omega⟩
     rw [List.eq_nil_of_length_eq_zero (l:=A2) (by have:=LL.out;omega)]
     exact Lies.nil _ _ _
    ·have hd':¬ (d1:Int)+1=1:=by omega
     go_wp2
     exact ⟨⟨_,_,_,_,_,_,_,A2,(q1,q2)::M2,O++[(p1,p2)],rfl,rfl,rfl,by omega,by omega,by omega,LL,Qa (fun e=>by cases e),Qa (fun e=>by cases e),L1,L2,HO2,hownN,hblN⟩,by simp only;omega⟩
   ·go_wp2
    go_region_held3 (fun w'=>w'.cell? ⟨b1,o1,none⟩=some (.int .i64 (p1:Int))∧w'.cell? ⟨b1,o1+1,none⟩=some (.int .i64 p2)∧w'.cell? ⟨b2,o2,none⟩=some (.int .i64 (q1:Int))∧w'.cell? ⟨b2,o2+1,none⟩=some (.int .i64 q2)) (go_keep) (first | (go_at_call 197;refine (KL.out _).mono ?_;rintro e wp ⟨rfl,Bp⟩;have g1:=(Bp.cell (p:=⟨b1,o1,none⟩) hl1).trans e1;have g2:=(Bp.cell (p:=⟨b1,o1+1,none⟩) hl1).trans e2;have g3:=(Bp.cell (p:=⟨b2,o2,none⟩) hl2).trans f1;have g4:=(Bp.cell (p:=⟨b2,o2+1,none⟩) hl2).trans f2))
    have hbl2:Below w.heap.size w wp:=Qc Bp hsz hbl.drew
    have hown2:wp.ownsRow w.heap.size 199 2 (.slice (some ⟨w.heap.size,0,none⟩) lo N) lo (Qi O):=Ql (w:=wr.drew) hown Bp
    have hsz2:=hbl2.size
    clear hbl hown e1 e2 f1 f2
    go_wp2_with (at_builtin;refine wpList_append_fits _ rfl _ _ 192 rfl w.heap.size 199 i0 2 Tryz.underlying192 hi hz1 w.heap.size lo N _ rfl (hown2.alloc _) ⟨wp.heap.size,0,none⟩ 1 _ [.int .i64 (q1:Int),.int .i64 q2] rfl rfl ?da2 ?da3 ?da4 ?_)
    case da2=>exact JX (g:=wp.heap.size) (Has.fresh wp _ _)
    case da3=>exact YM _ _
    case da4=>omega
    intro w3 hown3 hgrow
    have hblN:Below w.heap.size w w3:=(hbl2.alloc (by omega) _).grown hgrow (by simp;omega) (fun b hb=>by cases hb;exact Nat.le_refl _)
    have hbw3:Below w.heap.size wr w3:=by
     have h1:Below w.heap.size wr wp:=⟨Bp.os,Bp.tape,Bp.output,Bp.size,fun i hi=>Bp.block i (by show i<wr.heap.size;omega)⟩
     exact (h1.alloc (by omega) _).grown hgrow (by simp;omega) (fun b hb=>by cases hb;exact Nat.le_refl _)
    have hownN:w3.ownsRow w.heap.size 199 2 (.slice (some ⟨w.heap.size,0,none⟩) (lo+1) N) (lo+1) (Qi (O++[(q1,q2)])):=by rw [QQ];exact hown3
    have HO2:Hid ((O++[(q1,q2)])++mrg ltI ((p1,p2)::A2) M2=mrg ltI A M):=Qa (by
     rw [←HO.out,mrg,if_pos HR.out,List.append_assoc];rfl)
    have LL:Hid (((p1,p2)::A2).length=la+1∧M2.length=lm∧(O++[(q1,q2)]).length=lo+1):=Qa (by have:=HLn.out;simp at this ⊢;omega)
    have L1:Hid (Lies w3 B (some ⟨b1,o1,none⟩) (Qi ((p1,p2)::A2))):=Qa (HA'.out.below (hbw3.mono hB))
    have L2:Hid (Lies w3 B (some ⟨b2,o2+2,none⟩) (Qi M2)):=Qa (HM2.out.below (hbw3.mono hB))
    clear hown3 hgrow hown2 hbl2 g1 g3
    by_cases hd:d2=0
    ·subst hd
     obtain rfl:lm=0:=by omega
     go_wp2
     refine ⟨⟨_,_,_,_,_,_,_,(p1,p2)::A2,M2,O++[(q1,q2)],rfl,rfl,rfl,by omega,by omega,by omega,LL,Qa (fun e=>by cases e),Qa (fun e=>by cases e),L1,Qa ?_,HO2,hownN,hblN⟩,by simp only;omega⟩
     rw [List.eq_nil_of_length_eq_zero (l:=M2) (by have:=LL.out;omega)]
     exact Lies.nil _ _ _
    ·have hd':¬ (d2:Int)+1=1:=by omega
     go_wp2
     exact ⟨⟨_,_,_,_,_,_,_,(p1,p2)::A2,M2,O++[(q1,q2)],rfl,rfl,rfl,by omega,by omega,by omega,LL,Qa (fun e=>by cases e),Qa (fun e=>by cases e),L1,L2,HO2,hownN,hblN⟩,by simp only;omega⟩
  ·by_cases h1:0<la
   ·go_wp2_with (at_builtin;first
    | (refine wpList_append_fits_any _ rfl _ _ 192 rfl w.heap.size 199 i0 2 Tryz.underlying192 hi hz1 w.heap.size (lo+la) N _ rfl hown1 x2 lm d2 (Qi M') rfl (by rw [ZD,HLn.out.2.1] <;> omega) HX2.out (L2w.newsO) (Xe _) (by omega) ?_)
    | (refine wpList_append_fits_any _ rfl _ _ 192 rfl w.heap.size 199 i0 2 Tryz.underlying192 hi hz1 w.heap.size lo N _ rfl hown x1 la d1 (Qi A') rfl (by rw [ZD,HLn.out.1] <;> omega) HX1.out (HA'.out.newsO) (Xe _) (by omega) ?_;intro w1 hown1 hgrow1;have L2w:Lies w1 B x2 (Qi M'):=HM'.out.below ((show Below w.heap.size wr w1 from (Below.refl _ _).grown hgrow1 hbl.size (fun b hb=>by cases hb;exact Nat.le_refl _)).mono hB)))
    intro w2 hown2 hgrow2
    go_wp2
    go_ret
    have hnot:¬ (0<A'.length∧0<M'.length):=by rw [HLn.out.1,HLn.out.2.1];exact h12
    have em:=xH ltI A' M' 0 0 hnot
    rw [List.drop_zero,List.drop_zero] at em
    rw [←QQ,←QQ,←em,HO.out] at hown2
    rw [HNN.out]
    exact ⟨_,rfl,hown2,(hbl.grown hgrow1 hbl.size (fun b hb=>by cases hb;exact Nat.le_refl _)).grown hgrow2 (Nat.le_trans hbl.size hgrow1.size) (fun b hb=>by cases hb;exact Nat.le_refl _)⟩
   ·go_wp2_with (at_builtin;first
    | (refine wpList_append_fits_any _ rfl _ _ 192 rfl w.heap.size 199 i0 2 Tryz.underlying192 hi hz1 w.heap.size (lo+la) N _ rfl hown1 x2 lm d2 (Qi M') rfl (by rw [ZD,HLn.out.2.1] <;> omega) HX2.out (L2w.newsO) (Xe _) (by omega) ?_)
    | (refine wpList_append_fits_any _ rfl _ _ 192 rfl w.heap.size 199 i0 2 Tryz.underlying192 hi hz1 w.heap.size lo N _ rfl hown x1 la d1 (Qi A') rfl (by rw [ZD,HLn.out.1] <;> omega) HX1.out (HA'.out.newsO) (Xe _) (by omega) ?_;intro w1 hown1 hgrow1;have L2w:Lies w1 B x2 (Qi M'):=HM'.out.below ((show Below w.heap.size wr w1 from (Below.refl _ _).grown hgrow1 hbl.size (fun b hb=>by cases hb;exact Nat.le_refl _)).mono hB)))
    intro w2 hown2 hgrow2
    go_wp2
    go_ret
    have hnot:¬ (0<A'.length∧0<M'.length):=by rw [HLn.out.1,HLn.out.2.1];exact h12
    have em:=xH ltI A' M' 0 0 hnot
    rw [List.drop_zero,List.drop_zero] at em
    rw [←QQ,←QQ,←em,HO.out] at hown2
    rw [HNN.out]
    exact ⟨_,rfl,hown2,(hbl.grown hgrow1 hbl.size (fun b hb=>by cases hb;exact Nat.le_refl _)).grown hgrow2 (Nat.le_trans hbl.size hgrow1.size) (fun b hb=>by cases hb;exact Nat.le_refl _)⟩
theorem jg (v1 v2:Value) (b1 b2 n1 n2:Nat) (A M:List Item) (w:World) (h1:w.ownsRow b1 199 2 v1 n1 (Qi A)) (h2:w.ownsRow b2 199 2 v2 n2 (Qi M)) (hl1:A.length=n1) (hl2:M.length=n2) (h3:n1≤1048576) (h4:n2≤1048576) :
 Calls Tryz.prog 195 #[v1,v2,.func (.func 197) #[] #[]] w fun e w'=>∃ v,e=.returned v∧w'.ownsRow w.heap.size 199 2 v (n1+n2) (Qi (mrg ltI A M))∧Below w.heap.size w w':=by
 obtain ⟨a1,c1,rfl,hc1,hn1⟩:=Vk h1
 obtain ⟨a2,c2,rfl,hc2,hn2⟩:=Vk h2
 subst hl1 hl2
 exact AIa a1 a2 c1 c2 w.heap.size A M w (Lies.own h1) (Lies.own h2) (Nat.le_refl _) hc1 hc2 hn1 hn2 h3 h4
theorem AHp (n:Nat):∀ (a:Option Addr) (cap B:Nat) (L:List Item) (w:World),L.length=n→Lies w B a (Qi L)→B≤w.heap.size→n≤cap→(a=none→n=0∧cap=0)→n≤1048576 →
 Calls Tryz.prog 199 #[.slice a n cap,.func (.func 197) #[] #[]] w fun e w'=>∃ v,e=.returned v∧w'.ownsRow w.heap.size 199 2 v n (Qi (srt ltI L))∧Below w.heap.size w w':=by
 induction n using Nat.strongRecOn with
 | _ n ih =>
   intro a cap B L w hn hz hB hcap hnone hlen
   by_cases h2:n<2
   ·have KD:=Qa (AVp a cap B L w hz hB (by omega))
    rw [hn] at KD
    have HS:Hid (srt ltI L=L):=Qa (Yn _ _ (by omega))
    clear hn hz ih hnone
    go_enter Tryz.func199,Tryz.ntmps199
    go_wp2_with fail
    refine KD.out.mono ?_
    rintro e w' ⟨v,rfl,hown,hb⟩
    go_wp2
    go_ret
    exact ⟨_,rfl,by rw [HS.out];exact hown,hb⟩
   ·obtain ⟨b,off,rfl,hb⟩:=hz.ex (by rw [ZD,hn];omega)
    obtain ⟨h,hh⟩:∃ h,n / 2=h:=⟨_,rfl⟩
    have K1:=Qa (fun (W:World) (hW:Below w.heap.size w W)=>ih h (by omega) (some ⟨b,off,none⟩) cap B (L.take h) W (by rw [List.length_take,hn];omega) (by rw [AHu];exact (hz.below (hW.mono hB)).take _) (Nat.le_trans hB hW.size) (by omega) (fun e=>by cases e) (by omega))
    have K2:=Qa (fun (W:World) (hW:Below w.heap.size w W)=>ih (n-h) (by omega) (some ⟨b,off+h*2,none⟩) (cap-h) B (L.drop h) W (by rw [List.length_drop,hn]) (by rw [js];exact (hz.below (hW.mono hB)).drop _) (Nat.le_trans hB hW.size) (by omega) (fun e=>by cases e) (by omega))
    have K3:=Qa (fun (W:World) (v1 v2:Value) (b1 b2:Nat) (h1:W.ownsRow b1 199 2 v1 h (Qi (srt ltI (L.take h)))) (h2:W.ownsRow b2 199 2 v2 (n-h) (Qi (srt ltI (L.drop h))))=>jg v1 v2 b1 b2 h (n-h) _ _ W h1 h2 (by rw [xD,List.length_take,hn];omega) (by rw [xD,List.length_drop,hn]) (by omega) (by omega))
    have HS:Hid (srt ltI L=mrg ltI (srt ltI (L.take h)) (srt ltI (L.drop h))):=Qa (by rw [qu ltI L (by omega),hn,hh])
    have hq:(n:Int).tdiv 2=(h:Int):=by rw [Int.tdiv_eq_ediv_of_nonneg (by omega)];omega
    have hdn:h+(n-h)=n:=by omega
    have HDN:=Qa hdn
    have i1:(h:Int)≤(n:Int):=by omega
    have i2:(h:Int)≤(cap:Int):=by omega
    have i3:(0:Int)≤(h:Int):=by omega
    have i4:¬ (cap:Int)=(h:Int):=by omega
    have i5:¬ cap=h:=by omega
    have i6:(n:Int)≤(cap:Int):=by omega
    have bb:Below w.heap.size w w:=Below.refl _ _
    clear hn hz ih hnone hh
    go_enter Tryz.func199,Tryz.ntmps199
    go_wp2
    go_region_held3 (fun w'=>Below w.heap.size w w') (exact ⟨bb.os,bb.tape,bb.output,bb.size,bb.block⟩) (first | (go_at_call 199;first | ((with_reducible refine (K1.out _ ?hW).mono ?_);(case hW=>exact ⟨bb.os,bb.tape,bb.output,bb.size,bb.block⟩);rintro e wX ⟨v1,rfl,o1,BX⟩;have yX:=BX.size;(try simp at yX);replace bb:Below w.heap.size w wX:=Qc BX (by (have hbb:=bb.size;(try simp);(try omega))) ⟨bb.os,bb.tape,bb.output,bb.size,bb.block⟩;clear BX) | ((with_reducible refine (K2.out _ ?hW).mono ?_);(case hW=>exact ⟨bb.os,bb.tape,bb.output,bb.size,bb.block⟩);rintro e wX ⟨v2,rfl,o2,BX⟩;have yX:=BX.size;(try simp at yX);replace bb:Below w.heap.size w wX:=Qc BX (by (have hbb:=bb.size;(try simp);(try omega))) ⟨bb.os,bb.tape,bb.output,bb.size,bb.block⟩;replace o1:=Ql o1 BX;clear BX)) | (go_at_call 195;refine (K3.out _ v1 v2 _ _ (by exact o1) (by exact o2)).mono ?_;rintro e wX ⟨v3,rfl,o3,BX⟩;have yX:=BX.size;(try simp at yX);replace o3:=Joins.ownsRow_le o3 bb.size;replace bb:Below w.heap.size w wX:=Qc BX (by (have hbb:=bb.size;(try simp);(try omega))) ⟨bb.os,bb.tape,bb.output,bb.size,bb.block⟩;clear BX))
    all_goals
     rw [←HS.out,HDN.out] at o3
     go_wp2
     go_ret
     exact ⟨_,rfl,o3,⟨bb.os,bb.tape,bb.output,bb.size,bb.block⟩⟩
theorem yf (a:Option Addr) (cap B:Nat) (L:List Nat) (w:World) (hz:Lies w B a (Qe L)) (hB:B≤w.heap.size) (hlen:L.length≤1048576) :
 Calls Tryz.prog 129 #[.slice a L.length cap] w fun e w'=>∃ v,e=.returned v∧w'.ownsRow w.heap.size 3 1 v L.length (Qe L)∧Below w.heap.size w w':=by
 obtain ⟨j0,ji,jz0,jz1,jz2⟩:=info_parts Tryz.infoInt
 obtain ⟨n,hn⟩:∃ n,L.length=n:=⟨_,rfl⟩
 have HN:=Qa hn
 have HZ:=Qa hz
 rw [hn] at hlen ⊢
 clear hn hz
 go_enter Tryz.func129,Tryz.ntmps129
 go_wp2_with (at_make;refine wpList_make_full _ rfl _ _ 24 rfl w.heap.size 3 j0 (.int .i64 0) 1 Tryz.underlying24 ji jz0 jz1 .i64 .i64 _ _ n rfl rfl rfl rfl ?cb1 ?cb2 ?cb3 ?_)
 case cb1=>rw [jz2];omega
 case cb2=>unfold maxLen;omega
 case cb3=>exact Nat.le_refl _
 intro w1 hown hgrow
 have hbl:Below w.heap.size w w1:=⟨hgrow.os,hgrow.tape,hgrow.output,hgrow.size,fun i hi=>hgrow.block i hi (by simp)⟩
 clear hgrow
 obtain ⟨w2,hrun,hown2,hgrow2⟩:=Ya (P:=Tryz.prog) w1 24 24 3 3 Tryz.underlying24 1 (by simp [ji,jz1]) (by decide) w.heap.size w.heap.size n n cap B a _ hown (Qe L) (by rw [ZF,HN.out] <;> omega) (HZ.out.below (hbl.mono hB)) (Zr L)
 have hbl2:Below w.heap.size w w2:=hbl.grown hgrow2 hbl.size (fun b hb=>by cases hb;exact Nat.le_refl _)
 clear hgrow2 hown hbl
 go_wp2
 go_ret
 exact ⟨_,rfl,hown2,hbl2⟩
end Go.Proofs.YtembljihmnmmfaaGreat
