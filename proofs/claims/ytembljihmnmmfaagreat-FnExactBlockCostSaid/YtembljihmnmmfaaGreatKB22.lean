/- Texts of the proof, merged. -/
import Derived.Deep.RegionWith
import Derived.Test.YtembljihmnmmfaaGreatKB16
import Derived.Test.YtembljihmnmmfaaGreatKB12
import Derived.Test.YtembljihmnmmfaaGreatKB2
namespace Go.Proofs.YtembljihmnmmfaaGreat
set_option maxHeartbeats 2000000
set_option maxRecDepth 100000
set_option linter.unusedVariables false
set_option linter.unusedSimpArgs false
open Go.RowKit
theorem APk (x:Nat) (A:List Nat):ints (x::A)=(x:Int)::ints A:=rfl
theorem Ints.uncons {w:World} {B b o:Nat} {x:Nat} {A:List Nat} (h:Ints w B (some ⟨b,o,none⟩) (ints (x::A))):w.cell? ⟨b,o,none⟩=some (.int .i64 (x:Int))∧Ints w B (some ⟨b,o+1,none⟩) (ints A):=by
 rw [APk] at h
 obtain ⟨h1,h2,h3⟩:=h
 obtain ⟨b',o',e,hb,hc⟩:=h3 (by simp)
 simp only [Option.some.injEq,Addr.mk.injEq] at e
 obtain ⟨rfl,rfl,_⟩:=e
 refine ⟨?_,by simp at h1;omega,fun n hn=>h2 n (List.mem_cons_of_mem _ hn),fun h0=>⟨b,o+1,rfl,hb,fun i hi=>?_⟩⟩
 ·have:=hc 0 (by simp)
  simpa using this
 ·have:=hc (i+1) (by simp;omega)
  rw [show o+1+i=o+(i+1) by omega,this]
  simp [List.getD_eq_getElem?_getD]
theorem Vv {w:World} {B b o:Nat} {A:List Nat} (h:Ints w B (some ⟨b,o,none⟩) (ints A)):∀ j u,(Qe A)[j]? = some u→w.cell? ((⟨b,o,none⟩:Addr).add j)=some u:=by
 intro j u hj
 have hjl:j<A.length:=by
  have:=(List.getElem?_eq_some_iff.1 hj).1
  rwa [ZF] at this
 obtain ⟨b',o',e,hb,hc⟩:=h.2.2 (by rw [Qj];omega)
 simp only [Option.some.injEq,Addr.mk.injEq] at e
 obtain ⟨rfl,rfl,_⟩:=e
 have e2:(⟨b,o,none⟩:Addr).add j=⟨b,o+j,none⟩:=by
  by_cases h0:j=0
  ·subst h0;simp [Addr.add]
  ·simp [Addr.add,h0]
 rw [e2,hc j (by rw [Qj];exact hjl),XH]
 rw [zq A j hjl] at hj
 rw [←hj]
 simp [List.getD_eq_getElem?_getD,hjl]
theorem ABd {w:World} {B b o:Nat} {A:List Nat} (h:A.length=0):Ints w B (some ⟨b,o,none⟩) (ints A):=by
 have e:A=[]:=List.length_eq_zero_iff.1 h
 subst e
 exact ⟨by simp [ints],by simp [ints],fun h=>by simp [ints] at h⟩
theorem JN {M:List Nat} {n:Nat} (h:∀ x∈M,x<n) (hn:n≤1048576):∀ x∈ints M,-9223372036854775808≤x∧x≤9223372036854775807:=fun x hx=>by
 unfold ints at hx
 rw [List.mem_map] at hx
 obtain ⟨d,hd,rfl⟩:=hx
 have:=h d hd
 omega
theorem qe (a b:List Nat):Qe (a++b)=Qe a++Qe b:=by simp [Qe]
theorem ABk {w:World} {base n c:Nat} {e:TypeId} {a:Option Addr} {xs:List Value} (h:w.ownsRow base e 1 (.slice a n c) n xs):n≤c:=by
 rcases h.2 with ⟨hv,h0⟩ | ⟨g,cap,cur,hv,_,_,hle,_⟩
 ·omega
 ·simp only [Value.slice.injEq] at hv
  obtain ⟨_,_,rfl⟩:=hv
  exact hle
theorem zh (s:ByteArray) (hs:s.size≤1048576) (N:Nat)
 (ih:∀ (L:List Nat) (b off cap B:Nat) (w:World),L.length≤N→1≤L.length→Ints w B (some ⟨b,off,none⟩) (ints L)→B≤w.heap.size→L.length≤cap→L.length≤1048576→L.Nodup→(∀ x∈L,x<s.size) →
   Calls Tryz.prog 90 #[.string s,.slice (some ⟨b,off,none⟩) L.length cap] w fun e w'=>∃ b' off' c' R,e=.returned (.slice (some ⟨b',off',none⟩) L.length c')∧Srt (Qb s) L R∧Ints w' w'.heap.size (some ⟨b',off',none⟩) (ints R)∧L.length≤c'∧Below w.heap.size w w')
 (L:List Nat) (b off cap B:Nat) (w:World) (hN:L.length≤N+1) (h2:2≤L.length) (hz:Ints w B (some ⟨b,off,none⟩) (ints L)) (hB:B≤w.heap.size) (hcap:L.length≤cap) (hl:L.length≤1048576) (hnd:L.Nodup) (hlt:∀ x∈L,x<s.size) :
   Calls Tryz.prog 90 #[.string s,.slice (some ⟨b,off,none⟩) L.length cap] w fun e w'=>∃ b' off' c' R,e=.returned (.slice (some ⟨b',off',none⟩) L.length c')∧Srt (Qb s) L R∧Ints w' w'.heap.size (some ⟨b',off',none⟩) (ints R)∧L.length≤c'∧Below w.heap.size w w'∧w'.ownsRow w.heap.size 3 1 (.slice (some ⟨b',off',none⟩) L.length c') L.length (Qe R):=by
 obtain ⟨i0,hi,hz0,hz1,hz2⟩:=info_parts Tryz.infoI
 obtain ⟨k,hk⟩:∃ k,L.length=k:=⟨_,rfl⟩
 obtain ⟨h,hh⟩:∃ h,k / 2=h:=⟨_,rfl⟩
 rw [hk] at hN h2 hcap hl ⊢
 have hh1:1≤h:=by omega
 have hhk:h+1≤k:=by omega
 have hhi:(k:Int) / 2=(h:Int):=by rw [←hh];simp
 have lA:(L.take h).length=h:=by rw [List.length_take];omega
 have lB:(L.drop h).length=k-h:=by rw [List.length_drop];omega
 have zA:Ints w B (some ⟨b,off,none⟩) (ints (L.take h)):=by
  refine ⟨by rw [Qj,lA];omega,fun n hn=>hz.2.1 n ?_,fun h0=>?_⟩
  ·unfold ints at hn ⊢
   rw [List.map_take] at hn
   exact List.mem_of_mem_take hn
  ·obtain ⟨b',o',e,hb,hc⟩:=hz.2.2 (by rw [Qj];omega)
   refine ⟨b',o',e,hb,fun i hi=>?_⟩
   rw [Qj,lA] at hi
   rw [hc i (by rw [Qj];omega),XH,XH]
   simp only [List.getD_eq_getElem?_getD,List.getElem?_take,if_pos hi]
 have zB:Ints w B (some ⟨b,off+h,none⟩) (ints (L.drop h)):=by
  refine ⟨by rw [Qj,lB];omega,fun n hn=>hz.2.1 n ?_,fun h0=>?_⟩
  ·unfold ints at hn ⊢
   rw [List.map_drop] at hn
   exact List.mem_of_mem_drop hn
  ·obtain ⟨b',o',e,hb,hc⟩:=hz.2.2 (by rw [Qj];omega)
   simp only [Option.some.injEq,Addr.mk.injEq] at e
   obtain ⟨rfl,rfl,_⟩:=e
   refine ⟨b,off+h,rfl,hb,fun i hi=>?_⟩
   rw [Qj,lB] at hi
   rw [show off+h+i=off+(h+i) by omega,hc (h+i) (by rw [Qj];omega),XH,XH]
   simp only [List.getD_eq_getElem?_getD,List.getElem?_drop]
 have KA:=Qa fun W (hW:Ints W B (some ⟨b,off,none⟩) (ints (L.take h))) (hBW:B≤W.heap.size)=>ih (L.take h) b off cap B W (by omega) (by omega) hW hBW (by omega) (by omega) (hnd.sublist (List.take_sublist _ _)) (fun x hx=>hlt x (List.mem_of_mem_take hx))
 have KB:=Qa fun W (hW:Ints W B (some ⟨b,off+h,none⟩) (ints (L.drop h))) (hBW:B≤W.heap.size)=>ih (L.drop h) b (off+h) (cap-h) B W (by omega) (by omega) hW hBW (by omega) (by omega) (hnd.sublist (List.drop_sublist _ _)) (fun x hx=>hlt x (List.mem_of_mem_drop hx))
 rw [lA] at KA
 rw [lB] at KB
 have HLT:=Qa hlt
 have HLT2:=Qa hlt
 have HND:=Qa hnd
 have HK:=Qa hk
 have HZB:=Qa zB
 have HZA:=Qa zA
 clear hz hlt hnd hk lA lB zA zB ih hh hN
 have hk2:¬ (k:Int)<2:=by omega
 have hhc:(h:Int)≤(cap:Int):=by omega
 go_enter Tryz.func90,Tryz.ntmps90
 go_wp2_with fail
 refine (KA.out _ HZA.out hB).mono ?_
 rintro e w1 ⟨ba,oa,ca,RA,rfl,hSA,hIA,hca,b1⟩
 have hs1:=b1.size
 have hzB1:=HZB.out.below (b1.mono hB)
 go_wp2_with fail
 refine (KB.out _ hzB1 (by omega)).mono ?_
 rintro e w2 ⟨bb,ob,cb,RB,rfl,hSB,hIB,hcb,b2⟩
 have hs2:=b2.size
 have BB:=b1.trans (b2.mono hs1)
 have hIA2:=(hIA.below b2).mono hs2
 have HSM:Hid (Srt (Qb s) L (RA.merge RB (rle (Qb s)))):=Qa (by
  have:=AQw hSA hSB (by rw [List.take_append_drop];exact HND.out)
  rwa [List.take_append_drop] at this)
 have hlA:RA.length=h:=by rw [hSA.1.length_eq,List.length_take,HK.out];omega
 have hlB:RB.length=k-h:=by rw [hSB.1.length_eq,List.length_drop,HK.out]
 have hdis:∀ x∈RA,x ∉ RB:=fun x hx hx2=>by
  have h1:=hSA.1.mem_iff.1 hx
  have h2:=hSB.1.mem_iff.1 hx2
  have hn:=HND.out
  rw [←List.take_append_drop h L] at hn
  exact (List.nodup_append.1 hn).2.2 x h1 x h2 rfl
 have hltA:∀ x∈RA,x<s.size:=fun x hx=>HLT.out x (List.mem_of_mem_take (hSA.1.mem_iff.1 hx))
 have hltB:∀ x∈RB,x<s.size:=fun x hx=>HLT.out x (List.mem_of_mem_drop (hSB.1.mem_iff.1 hx))
 obtain ⟨M,hM⟩:∃ M,RA.merge RB (rle (Qb s))=M:=⟨_,rfl⟩
 rw [hM] at HSM
 have HINIT:Hid (∃ (A Bq O:List Nat),RA=A∧RB=Bq∧O=[]∧O++A.merge Bq (rle (Qb s))=M∧(∀ x∈A,x ∉ Bq)∧(∀ x∈A,x<s.size)∧(∀ x∈Bq,x<s.size)∧A.length+Bq.length+O.length=k):=Qa ⟨RA,RB,[],rfl,rfl,rfl,by rw [List.nil_append];exact hM,hdis,hltA,hltB,by rw [hlA,hlB];simp;omega⟩
 obtain ⟨hA0,hB0⟩:Hid (RA.length=h)∧Hid (RB.length=k-h):=⟨Qa hlA,Qa hlB⟩
 have hIA3:=Qa hIA2
 have hIB3:=Qa hIB
 clear hSA hSB hM hdis hltA hltB hlA hlB KA KB HZA HZB hIA hIA2 hIB hzB1 HLT HND b1 b2 hs1
 go_wp2
 go_loopw [5,6,7] (fun sa sb so wr=>∃ (A Bq O:List Nat) (m p q pa pb xa xb ya yb:Nat),sa=.slice (some ⟨pa,xa,none⟩) m ya∧sb=.slice (some ⟨pb,xb,none⟩) p yb∧Hid (A.length=m)∧Hid (Bq.length=p)∧Hid (O.length=q)∧m+p+q=k∧Hid (O++A.merge Bq (rle (Qb s))=M∧(∀ x∈A,x ∉ Bq)∧(∀ x∈A,x<s.size)∧(∀ x∈Bq,x<s.size))∧m≤ya∧p≤yb∧Hid (Ints wr w2.heap.size (some ⟨pa,xa,none⟩) (ints A))∧Hid (Ints wr w2.heap.size (some ⟨pb,xb,none⟩) (ints Bq))∧wr.ownsRow w2.heap.size 3 1 so q (Qe O)∧Below w2.heap.size w2 wr) (fun sa sb _ _=>(match sa with | .slice _ n _=>n | _=>0)+(match sb with | .slice _ n _=>n | _=>0))
 case atStart =>
  obtain ⟨A,Bq,O,e1,e2,e3,i1,i2,i3,i4,i5⟩:=HINIT.out
  refine ⟨A,Bq,O,h,k-h,0,ba,bb,oa,ob,ca,cb,rfl,rfl,Qa (by rw [←e1];exact hA0.out),Qa (by rw [←e2];exact hB0.out),Qa (by rw [e3];rfl),by omega,Qa ⟨i1,i2,i3,i4⟩,hca,hcb,Qa (by rw [←e1];exact hIA3.out),Qa (by rw [←e2];exact hIB3.out),?_,Below.refl _ _⟩
  rw [e3];exact World.ownsRow_nil _ _ _ _
 case round =>
  clear hIA3 hIB3 HINIT hA0 hB0
  obtain ⟨A,Bq,O,m,p,q,pa,pb,xa,xb,ya,yb,rfl,rfl,HA,HBq,HO,hmpq,HI,hya,hyb,hIA,hIB,hown,hbl⟩:=hrel
  have hsz:=hbl.size
  have hLM:Hid (∀ x∈M,x<s.size):=Qa (fun x hx=>HLT2.out x (HSM.out.1.mem_iff.1 hx))
  by_cases hm0:m=0
  ·have HM:Hid (O++A++Bq=M):=Qa (by
    have h0:A=[]:=List.length_eq_zero_iff.1 (HA.out.trans hm0)
    have:=HI.out.1
    rw [h0,List.nil_merge] at this
    rw [h0,List.append_nil];exact this)
   have hm1:¬ (0:Int)<(m:Int):=by omega
   clear hm0
   have hA1:(Qe A).length=m*1:=by rw [ZF,HA.out,Nat.mul_one]
   have hB1:(Qe Bq).length=p*1:=by rw [ZF,HBq.out,Nat.mul_one]
   have hnA:=Vv hIA.out
   go_wp2_with (at_builtin;refine wpList_append_own _ rfl _ _ 24 rfl w2.heap.size 3 i0 (.int .i64 0) 1 8 Tryz.underlying24 hi hz0 hz1 hz2 rfl (by decide) _ _ _ rfl hown ⟨pa,xa,none⟩ m ya (Qe A) rfl hA1 hnA (Zr _) ?ea4 ?ea5 ?ea6 ?_)
   case ea4=>unfold maxLen;omega
   case ea5=>omega
   intro v3 w4 hown3 hgrow _
   have b4:Below w2.heap.size wr w4:=(Below.refl _ _).grown hgrow hsz (fun g hg=>(hown.lt g hg).1)
   have hs4:=hgrow.size
   have hnB:=Vv (hIB.out.below b4)
   have bl4:=hbl.trans b4
   clear hgrow b4 hown hbl hIA hIB hnA
   go_wp2_with (at_builtin;refine wpList_append_own _ rfl _ _ 24 rfl w2.heap.size 3 i0 (.int .i64 0) 1 8 Tryz.underlying24 hi hz0 hz1 hz2 rfl (by decide) _ _ _ rfl hown3 ⟨pb,xb,none⟩ p yb (Qe Bq) rfl hB1 hnB (Zr _) ?eb4 ?eb5 ?eb6 ?_)
   case eb4=>unfold maxLen;omega
   case eb5=>omega
   case eb6=>omega
   intro v5 w5 hown5 hgrow _
   have b5:Below w2.heap.size w4 w5:=(Below.refl _ _).grown hgrow (by omega) (fun g hg=>(hown3.lt g hg).1)
   have bl5:=BB.trans ((bl4.trans b5).mono (by have:=BB.size;omega))
   simp only [←qe,←List.append_assoc] at hown5
   rw [HM.out,show q+m+p=k by omega,←Qy] at hown5
   clear hgrow b5 bl4 hown3
   obtain ⟨g5,c5,rfl⟩:=Joins.ownsRow_form hown5 (by omega)
   have hcap5:=ABk hown5
   have hI5:=(Ints.ofOwn hown5 (by omega) (fun x hx=>JN hLM.out hs x hx)).2
   go_wp2
   go_ret
   exact ⟨g5,0,c5,M,rfl,HSM.out,hI5,hcap5,bl5,by rw [←Qy];exact Joins.ownsRow_le hown5 (by have:=BB.size;omega)⟩
  by_cases hp0:p=0
  ·have HM:Hid (O++A++Bq=M):=Qa (by
    have h0:Bq=[]:=List.length_eq_zero_iff.1 (HBq.out.trans hp0)
    have:=HI.out.1
    rw [h0,List.merge_right] at this
    rw [h0,List.append_nil];exact this)
   have hm1:(0:Int)<(m:Int):=by omega
   have hp1:¬ (0:Int)<(p:Int):=by omega
   clear hp0 hm0
   have hA1:(Qe A).length=m*1:=by rw [ZF,HA.out,Nat.mul_one]
   have hB1:(Qe Bq).length=p*1:=by rw [ZF,HBq.out,Nat.mul_one]
   have hnA:=Vv hIA.out
   go_wp2_with (at_builtin;refine wpList_append_own _ rfl _ _ 24 rfl w2.heap.size 3 i0 (.int .i64 0) 1 8 Tryz.underlying24 hi hz0 hz1 hz2 rfl (by decide) _ _ _ rfl hown ⟨pa,xa,none⟩ m ya (Qe A) rfl hA1 hnA (Zr _) ?fa4 ?fa5 ?fa6 ?_)
   case fa4=>unfold maxLen;omega
   case fa5=>omega
   intro v3 w4 hown3 hgrow _
   have b4:Below w2.heap.size wr w4:=(Below.refl _ _).grown hgrow hsz (fun g hg=>(hown.lt g hg).1)
   have hs4:=hgrow.size
   have hnB:=Vv (hIB.out.below b4)
   have bl4:=hbl.trans b4
   clear hgrow b4 hown hbl hIA hIB hnA
   go_wp2_with (at_builtin;refine wpList_append_own _ rfl _ _ 24 rfl w2.heap.size 3 i0 (.int .i64 0) 1 8 Tryz.underlying24 hi hz0 hz1 hz2 rfl (by decide) _ _ _ rfl hown3 ⟨pb,xb,none⟩ p yb (Qe Bq) rfl hB1 hnB (Zr _) ?fb4 ?fb5 ?fb6 ?_)
   case fb4=>unfold maxLen;omega
   case fb5=>omega
   case fb6=>omega
   intro v5 w5 hown5 hgrow _
   have b5:Below w2.heap.size w4 w5:=(Below.refl _ _).grown hgrow (by omega) (fun g hg=>(hown3.lt g hg).1)
   have bl5:=BB.trans ((bl4.trans b5).mono (by have:=BB.size;omega))
   simp only [←qe,←List.append_assoc] at hown5
   rw [HM.out,show q+m+p=k by omega,←Qy] at hown5
   clear hgrow b5 bl4 hown3
   obtain ⟨g5,c5,rfl⟩:=Joins.ownsRow_form hown5 (by omega)
   have hcap5:=ABk hown5
   have hI5:=(Ints.ofOwn hown5 (by omega) (fun x hx=>JN hLM.out hs x hx)).2
   go_wp2
   go_ret
   exact ⟨g5,0,c5,M,rfl,HSM.out,hI5,hcap5,bl5,by rw [←Qy];exact Joins.ownsRow_le hown5 (by have:=BB.size;omega)⟩
  obtain ⟨x,A',rfl⟩:∃ x A',A=x::A':=by
   cases A with
   | nil=>exact absurd HA.out.symm (by simp;omega)
   | cons x A'=>exact ⟨x,A',rfl⟩
  obtain ⟨y,B',rfl⟩:∃ y B',Bq=y::B':=by
   cases Bq with
   | nil=>exact absurd HBq.out.symm (by simp;omega)
   | cons y B'=>exact ⟨y,B',rfl⟩
  obtain ⟨cx,hIA'⟩:=hIA.out.uncons
  obtain ⟨cy,hIB'⟩:=hIB.out.uncons
  replace hIA':=Qa hIA'
  replace hIB':=Qa hIB'
  have hxs:x<s.size:=HI.out.2.2.1 x (List.mem_cons_self ..)
  have hys:y<s.size:=HI.out.2.2.2 y (List.mem_cons_self ..)
  have hxy:x≠y:=fun e=>HI.out.2.1 x (List.mem_cons_self ..) (e ▸ List.mem_cons_self ..)
  have hA1:Hid (A'.length=m-1):=Qa (by have:=HA.out;simp at this;omega)
  have hB1:Hid (B'.length=p-1):=Qa (by have:=HBq.out;simp at this;omega)
  have hm1:(0:Int)<(m:Int):=by omega
  have hp1:(0:Int)<(p:Int):=by omega
  have hya1:(m:Int)≤(ya:Int):=by omega
  have hyb1:(p:Int)≤(yb:Int):=by omega
  by_cases hr:rlt (Qb s) x y
  ·have KL:∀ W:World,Calls Tryz.prog 137 #[.string s,.int .i64 x,.int .i64 y] W fun e w'=>e=.returned (.bool true)∧W=w':=fun W=>by
    have:=VC s x y W hs hxs hys
    rwa [decide_eq_true hr] at this
   have HI2:Hid ((O++[x])++A'.merge (y::B') (rle (Qb s))=M∧(∀ z∈A',z ∉ y::B')∧(∀ z∈A',z<s.size)∧(∀ z∈y::B',z<s.size)):=Qa (by
    obtain ⟨i1,i2,i3,i4⟩:=HI.out
    refine ⟨?_,fun z hz=>i2 z (List.mem_cons_of_mem _ hz),fun z hz=>i3 z (List.mem_cons_of_mem _ hz),i4⟩
    rw [List.cons_merge_cons,if_pos ((JU _ _ _).2 (.inr hr))] at i1
    rw [List.append_assoc];exact i1)
   clear hr hxy
   go_wp2
   go_region_with (go_at_call 137;refine (KL _).mono ?_;rintro e w3 ⟨rfl,rfl⟩)
   all_goals (
    have hownd:wr.drew.ownsRow w2.heap.size 3 1 _ q (Qe O):=hown
    have cxd:wr.drew.cell? ⟨pa,xa,none⟩=some (.int .i64 (x:Int)):=cx
    have bd:Below w2.heap.size wr wr.drew:=Below.drew (Below.refl _ _)
    go_wp2_with (at_builtin;refine wpList_append_own _ rfl _ _ 24 rfl w2.heap.size 3 i0 (.int .i64 0) 1 8 Tryz.underlying24 hi hz0 hz1 hz2 rfl (by decide) _ _ _ rfl (hownd.alloc _) ⟨wr.heap.size,0,none⟩ 1 1 [.int .i64 (x:Int)] rfl rfl ?cx2a ?cx3a ?cx4a ?cx5a ?cx6a ?_)
    case cx2a=>exact JY _ _ _
    case cx3a=>exact fun u hu=>by simp at hu;subst hu;rfl
    case cx4a=>unfold maxLen;omega
    case cx5a=>omega
    case cx6a=>simp;omega
    intro v3 w4 hown3 hgrow _
    have hown3:w4.ownsRow w2.heap.size 3 1 v3 (q+1) (Qe (O++[x])):=by rw [QX];exact hown3
    have b4:Below w2.heap.size wr w4:=Zf bd hsz hownd hgrow
    have HO2:Hid ((O++[x]).length=q+1):=Qa (by simp [HO.out])
    have hIA4:=Qa (hIA.out.below b4)
    have hIB4:=Qa (hIB.out.below b4)
    have hIA5:=Qa (hIA'.out.below b4)
    have hIB5:=Qa (hIB'.out.below b4)
    have bl4:=hbl.trans b4
    clear hgrow hownd cxd bd b4 hown hbl
    by_cases hc1:ya=1
    ·subst hc1
     go_wp2
     exact ⟨⟨A',y::B',O++[x],0,p,q+1,pa,pb,xa,xb,0,yb,rfl,rfl,Qa (by have:=hA1.out;omega),HBq,HO2,by omega,HI2,Nat.le_refl _,hyb,Qa (ABd (by have:=hA1.out;omega)),hIB4,hown3,bl4⟩,by simp;omega⟩
    ·have hc2:(1:Int)<(ya:Int):=by omega
     go_wp2
     go_roundw
     case rel=>exact ⟨A',y::B',O++[x],m-1,p,q+1,pa,pb,xa+1,xb,ya-1,yb,by go_num,rfl,hA1,HBq,HO2,by omega,HI2,by omega,hyb,hIA5,hIB4,hown3,bl4⟩
     case measure=>simp;omega)
  ·have KL:∀ W:World,Calls Tryz.prog 137 #[.string s,.int .i64 x,.int .i64 y] W fun e w'=>e=.returned (.bool false)∧W=w':=fun W=>by
    have:=VC s x y W hs hxs hys
    rwa [decide_eq_false hr] at this
   have HI2:Hid ((O++[y])++(x::A').merge B' (rle (Qb s))=M∧(∀ z∈x::A',z ∉ B')∧(∀ z∈x::A',z<s.size)∧(∀ z∈B',z<s.size)):=Qa (by
    obtain ⟨i1,i2,i3,i4⟩:=HI.out
    refine ⟨?_,fun z hz hz2=>i2 z hz (List.mem_cons_of_mem _ hz2),i3,fun z hz=>i4 z (List.mem_cons_of_mem _ hz)⟩
    rw [List.cons_merge_cons,if_neg (fun h=>by rcases (JU _ _ _).1 h with h | h;exact hxy h;exact hr h)] at i1
    rw [List.append_assoc];exact i1)
   clear hr hxy
   go_wp2
   go_region_with (go_at_call 137;refine (KL _).mono ?_;rintro e w3 ⟨rfl,rfl⟩)
   all_goals (
    have hownd:wr.drew.ownsRow w2.heap.size 3 1 _ q (Qe O):=hown
    have cxd:wr.drew.cell? ⟨pb,xb,none⟩=some (.int .i64 (y:Int)):=cy
    have bd:Below w2.heap.size wr wr.drew:=Below.drew (Below.refl _ _)
    go_wp2_with (at_builtin;refine wpList_append_own _ rfl _ _ 24 rfl w2.heap.size 3 i0 (.int .i64 0) 1 8 Tryz.underlying24 hi hz0 hz1 hz2 rfl (by decide) _ _ _ rfl (hownd.alloc _) ⟨wr.heap.size,0,none⟩ 1 1 [.int .i64 (y:Int)] rfl rfl ?cy2a ?cy3a ?cy4a ?cy5a ?cy6a ?_)
    case cy2a=>exact JY _ _ _
    case cy3a=>exact fun u hu=>by simp at hu;subst hu;rfl
    case cy4a=>unfold maxLen;omega
    case cy5a=>omega
    case cy6a=>simp;omega
    intro v3 w4 hown3 hgrow _
    have hown3:w4.ownsRow w2.heap.size 3 1 v3 (q+1) (Qe (O++[y])):=by rw [QX];exact hown3
    have b4:Below w2.heap.size wr w4:=Zf bd hsz hownd hgrow
    have HO2:Hid ((O++[y]).length=q+1):=Qa (by simp [HO.out])
    have hIA4:=Qa (hIA.out.below b4)
    have hIB4:=Qa (hIB.out.below b4)
    have hIA5:=Qa (hIA'.out.below b4)
    have hIB5:=Qa (hIB'.out.below b4)
    have bl4:=hbl.trans b4
    clear hgrow hownd cxd bd b4 hown hbl
    by_cases hc1:yb=1
    ·subst hc1
     go_wp2
     exact ⟨⟨x::A',B',O++[y],m,0,q+1,pa,pb,xa,xb,ya,0,rfl,rfl,HA,Qa (by have:=hB1.out;omega),HO2,by omega,HI2,hya,Nat.le_refl _,hIA4,Qa (ABd (by have:=hB1.out;omega)),hown3,bl4⟩,by simp;omega⟩
    ·have hc2:(1:Int)<(yb:Int):=by omega
     go_wp2
     go_roundw
     case rel=>exact ⟨x::A',B',O++[y],m,p-1,q+1,pa,pb,xa,xb+1,ya,yb-1,rfl,by go_num,HA,hB1,HO2,by omega,HI2,hya,by omega,hIA4,hIB5,hown3,bl4⟩
     case measure=>simp;omega)
theorem zZ (s:ByteArray) (hs:s.size≤1048576):∀ (N:Nat) (L:List Nat) (b off cap B:Nat) (w:World),L.length≤N→1≤L.length→Ints w B (some ⟨b,off,none⟩) (ints L)→B≤w.heap.size→L.length≤cap→L.length≤1048576→L.Nodup→(∀ x∈L,x<s.size) →
 Calls Tryz.prog 90 #[.string s,.slice (some ⟨b,off,none⟩) L.length cap] w fun e w'=>∃ b' off' c' R,e=.returned (.slice (some ⟨b',off',none⟩) L.length c')∧Srt (Qb s) L R∧Ints w' w'.heap.size (some ⟨b',off',none⟩) (ints R)∧L.length≤c'∧Below w.heap.size w w'
 | 0,L,_,_,_,_,_,h,h1,_,_,_,_,_,_=>absurd h1 (by omega)
 | N+1,L,b,off,cap,B,w,h,h1,hz,hB,hcap,hl,hnd,hlt=>by
   by_cases h2:2≤L.length
   ·exact (zh s hs N (zZ s hs N) L b off cap B w h h2 hz hB hcap hl hnd hlt).mono fun e w' ⟨b',o',c',R,e1,e2,e3,e4,e5,_⟩=>⟨b',o',c',R,e1,e2,e3,e4,e5⟩
   ·have e1:L.length=1:=by omega
    have hS:Srt (Qb s) L L:=⟨List.Perm.refl _,by
     obtain ⟨x,rfl⟩:=List.length_eq_one_iff.1 e1
     simp⟩
    have hz2:=hz.mono hB
    rw [e1] at hcap ⊢
    clear h h1 h2 hz hl hnd hlt
    go_enter Tryz.func90,Tryz.ntmps90
    go_wp2
    go_ret
    exact ⟨b,off,cap,L,rfl,hS,hz2,hcap,Below.refl _ _⟩
def rotZ (s:ByteArray):List Int:=if 0<s.size∧s.size≤600 then ints (rotO (Qb s)) else []
theorem AFt (s:ByteArray) (a:Option Addr) (cap:Nat) (w:World) :
 Calls Tryz.prog 90 #[.string s,.slice a 1 cap] w fun e w'=>e=.returned (.slice a 1 cap)∧w=w':=by
 go_enter Tryz.func90,Tryz.ntmps90
 go_wp2
 go_ret
 exact ⟨rfl,rfl⟩
theorem AGk (s:ByteArray) (hs:s.size≤1048576) (h1:0<s.size) (g:Nat) (w:World) (base:Nat) (hbase:base≤w.heap.size) (hown:w.ownsRow base 3 1 (.slice (some ⟨g,0,none⟩) s.size s.size) s.size (Qe (List.range s.size))) :
 Calls Tryz.prog 90 #[.string s,.slice (some ⟨g,0,none⟩) s.size s.size] w fun e w'=>∃ v,e=.returned v∧w'.ownsRow base 3 1 v s.size (Qe (rotO (Qb s)))∧Below w.heap.size w w':=by
 have hI:=(Ints.ofOwn (zs:=ints (List.range s.size)) (by rw [Qy];exact hown) (by omega) (JN (n:=s.size) (fun x hx=>List.mem_range.1 hx) hs)).2
 by_cases h2:2≤s.size
 ·have:=zh s hs s.size (zZ s hs s.size) (List.range s.size) g 0 s.size w.heap.size w (by simp) (by rw [List.length_range];exact h2) hI (Nat.le_refl _) (by simp) (by simpa using hs) List.nodup_range (fun x hx=>List.mem_range.1 hx)
  simp only [List.length_range] at this
  refine this.mono ?_
  rintro e w' ⟨b',o',c',R,rfl,hS,_,_,hb,ho⟩
  have hR:R=rotO (Qb s):=vZ (by rw [Qf];exact hS)
  subst hR
  exact ⟨_,rfl,Joins.ownsRow_le ho hbase,hb⟩
 ·have e1:s.size=1:=by omega
  have hS:Srt (Qb s) (List.range (Qb s).length) (List.range (Qb s).length):=⟨List.Perm.refl _,by rw [Qf,e1];simp [List.range_succ]⟩
  have hR:=vZ hS
  rw [Qf] at hR
  have:=AFt s (some ⟨g,0,none⟩) s.size w
  rw [←e1] at this
  refine this.mono ?_
  rintro e w' ⟨rfl,rfl⟩
  exact ⟨_,rfl,by rw [←hR];exact hown,Below.refl _ _⟩
theorem xQ (s:ByteArray) (w:World) (hs:s.size≤1048576) :
 Calls Tryz.prog 46 #[.string s] w fun e w'=>∃ v,e=.returned v∧w'.ownsRow w.heap.size 3 1 v (rotZ s).length (Qo (rotZ s))∧Below w.heap.size w w':=by
 have KO:=Qa (fun W=>XL s W hs)
 by_cases hok:0<s.size∧s.size≤600
 ·have hZ:rotZ s=ints (rotO (Qb s)):=by unfold rotZ;rw [if_pos hok]
  have hl:(rotO (Qb s)).length=s.size:=by rw [XF,Qf]
  rw [hZ,Qy,Qj,hl]
  rw [decide_eq_true hok] at KO
  obtain ⟨h1,h2⟩:=hok
  have KM:=Qa (AGk s hs h1)
  clear hZ hl
  go_enter Tryz.func46,Tryz.ntmps46
  go_wp2_with fail
  refine (KO.out _).mono ?_
  rintro e w1 ⟨rfl,rfl⟩
  go_wp2_with fail
  refine (ABg s.size w (by omega)).mono ?_
  rintro e w2 ⟨g,rfl,hown,b2⟩
  go_wp2_with fail
  refine (KM.out g _ w.heap.size b2.size hown).mono ?_
  rintro e w3 ⟨v,rfl,hownR,b3⟩
  have BB:=b2.trans (b3.mono b2.size)
  go_wp2
  go_ret
  exact ⟨_,rfl,hownR,BB⟩
 ·have hZ:rotZ s=[]:=by unfold rotZ;rw [if_neg hok]
  rw [hZ]
  rw [decide_eq_false hok] at KO
  clear hok hZ
  go_enter Tryz.func46,Tryz.ntmps46
  go_wp2_with fail
  refine (KO.out _).mono ?_
  rintro e w1 ⟨rfl,rfl⟩
  go_wp2
  go_ret
  exact ⟨_,rfl,World.ownsRow_nil _ _ _ _,Below.refl _ _⟩
theorem yL (s:ByteArray) (hs:s.size≤1048576):(rotZ s).length≤1048576∧∀ x∈rotZ s,-9223372036854775808≤x∧x≤9223372036854775807:=by
 unfold rotZ
 split
 ·refine ⟨by rw [Qj,XF,Qf];exact hs,JN (n:=s.size) (fun x hx=>?_) hs⟩
  have:=vH (Qb s) x hx
  rwa [Qf] at this
 ·simp
theorem ALn {w:World} {base n:Nat} {e:TypeId} {v:Value} {xs:List Value} (h:w.ownsRow base e 1 v n xs):∃ a c,v=.slice a n c∧n≤c∧∀ x,a=some x→x.spot=none:=by
 rcases h.2 with ⟨rfl,h0⟩ | ⟨g,cap,cur,rfl,_,_,hle,_⟩
 ·exact ⟨none,0,by rw [h0],by omega,fun x hx=>by cases hx⟩
 ·exact ⟨_,cap,rfl,hle,fun x hx=>by cases hx;rfl⟩
theorem xW (s:ByteArray) (w:World) (hs:s.size≤1048576) :
 Calls Tryz.prog 46 #[.string s] w fun e w'=>∃ a c,e=.returned (.slice a (rotZ s).length c)∧Ints w' w'.heap.size a (rotZ s)∧(rotZ s).length≤c∧(∀ x,a=some x→x.spot=none)∧Below w.heap.size w w':=by
 refine (xQ s w hs).mono ?_
 rintro e w' ⟨v,rfl,ho,hb⟩
 obtain ⟨a,c,rfl,hc,hsp⟩:=ALn ho
 exact ⟨a,c,rfl,(Ints.ofOwn ho (by have:=(yL s hs).1;omega) (yL s hs).2).2,hc,hsp,hb⟩
def tkz (Z:List Nat) (k:Nat):List Nat:=Z.take k++List.replicate (Z.length-k) 0
theorem ADt (Z:List Nat):tkz Z 0=List.replicate Z.length 0:=by simp [tkz]
theorem AKn (Z:List Nat):tkz Z Z.length=Z:=by simp [tkz]
theorem AKq (Z:List Nat) (k:Nat) (h:k≤Z.length):(tkz Z k).length=Z.length:=by simp [tkz];omega
theorem AKd (Z:List Nat) (k:Nat) (h:k<Z.length):(tkz Z k).set k (Z.getD k 0)=tkz Z (k+1):=by
 unfold tkz
 have e:Z.length-k=Z.length-(k+1)+1:=by omega
 rw [List.set_append_right _ _ (by rw [List.length_take];omega),List.length_take,Nat.min_eq_left (by omega),Nat.sub_self,e,List.replicate_succ,List.set_cons_zero,List.take_add_one,List.append_assoc]
 congr 1
 simp [List.getD_eq_getElem?_getD,h]
def lstZ (s:ByteArray):ByteArray:=if 0<s.size∧s.size≤600 then Qg (QU (Qb s)) else ⟨#[]⟩
def fstZ (s:ByteArray):Int:=if 0<s.size∧s.size≤600 then (fstN (Qb s):Int) else -1
theorem AJz (s:ByteArray) (k r q:Nat) (hk:k<s.size) (hr:(rotO (Qb s)).getD k 0=r) (h:(r+s.size-1) % s.size=q) (hq:q<s.size):(QU (Qb s)).getD k 0=s[q].toNat:=by
 unfold QU
 have hl:k<(rotO (Qb s)).length:=by rw [XF,Qf];exact hk
 have e:(rotO (Qb s))[k]? = some r:=by
  rw [List.getElem?_eq_getElem hl]
  rw [List.getD_eq_getElem?_getD,List.getElem?_eq_getElem hl] at hr
  simpa using hr
 rw [List.getD_eq_getElem?_getD,List.getElem?_map,e]
 simp only [Option.map_some,Option.getD_some]
 rw [Qf,h,Zn]
 unfold Xr
 simp [hq]
 rfl
theorem XP (s:ByteArray) (w:World) (hs:s.size≤1048576) :
 Calls Tryz.prog 19 #[.string s] w fun e w'=>e=.returned (.tuple #[.string (lstZ s),.int .i64 (fstZ s)])∧Below w.heap.size w w':=by
 obtain ⟨i0,hi,hz0,hz1,hz2⟩:=info_parts Tryz.info5
 have KO:=Qa (fun W=>XL s W hs)
 have KR:=Qa (fun W=>xW s W hs)
 by_cases hok:0<s.size∧s.size≤600
 ·have hZ:rotZ s=ints (rotO (Qb s)):=by unfold rotZ;rw [if_pos hok]
  have hl:(rotO (Qb s)).length=s.size:=by rw [XF,Qf]
  have HR1:Hid (lstZ s=Qg (QU (Qb s))):=Qa (by unfold lstZ;rw [if_pos hok])
  have HR2:Hid (fstZ s=(fstN (Qb s):Int)):=Qa (by unfold fstZ;rw [if_pos hok])
  rw [hZ,Qj,hl] at KR
  rw [decide_eq_true hok] at KO
  obtain ⟨h1,h2⟩:=hok
  have HSR:=Qa (Jn (Qb s))
  have HLT:Hid (∀ k,k<s.size→(rotO (Qb s)).getD k 0<s.size):=Qa (fun k hk=>by
   have:=vH (Qb s) _ (ZE _ k (by rw [hl];exact hk))
   rwa [Qf] at this)
  have HLA:=Qa (fun k r q (a:k<s.size) b c d=>AJz s k r q a b c d)
  have HLL:Hid ((QU (Qb s)).length=s.size):=Qa (by rw [zN,Qf])
  have HUN:Hid (∀ i j,i<s.size→j<s.size→(rotO (Qb s)).getD i 0=0→(rotO (Qb s)).getD j 0=0→i=j):=Qa (fun i j hi hj e1 e2=>by
   have hn:(rotO (Qb s)).Nodup:=HSR.out.1.nodup_iff.2 List.nodup_range
   have hi':i<(rotO (Qb s)).length:=by rw [hl];exact hi
   have hj':j<(rotO (Qb s)).length:=by rw [hl];exact hj
   rw [List.getD_eq_getElem?_getD,List.getElem?_eq_getElem hi'] at e1
   rw [List.getD_eq_getElem?_getD,List.getElem?_eq_getElem hj'] at e2
   simp only [Option.getD_some] at e1 e2
   rcases Nat.lt_trichotomy i j with h | h | h
   ·exact absurd (e1.trans e2.symm) (List.pairwise_iff_getElem.1 hn i j hi' hj' h)
   ·exact h
   ·exact absurd (e2.trans e1.symm) (List.pairwise_iff_getElem.1 hn j i hj' hi' h))
  have HIX:Hid (fstN (Qb s)<s.size∧(rotO (Qb s)).getD (fstN (Qb s)) 0=0):=Qa (by
   have hm:0∈rotO (Qb s):=HSR.out.1.mem_iff.2 (List.mem_range.2 (by rw [Qf];exact h1))
   have:=List.idxOf_lt_length_of_mem hm
   rw [hl] at this
   exact ⟨this,zx _ hm⟩)
  clear hZ hl
  go_enter Tryz.func19,Tryz.ntmps19
  go_wp2_with fail
  refine (KO.out _).mono ?_
  rintro e w1 ⟨rfl,rfl⟩
  go_wp2_with fail
  refine (KR.out _).mono ?_
  rintro e w1 ⟨ar,cr,rfl,hIR,hcr,hsp,b1⟩
  have hs1:=b1.size
  have hIR:=Qa hIR
  clear hsp KO KR
  go_wp2_with (at_make;refine wpList_make_full _ rfl _ _ 61 rfl w1.heap.size 5 i0 (.int .u8 0) 1 Tryz.underlying61 hi hz0 hz1 .i64 .i64 _ _ s.size rfl rfl rfl rfl ?cc1 ?cc2 ?cc3 ?_)
  case cc1=>rw [hz2];omega
  case cc2=>unfold maxLen;omega
  case cc3=>exact Nat.le_refl _
  intro w2 hown hgrow
  rw [yi,←HLL.out,←ADt,HLL.out] at hown
  have hbl:=ZQ hgrow
  have hs2:=hbl.size
  clear hgrow
  obtain ⟨g,hg⟩:∃ g,w1.heap.size=g:=⟨_,rfl⟩
  rw [hg] at hown hbl hs2 hIR ⊢
  have hgw:w.heap.size≤g:=by omega
  replace b1:Below w.heap.size w w1:=b1
  go_wp2
  go_loopw [6,7] (fun sf sk wr=>∃ (k f:Nat),k≤s.size∧sk=.int .i64 k∧sf=.int .i64 f∧Hid (∀ j,j<k→(rotO (Qb s)).getD j 0=0→f=j)∧wr.ownsRow g 5 1 (.slice (some ⟨g,0,none⟩) s.size s.size) s.size (u8s (tkz (QU (Qb s)) k))∧Below g w1 wr) (fun _ sk _=>s.size-(intOf sk).toNat)
  case atStart=>exact ⟨0,0,Nat.zero_le _,rfl,rfl,Qa (fun j hj=>by omega),hown,hbl⟩
  case round =>
   clear hown hbl
   obtain ⟨k,f,hk,rfl,rfl,HF,hown,hbl⟩:=hrel
   by_cases hlt:k<s.size
   ·obtain ⟨b,off,rfl,hb,hc⟩:=(hIR.out.below hbl).2.2 (by rw [Qj,XF,Qf];exact h1)
    have ck:=hc k (by rw [Qj,XF,Qf];exact hlt)
    rw [XH] at ck
    obtain ⟨r,hr⟩:∃ r,(rotO (Qb s)).getD k 0=r:=⟨_,rfl⟩
    have hrs:=HLT.out k hlt
    obtain ⟨q,hq⟩:∃ q,(r+s.size-1) % s.size=q:=⟨_,rfl⟩
    have hq2:q<s.size:=by rw [←hq];exact Nat.mod_lt _ (by omega)
    have hqi:((r:Int)+(s.size:Int)-1) % (s.size:Int)=(q:Int):=by
     rw [←hq,show (r:Int)+(s.size:Int)-1=((r+s.size-1:Nat):Int) by omega];simp
    have hnn:0≤(r:Int)+(s.size:Int)-1:=by omega
    have hqt:((r:Int)+(s.size:Int)-1).tmod (s.size:Int)=(q:Int):=by rw [Int.tmod_eq_emod_of_nonneg hnn];exact hqi
    have HV:=Qa (HLA.out k r q hlt hr hq hq2)
    have HRK:=Qa hr
    rw [hr] at ck hrs
    have hZL:k<(tkz (QU (Qb s)) k).length:=by rw [AKq _ _ (by rw [HLL.out];exact hk),HLL.out];exact hlt
    have d0:=hown.cellAt k (by omega)
    rw [xt _ k hZL] at d0
    have f0:=hown.frozenAt k
    have HST:Hid ((tkz (QU (Qb s)) k).set k s[q].toNat=tkz (QU (Qb s)) (k+1)):=Qa (by rw [←HV.out];exact AKd _ k (by rw [HLL.out];exact hlt))
    obtain ⟨x0,hx0⟩:∃ x,(tkz (QU (Qb s)) k).getD k 0=x:=⟨_,rfl⟩
    rw [hx0] at d0
    have hownN:=(hown.stored k (.int .u8 (s[q].toNat:Int))).1
    rw [←xA,HST.out] at hownN
    have hblN:=hbl.setCell (p:=⟨g,k,none⟩) (Nat.le_refl _) (.int .u8 (s[q].toNat:Int))
    clear hx0 hown hbl hZL
    have ckw:b≠g:=by omega
    have ckw2:g≠b:=by omega
    clear hr hq hc
    by_cases r0:r=0
    ·have HF2:Hid (∀ j,j<k+1→(rotO (Qb s)).getD j 0=0→k=j):=Qa (fun j hj e=>HUN.out k j hlt (by omega) (HRK.out.trans r0) e)
     have hr1:((r:Int) == 0)=true:=by simp [r0]
     clear r0
     go_wp2
     go_roundw
     case rel=>exact ⟨k+1,k,by omega,by go_num,rfl,HF2,hownN,hblN⟩
     case measure=>simp [intOf];omega
    ·have hr1:((r:Int) == 0)=false:=by simp [r0]
     have HF2:Hid (∀ j,j<k+1→(rotO (Qb s)).getD j 0=0→f=j):=Qa (fun j hj e=>by
      rcases Nat.lt_or_ge j k with h | h
      ·exact HF.out j h e
      ·have:j=k:=by omega
       subst this
       exact absurd (HRK.out.symm.trans e) r0)
     clear r0
     go_wp2
     go_roundw
     case rel=>exact ⟨k+1,f,by omega,by go_num,rfl,HF2,hownN,hblN⟩
     case measure=>simp [intOf];omega
   ·have hke:k=s.size:=by omega
    subst hke
    have HE:Hid (f=fstN (Qb s)):=Qa (HF.out _ HIX.out.1 HIX.out.2)
    have hTZ:tkz (QU (Qb s)) s.size=QU (Qb s):=by have:=AKn (QU (Qb s));rwa [HLL.out] at this
    rw [hTZ] at hown
    have hrun:=JR hown
    have BB:=b1.trans (hbl.mono (by omega))
    clear hTZ hown hbl
    go_wp2
    exact bodyPost_ret (v:=.tuple #[.string (Qg (QU (Qb s))),.int .i64 f]) (by simp [results,Tryz.results19,go_sem]) rfl ⟨by rw [HR1.out,HR2.out,HE.out],BB⟩
 ·have HR1:Hid (lstZ s=⟨#[]⟩):=Qa (by unfold lstZ;rw [if_neg hok])
  have HR2:Hid (fstZ s=-1):=Qa (by unfold fstZ;rw [if_neg hok])
  rw [HR1.out,HR2.out]
  rw [decide_eq_false hok] at KO
  clear hok
  go_enter Tryz.func19,Tryz.ntmps19
  go_wp2_with fail
  refine (KO.out _).mono ?_
  rintro e w1 ⟨rfl,rfl⟩
  go_wp2
  exact bodyPost_ret (v:=.tuple #[.string ⟨#[]⟩,.int .i64 (-1)]) (by simp [results,Tryz.results19,go_sem]) rfl ⟨rfl,Below.refl _ _⟩
noncomputable def ordB (l:List Nat) (b:Bool):List Nat:=if b=true then Classical.epsilon (QO l) else Qm l
theorem jq {l R:List Nat} (h:QO l R):ordB l true=R:=by
 unfold ordB
 rw [if_pos rfl]
 exact ACy (Classical.epsilon_spec ⟨R,h⟩) h
theorem zH (l:List Nat):ordB l false=Qm l:=by simp [ordB]
def rkS (s:ByteArray) (R:List Nat):List Int:=rkL (Qb (lstZ s)) R
def stgR (L:List Int) (m:Int) (n:Int):List Int:=if m=1 then ZP (mtfZ L n) n else if m=2 then ZP (sbrZ L n) n else if m=3 then invC L n++invG L n else []
noncomputable def stgZ (s:ByteArray) (m:Int) (b:Bool) (t:Int):List Int:=if 0<s.size∧s.size≤600∧QH m b t=true then stgR (rkS s (ordB (Qb s) b)) m ((ordB (Qb s) b).length:Int) else []
theorem AYf (S O:List Nat) (hO:Byt O):(rkL S O).length≤600∧∀ x∈rkL S O,0≤x∧x≤1000:=by
 unfold rkL
 by_cases h:rkOk S O=true
 ·rw [if_pos h]
  have h2:=(XD S O).1 h
  unfold rkTo
  rw [List.take_length]
  refine ⟨by rw [List.length_map];exact h2.1,fun x hx=>?_⟩
  obtain ⟨b,hb,rfl⟩:=List.mem_map.1 hx
  have h3:=List.idxOf_lt_length_of_mem (h2.2.2 b hb)
  have h5:=QK hO ((Xw _).1 h2.2.1).2
  omega
 ·rw [if_neg h];simp
theorem Vi {L:List Nat} {m k:Nat} (hl:L.length≤k) (h:∀ x∈L,x<m) (hm:m≤1001):(ints L).length≤k∧∀ x∈ints L,0≤x∧x≤1000:=by
 refine ⟨by rw [Qj];exact hl,fun x hx=>?_⟩
 obtain ⟨y,hy,rfl⟩:=List.mem_map.1 hx
 have:=h y hy
 omega
theorem AEb (z:List Int) (n:Int):(mtfZ z n).length≤600∧∀ x∈mtfZ z n,0≤x∧x≤1000:=by
 by_cases hok:rOk z n=true
 ·obtain ⟨L,m,rfl,rfl,hm1,hm2,hL6,hLm⟩:=Za hok
  rw [JS hok]
  exact Vi (by rw [Xc];exact hL6) (AEi hLm) (by omega)
 ·rw [vR (by simpa using hok)];simp
theorem ADy (z:List Int) (n:Int):(sbrZ z n).length≤600∧∀ x∈sbrZ z n,0≤x∧x≤1000:=by
 by_cases hok:rOk z n=true
 ·obtain ⟨L,m,rfl,rfl,hm1,hm2,hL6,hLm⟩:=Za hok
  rw [Vc hok]
  exact Vi (by rw [Xc];exact hL6) (ARg hLm) (by omega)
 ·rw [AKo (by simpa using hok)];simp
theorem ABe (z:List Int) (n:Int):(ZP z n).length≤601∧∀ x∈ZP z n,0≤x∧x≤1000:=by
 by_cases hok:rOk z n=true
 ·obtain ⟨L,m,rfl,rfl,hm1,hm2,hL6,hLm⟩:=Za hok
  rw [VJ hok]
  refine Vi (m:=1001) (by rw [List.length_append];have:=Jw L 0;simp;omega) (fun d hd=>?_) (by omega)
  rcases List.mem_append.1 hd with hd | hd
  ·have:=qN m L 0 hLm d hd;omega
  ·rw [List.mem_singleton.1 hd];omega
 ·rw [jD (by simpa using hok)];simp
theorem AEe (z:List Int) (n:Int):(invC z n).length≤256∧∀ x∈invC z n,0≤x∧x≤1000:=by
 by_cases hok:rOk z n=true
 ·obtain ⟨L,m,rfl,rfl,hm1,hm2,hL6,hLm⟩:=Za hok
  rw [jX hok]
  refine Vi (m:=1001) (by rw [List.length_map,List.length_range];omega) (fun x hx=>?_) (by omega)
  obtain ⟨y,_,rfl⟩:=List.mem_map.1 hx
  have:=List.count_le_length (a:=y) (l:=L)
  omega
 ·rw [AJp (by simpa using hok)];simp
theorem AGw (z:List Int) (n:Int):(invG z n).length≤600∧∀ x∈invG z n,0≤x∧x≤1000:=by
 by_cases hok:rOk z n=true
 ·obtain ⟨L,m,rfl,rfl,hm1,hm2,hL6,hLm⟩:=Za hok
  rw [jJ hok]
  exact Vi (m:=1001) (Nat.le_trans (VE hLm (by omega)) hL6) (fun x hx=>by have:=ALu hx;omega) (by omega)
 ·rw [AKs (by simpa using hok)];simp
theorem AVn (L:List Int) (m n:Int):(stgR L m n).length≤900∧∀ x∈stgR L m n,0≤x∧x≤1000:=by
 unfold stgR
 by_cases h1:m=1
 ·rw [if_pos h1];have:=ABe (mtfZ L n) n;exact ⟨by omega,this.2⟩
 rw [if_neg h1]
 by_cases h2:m=2
 ·rw [if_pos h2];have:=ABe (sbrZ L n) n;exact ⟨by omega,this.2⟩
 rw [if_neg h2]
 by_cases h3:m=3
 ·rw [if_pos h3]
  have h4:=AEe L n
  have h5:=AGw L n
  refine ⟨by rw [List.length_append];omega,fun x hx=>?_⟩
  rcases List.mem_append.1 hx with h | h
  ·exact h4.2 x h
  ·exact h5.2 x h
 rw [if_neg h3];simp
theorem JZ (s:ByteArray) (m:Int) (b:Bool) (t:Int):(stgZ s m b t).length≤900∧∀ x∈stgZ s m b t,0≤x∧x≤1000:=by
 unfold stgZ
 split
 ·exact AVn _ _ _
 ·simp
theorem Xk (l:List Nat):Byt (Qm l):=fun b hb=>by
 have:=(List.mem_filter.1 hb).1
 exact List.mem_range.1 this
end Go.Proofs.YtembljihmnmmfaaGreat
