/- Texts of the proof, merged. -/
import Derived.Deep.RegionHeld3
import Derived.Deep.DrawnRows
import Derived.Test.YtembljihmnmmfaaGreatKB24
import Derived.Test.YtembljihmnmmfaaGreatKB14
import Derived.Test.YtembljihmnmmfaaGreatKB6
import Derived.Test.YtembljihmnmmfaaGreatKB7
import Derived.Test.YtembljihmnmmfaaGreatKB3
import Derived.Test.YtembljihmnmmfaaGreatKB2
import Derived.RegionTactic
import Derived.ChangeAlike
namespace Go.Proofs.YtembljihmnmmfaaGreat
set_option linter.unusedVariables false
set_option linter.unusedSimpArgs false
open Go.RowKit
theorem Vf {S G:List Int} {T:List (List Int)} (h:cdOk S T G=true):CdArg S T G (tbN T):=by
 obtain ⟨h1,h2,h3,h4⟩:=(qP S T G).1 h
 obtain ⟨⟨h5,h6⟩,h7⟩:=(Xl _ _).1 h1
 obtain ⟨_,h10,h11⟩:=(XR _ _).1 h2
 exact ⟨fun j hj=>⟨by have:=(h7 j hj).1;omega,(h7 j hj).2⟩,((QZ _ _).1 h4).2,h3,h11⟩
theorem AJt {S:List Int} {T:List (List Int)} {G:List Int} {n g:Nat} (hA:CdArg S T G n) (hg:g<G.length):∀ c,c≤10→bitF S (T.getD (G.getD g 0).toNat []) (10*g) c+(cpN S T G (min (10*g) S.length):Int)=(cpN S T G (min (10*g+c) S.length):Int)
 | 0,_=>by simp [bitF]
 | c+1,hc=>by
   have ih:=AJt hA hg c (by omega)
   have e:bitF S (T.getD (G.getD g 0).toNat []) (10*g) (c+1)=bitF S (T.getD (G.getD g 0).toNat []) (10*g) c+if 10*g+c<S.length then (T.getD (G.getD g 0).toNat []).getD (S.getD (10*g+c) 0).toNat 0 else 0:=rfl
   by_cases h:10*g+c<S.length
   ·rw [e,if_pos h,show min (10*g+(c+1)) S.length=(10*g+c)+1 by omega]
    rw [show min (10*g+c) S.length=10*g+c by omega] at ih
    obtain ⟨k,x,hk,hx,e1,e2,e3,_⟩:=hA.of h
    obtain ⟨t1,t2⟩:=hA.tab k hk
    have hd:(10*g+c) / 10=g:=by omega
    rw [hd] at e1
    have et:Jk T G (10*g+c)=T.getD (G.getD g 0).toNat []:=by unfold Jk;rw [hd]
    have h3:cpN S T G ((10*g+c)+1)=cpN S T G (10*g+c)+lnF (Jk T G (10*g+c)) (S.getD (10*g+c) 0).toNat:=rfl
    have hlen:(T.getD (G.getD g 0).toNat []).length=n:=by rw [e1,Int.toNat_natCast];exact t1
    have hlo:lOk (T.getD (G.getD g 0).toNat [])=true:=by rw [e1,Int.toNat_natCast];exact t2
    have h2:=YQ (Zq hlo) (S.getD (10*g+c) 0).toNat (by rw [hlen,e2,Int.toNat_natCast];exact hx)
    rw [h2,h3,et]
    omega
   ·rw [e,if_neg h,show min (10*g+(c+1)) S.length=min (10*g+c) S.length by omega]
    omega
theorem ANw {S:List Int} {T:List (List Int)} {G:List Int} {n:Nat} (hA:CdArg S T G n):∀ g,g≤G.length→cbF S T G g=(cpN S T G (min (10*g) S.length):Int)
 | 0,_=>by simp [cbF,cpN]
 | g+1,hg=>by
   have ih:=ANw hA g (by omega)
   have e:cbF S T G (g+1)=cbF S T G g+bitG S (T.getD (G.getD g 0).toNat []) g:=rfl
   have h:=AJt hA (show g<G.length by omega) 10 (by omega)
   rw [e,ih]
   show _+bitF S (T.getD (G.getD g 0).toNat []) (10*g) 10=_
   rw [show 10*(g+1)=10*g+10 by omega,←h]
   omega
theorem ANs {S:List Int} {T:List (List Int)} {G:List Int} (h:cdOk S T G=true):cbZ S T G=(cpN S T G S.length:Int):=by
 have hA:=Vf h
 unfold cbZ
 rw [if_pos h,ANw hA _ (Nat.le_refl _),show min (10*G.length) S.length=S.length by rw [hA.len];unfold grp;omega]
theorem Tabs.keep {w w':World} {B:Nat} {a:Option Addr} {T:List (List Int)} (h:Tabs w B a T) (hk:∀ p:Addr,p.block<B→w'.cell? p=w.cell? p):Tabs w' B a T :=
 ⟨h.1,fun h0=>by
  obtain ⟨b,off,e,hB,hc⟩:=h.2 h0
  refine ⟨b,off,e,hB,fun i hi=>?_⟩
  obtain ⟨v,hv,a2,c2,e2,h1,h2⟩:=hc i hi
  exact ⟨v,(hk ⟨b,off+i,none⟩ hB).trans hv,a2,c2,e2,h1,h2.keep hk⟩⟩
def gdOk (T:List (List Int)) (G:List Int):Bool:=tbOk T (tbN T) && (decide (G.length≤600) && Zi T.length G)
theorem jP (T:List (List Int)) (G:List Int):gdOk T G=true↔tbOk T (tbN T)=true∧G.length≤600∧Zi T.length G=true:=by
 unfold gdOk;rw [Bool.and_eq_true,Bool.and_eq_true,decide_eq_true_eq]
end Go.Proofs.YtembljihmnmmfaaGreat
