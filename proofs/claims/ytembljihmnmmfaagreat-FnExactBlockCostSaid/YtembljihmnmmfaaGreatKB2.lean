/- Texts of the proof, merged. -/
import Derived.Laws.BitsAllLaws
import Derived.IntWalk
import Derived.RowKit
import Derived.Test.YtembljihmnmmfaaGreatProg
import Derived.WalkKit
import Derived.ProofKit
import Derived.OpenShut
import Derived.ShutString
import Derived.ChangeOld
import Derived.Below
import Derived.Carry
import Derived.Lib.SmallJoins
import Derived.Deep.Draws
import Derived.OwnWalk
import Derived.Laws.OwnMore
import Derived.Laws.Rows
import Derived.Laws.BytesString
import Derived.OneCell
import Derived.Maps.OwnSet
import Derived.Maps.OwnOps
set_option maxHeartbeats 1000000
set_option maxRecDepth 100000
namespace Go.Proofs.YtembljihmnmmfaaGreat
set_option linter.unusedVariables false
set_option linter.unusedSimpArgs false
theorem YJ (n:Nat) (h:n<9223372036854775808):IntKind.i64.wrap (n:Int)=(n:Int):=IntWalk.i64_in _ (by omega)
theorem qG (a b:Nat) (ha:a<4611686018427387904) (hb:b<4611686018427387904):bits .or .i64 (a:Int) (b:Int)=((a ||| b:Nat):Int):=by
 show IntKind.i64.wrap ((BitVec.ofInt 64 (a:Int) ||| BitVec.ofInt 64 (b:Int)).toNat:Int)=_
 rw [BitVec.toNat_or,ofInt_u64 a (by omega),ofInt_u64 b (by omega)]
 exact YJ _ (Nat.lt_of_lt_of_le (Nat.or_lt_two_pow (n:=62) (by omega) (by omega)) (by omega))
theorem AIj (a b:Nat) (ha:a<4611686018427387904) (hb:b<4611686018427387904):bits .xor .i64 (a:Int) (b:Int)=((a ^^^ b:Nat):Int):=by
 show IntKind.i64.wrap ((BitVec.ofInt 64 (a:Int) ^^^ BitVec.ofInt 64 (b:Int)).toNat:Int)=_
 rw [BitVec.toNat_xor,ofInt_u64 a (by omega),ofInt_u64 b (by omega)]
 exact YJ _ (Nat.lt_of_lt_of_le (Nat.xor_lt_two_pow (n:=62) (by omega) (by omega)) (by omega))
theorem ju (a b:Nat) (ha:a<9223372036854775808) (hb:b<9223372036854775808):bits .and .i64 (a:Int) (b:Int)=((a &&& b:Nat):Int):=by
 show IntKind.i64.wrap ((BitVec.ofInt 64 (a:Int) &&& BitVec.ofInt 64 (b:Int)).toNat:Int)=_
 rw [BitVec.toNat_and,ofInt_u64 a (by omega),ofInt_u64 b (by omega)]
 exact YJ _ (Nat.lt_of_le_of_lt Nat.and_le_left (by omega))
theorem ASz (n:Int) (k:Nat) (hk:k<63):bits .and .i64 n ((2^k-1:Nat):Int)=n % ((2^k:Nat):Int):=by
 have hp:2^k<2^63:=Nat.pow_lt_pow_right (by omega) hk
 have hp0:0<2^k:=Nat.two_pow_pos k
 have hd:(2^k:Nat) ∣ 2^64:=Nat.pow_dvd_pow 2 (by omega)
 show IntKind.i64.wrap ((BitVec.ofInt 64 n &&& BitVec.ofInt 64 ((2^k-1:Nat):Int)).toNat:Int)=_
 rw [BitVec.toNat_and,ofInt_u64 (2^k-1) (by omega),BitVec.toNat_ofInt,Nat.and_two_pow_sub_one_eq_mod]
 have e:((((n % ((2^64:Nat):Int)).toNat % 2^k:Nat)):Int)=n % ((2^k:Nat):Int):=by
  rw [Int.natCast_emod,Int.toNat_of_nonneg (Int.emod_nonneg _ (by decide))]
  exact Int.emod_emod_of_dvd _ (Int.natCast_dvd_natCast.2 hd)
 rw [YJ _ (Nat.lt_trans (Nat.mod_lt _ hp0) (by omega)),e]
def Xr (s:ByteArray) (j:Nat):Nat:=(s.data.toList.getD j 0).toNat
theorem Xi (s:ByteArray) (j:Nat) (h:j<s.size):s[j].toNat=Xr s j:=by
 unfold Xr
 have h':j<s.data.toList.length:=by simpa using h
 rw [List.getD_eq_getElem?_getD,List.getElem?_eq_getElem h']
 rfl
theorem zC (s:ByteArray) (j:Nat):Xr s j<256:=UInt8.toNat_lt _
def bit (s:ByteArray) (k:Nat):Nat:=Xr s (k / 8) / 2^(7-k % 8) % 2
theorem AZf (s:ByteArray) (k:Nat):bit s k<2:=Nat.mod_lt _ (by omega)
def row (s:ByteArray) (a n:Nat):List Nat:=(List.range n).map fun i=>bit s (a+i)
theorem ZY (s:ByteArray) (a n:Nat):(row s a n).length=n:=by simp [row]
theorem jZ (s:ByteArray) (a n:Nat):row s a (n+1)=row s a n++[bit s (a+n)]:=by simp [row,List.range_succ]
theorem xy (s:ByteArray) (a n m:Nat):row s a (n+m)=row s a n++row s (a+n) m:=by
 induction m with
 | zero=>simp [row]
 | succ m ih=>rw [←Nat.add_assoc,jZ,ih,jZ,List.append_assoc,Nat.add_assoc]
theorem qI (s:ByteArray) (a n:Nat):∀ b∈row s a n,b<2:=by
 intro b hb
 simp only [row,List.mem_map] at hb
 obtain ⟨i,_,rfl⟩:=hb
 exact AZf _ _
def num (l:List Nat):Nat:=l.foldl (fun v b=>2*v+b) 0
theorem ACb (l:List Nat) (v:Nat):l.foldl (fun v b=>2*v+b) v=v*2^l.length+num l:=by
 induction l generalizing v with
 | nil=>simp [num]
 | cons b l ih =>
   have e:num (b::l)=b*2^l.length+num l:=by show l.foldl _ (2*0+b)=_;rw [ih];simp
   rw [List.foldl_cons,ih,e,List.length_cons,Nat.pow_succ,Nat.add_mul]
   have:2*v*2^l.length=v*(2^l.length*2):=by rw [Nat.mul_comm 2 v,Nat.mul_assoc,Nat.mul_comm 2]
   omega
theorem JQ (l m:List Nat):num (l++m)=num l*2^m.length+num m:=by
 unfold num;rw [List.foldl_append,ACb];rfl
theorem ATt (l:List Nat) (b:Nat):num (l++[b])=2*num l+b:=by rw [JQ];simp [num];omega
theorem YV (l:List Nat) (h:∀ b∈l,b<2):num l<2^l.length:=by
 induction l with
 | nil=>simp [num]
 | cons b l ih =>
   have e:num (b::l)=b*2^l.length+num l:=by show l.foldl _ (2*0+b)=_;rw [ACb];simp
   have h1:=ih fun c hc=>h c (by simp [hc])
   have h2:=h b (by simp)
   have h3:b*2^l.length≤1*2^l.length:=Nat.mul_le_mul_right _ (by omega)
   rw [e,List.length_cons,Nat.pow_succ]
   omega
theorem qX (s:ByteArray) (a n:Nat):num (row s a n)<2^n:=by
 have:=YV (row s a n) (qI s a n)
 rwa [ZY] at this
theorem AEc (s:ByteArray) (a n:Nat):num (row s a (n+1))=2*num (row s a n)+bit s (a+n):=by rw [jZ,ATt]
theorem jj (s:ByteArray) (a k:Nat) (h:a % 8+k≤8):num (row s a k)=Xr s (a / 8) / 2^(8-a % 8-k) % 2^k:=by
 induction k with
 | zero=>simp [row,num,Nat.mod_one]
 | succ k ih =>
   have h1:(a+k) / 8=a / 8:=by omega
   have h2:7-(a+k) % 8=8-a % 8-(k+1):=by omega
   have h3:8-a % 8-k=8-a % 8-(k+1)+1:=by omega
   rw [AEc,ih (by omega),bit,h1,h2,h3,Nat.pow_succ 2 k,Nat.mul_comm (2^k) 2,Nat.mod_mul,Nat.pow_succ,←Nat.div_div_eq_div_mul]
   omega
theorem QT (n:Nat) (h:n<9223372036854775808):RowKit.wrap64 (n:Int)=(n:Int):=IntWalk.wrap64_in _ (by omega)
theorem AZq (v k y:Nat) (hv:v<2^32) (hk:k≤8) (hy:y<2^k):bits .or .i64 (RowKit.wrap64 ((v:Int)*2^k)) (y:Int)=((v*2^k+y:Nat):Int):=by
 have h8:2^k≤2^8:=Nat.pow_le_pow_right (by omega) hk
 have h1:v*2^k≤2^32*2^8:=Nat.mul_le_mul (by omega) h8
 have e:((v:Int)*2^k)=((v*2^k:Nat):Int):=by simp
 rw [e,QT _ (by omega),qG _ _ (by omega) (by omega),nat_join k _ _ (Nat.mul_mod_left _ _) hy]
theorem AEf (x k:Nat) (hk:k≤8) (hx:x<4611686018427387904):bits .and .i64 (x:Int) (RowKit.wrap64 (RowKit.wrap64 (2^k)-1))=((x % 2^k:Nat):Int):=by
 have h8:2^k≤2^8:=Nat.pow_le_pow_right (by omega) hk
 have h0:0<2^k:=Nat.two_pow_pos k
 have e:((2:Int)^k)=((2^k:Nat):Int):=by simp
 rw [e,QT _ (by omega),show (((2^k:Nat):Int)-1)=((2^k-1:Nat):Int) by omega,QT _ (by omega),ju _ _ (by omega) (by omega),Nat.and_two_pow_sub_one_eq_mod]
theorem ABc (s:ByteArray) (at0 i p k:Nat) (h2:p=at0+i) (hi:i≤32) (hk:k≤8-p % 8) (hp:p / 8<s.size) :
 bits .or .i64 (RowKit.wrap64 ((num (row s at0 i):Int)*2^k)) (bits .and .i64 (RowKit.wrap64 (s[p / 8].toNat:Int) / 2^(8-p % 8-k)) (RowKit.wrap64 (RowKit.wrap64 (2^k)-1)))=((num (row s at0 (i+k)):Nat):Int):=by
 have hb:s[p / 8].toNat<256:=UInt8.toNat_lt _
 have e1:RowKit.wrap64 (s[p / 8].toNat:Int) / 2^(8-p % 8-k)=((s[p / 8].toNat / 2^(8-p % 8-k):Nat):Int):=by
  rw [QT _ (by omega)];simp
 have hd:s[p / 8].toNat / 2^(8-p % 8-k)≤s[p / 8].toNat:=Nat.div_le_self _ _
 have hv:num (row s at0 i)<2^32:=Nat.lt_of_lt_of_le (qX s at0 i) (Nat.pow_le_pow_right (by omega) hi)
 rw [e1,AEf _ _ (by omega) (by omega),AZq _ _ _ hv (by omega) (Nat.mod_lt _ (Nat.two_pow_pos k)),Xi,←jj s p k (by omega),xy,JQ,ZY,h2]
theorem ADf (s:ByteArray) (at0 i p:Nat) (h2:p=at0+i) (hi:i≤32) (hp:p / 8<s.size) :
 bits .or .i64 (RowKit.wrap64 ((num (row s at0 i):Int)*2^(8-p % 8))) (bits .and .i64 (RowKit.wrap64 (s[p / 8].toNat:Int)) (RowKit.wrap64 (RowKit.wrap64 (2^(8-p % 8))-1)))=((num (row s at0 (i+(8-p % 8))):Nat):Int):=by
 have h:=ABc s at0 i p (8-p % 8) h2 hi (Nat.le_refl _) hp
 rw [Nat.sub_self,Int.pow_zero,Int.ediv_one] at h
 exact h
def okB (s:ByteArray) (n:Int):Bool:=decide (0≤n∧n≤400000∧s.size=(n.toNat+7) / 8∧∀ k,k<8*s.size→n.toNat≤k→bit s k=0)
theorem AKr (s:ByteArray) (n:Int):okB s n=true↔0≤n∧n≤400000∧s.size=(n.toNat+7) / 8∧∀ k,k<8*s.size→n.toNat≤k→bit s k=0:=by simp [okB]
theorem YP (s:ByteArray) (n:Nat):okB s n=true↔n≤400000∧s.size=(n+7) / 8∧∀ k,k<8*s.size→n≤k→bit s k=0:=by
 rw [AKr];simp;omega
theorem AMl:∀ m:Fin 8,∀ x:Fin 256,0<m.val→((x.val*2^m.val % 256=0)↔∀ r:Fin 8,m.val≤r.val→x.val / 2^(7-r.val) % 2=0):=by decide +kernel
theorem AOh (s:ByteArray) (n:Nat) (hs:s.size=(n+7) / 8) (hm:n % 8≠0):(Xr s (s.size-1)*2^(n % 8) % 256=0)↔∀ k,k<8*s.size→n≤k→bit s k=0:=by
 have h:=AMl ⟨n % 8,by omega⟩ ⟨Xr s (s.size-1),zC _ _⟩ (by simp;omega)
 simp only at h
 rw [h]
 constructor
 ·intro g k hk hn
  have e:k / 8=s.size-1:=by omega
  have:=g ⟨k % 8,by omega⟩ (by simp;omega)
  simp only at this
  rw [bit,e];exact this
 ·intro g r hr
  have:=g (8*(s.size-1)+r.val) (by omega) (by omega)
  rw [bit] at this
  rwa [show (8*(s.size-1)+r.val) / 8=s.size-1 by omega,show (8*(s.size-1)+r.val) % 8=r.val by omega] at this
theorem JO (l m:List Nat) (j:Nat) (h:j<l.length):(l++m).getD j 0=l.getD j 0:=by
 simp [List.getD_eq_getElem?_getD,List.getElem?_append,h]
theorem qz (l m:List Nat) (j:Nat) (h:l.length≤j):(l++m).getD j 0=m.getD (j-l.length) 0:=by
 simp [List.getD_eq_getElem?_getD,List.getElem?_append,show ¬ j<l.length by omega]
def bitL (D:List Nat) (j:Nat):Nat:=D.getD (j / 8) 0 / 2^(7-j % 8) % 2
structure Packs (D l:List Nat):Prop where
 len:D.length=(l.length+7) / 8
 small:∀ j,D.getD j 0<256
 bits:∀ j,j<8*D.length→bitL D j=l.getD j 0
theorem AUf (x y:Nat) (hx:x<256) (hy:y<256) (h:∀ r,r<8→x / 2^(7-r) % 2=y / 2^(7-r) % 2):x=y:=by
 have h0:=h 0 (by omega);have h1:=h 1 (by omega);have h2:=h 2 (by omega);have h3:=h 3 (by omega)
 have h4:=h 4 (by omega);have h5:=h 5 (by omega);have h6:=h 6 (by omega);have h7:=h 7 (by omega)
 simp at h0 h1 h2 h3 h4 h5 h6 h7
 omega
theorem Packs.unique {D D' l:List Nat} (h:Packs D l) (h':Packs D' l):D=D':=by
 apply List.ext_getElem (h.len.trans h'.len.symm)
 intro j h1 h2
 have e1:D.getD j 0=D[j]:=by simp [List.getD_eq_getElem?_getD,h1]
 have e2:D'.getD j 0=D'[j]:=by simp [List.getD_eq_getElem?_getD,h2]
 rw [←e1,←e2]
 refine AUf _ _ (h.small j) (h'.small j) fun r hr=>?_
 have a:=h.bits (8*j+r) (by omega)
 have b:=h'.bits (8*j+r) (by omega)
 unfold bitL at a b
 rw [show (8*j+r) / 8=j by omega,show (8*j+r) % 8=r by omega] at a b
 rw [a,b]
def Qh (y k:Nat):List Nat:=(List.range k).map fun i=>y / 2^(k-1-i) % 2
theorem Qt (y k:Nat):(Qh y k).length=k:=by simp [Qh]
theorem Vz (y k j:Nat) (h:j<k):(Qh y k).getD j 0=y / 2^(k-1-j) % 2:=by simp [Qh,List.getD_eq_getElem?_getD,h]
theorem Jz (v a b:Nat):Qh v (a+b)=Qh (v / 2^b) a++Qh (v % 2^b) b:=by
 apply List.ext_getElem (by simp [Qt])
 intro j h1 h2
 rw [Qt] at h1
 have g:∀ (l:List Nat) (h:j<l.length),l[j]=l.getD j 0:=fun l h=>by simp [List.getD_eq_getElem?_getD,h]
 rw [g,g,Vz _ _ _ h1]
 by_cases hj:j<a
 ·rw [JO _ _ _ (by rw [Qt];exact hj),Vz _ _ _ hj,Nat.div_div_eq_div_mul,←Nat.pow_add,show b+(a-1-j)=a+b-1-j by omega]
 ·rw [qz _ _ _ (by rw [Qt];omega),Qt,Vz _ _ _ (by omega),show a+b-1-j=b-1-(j-a) by omega]
  have hp:v % 2^b / 2^(b-1-(j-a)) % 2=v / 2^(b-1-(j-a)) % 2:=by
   have e:2^b=2^(b-1-(j-a))*2^(b-(b-1-(j-a))):=by rw [←Nat.pow_add];congr 1;omega
   rw [e,Nat.mod_mul_right_div_self]
   have e2:2^(b-(b-1-(j-a)))=2*2^(b-(b-1-(j-a))-1):=by rw [←Nat.pow_succ'];congr 1;omega
   rw [e2,Nat.mod_mul_right_mod]
  exact hp.symm
theorem AXl:∀ x:Fin 256,∀ r:Fin 8,∀ b:Fin 2,∀ q:Fin 8,x.val / 2^(7-r.val) % 2=0→(x.val ||| b.val*2^(7-r.val)) / 2^(7-q.val) % 2=if q.val=r.val then b.val else x.val / 2^(7-q.val) % 2:=by decide +kernel
theorem ASo (x y:Nat) (hx:x<256) (hy:y<256):x ||| y<256:=Nat.or_lt_two_pow (n:=8) hx hy
theorem ATx {D l:List Nat} {m:Nat} (b:Nat) (hb:b<2) (hm:D.length=m) (hs:∀ j,D.getD j 0<256) (hk:l.length<8*m) (hbits:∀ j,j<8*m→bitL D j=l.getD j 0) :
 (∀ j,(D.set (l.length / 8) (D.getD (l.length / 8) 0 ||| b*2^(7-l.length % 8))).getD j 0<256) ∧
 ∀ j,j<8*m→bitL (D.set (l.length / 8) (D.getD (l.length / 8) 0 ||| b*2^(7-l.length % 8))) j=(l++[b]).getD j 0:=by
 have hl8:l.length / 8<D.length:=by omega
 have hp:b*2^(7-l.length % 8)<256:=by
  have:2^(7-l.length % 8)≤2^7:=Nat.pow_le_pow_right (by omega) (by omega)
  have:b*2^(7-l.length % 8)≤1*2^7:=Nat.mul_le_mul (by omega) this
  omega
 have hset:∀ j,(D.set (l.length / 8) (D.getD (l.length / 8) 0 ||| b*2^(7-l.length % 8))).getD j 0=if l.length / 8=j then D.getD (l.length / 8) 0 ||| b*2^(7-l.length % 8) else D.getD j 0:=by
  intro j
  rw [List.getD_eq_getElem?_getD,List.getElem?_set]
  by_cases h:l.length / 8=j
  ·simp [h,show j<D.length by omega]
  ·simp [h,List.getD_eq_getElem?_getD]
 constructor
 ·intro j
  rw [hset]
  by_cases h:l.length / 8=j
  ·rw [if_pos h];exact ASo _ _ (hs _) hp
  ·rw [if_neg h];exact hs j
 ·intro j hj
  unfold bitL
  rw [hset]
  have old:=hbits j hj
  unfold bitL at old
  by_cases h:l.length / 8=j / 8
  ·rw [if_pos h]
   have z:=hbits l.length hk
   unfold bitL at z
   rw [List.getD_eq_getElem?_getD (l:=l),List.getElem?_eq_none (Nat.le_refl _)] at z
   have g:=AXl ⟨D.getD (l.length / 8) 0,hs _⟩ ⟨l.length % 8,by omega⟩ ⟨b,hb⟩ ⟨j % 8,by omega⟩ (by simpa using z)
   simp only at g
   rw [g]
   by_cases e:j=l.length
   ·subst e;rw [if_pos rfl];simp [List.getD_eq_getElem?_getD]
   ·rw [if_neg (by omega),h,old]
    by_cases hlt:j<l.length
    ·rw [JO _ _ _ hlt]
    ·simp [List.getD_eq_getElem?_getD,List.getElem?_append,hlt,show l.length≤j by omega,show ¬ (j-l.length<1) by omega]
  ·rw [if_neg h,old]
   by_cases hlt:j<l.length
   ·rw [JO _ _ _ hlt]
   ·simp [List.getD_eq_getElem?_getD,List.getElem?_append,hlt,show l.length≤j by omega,show ¬ (j-l.length<1) by omega]
def Qg (D:List Nat):ByteArray:=⟨(D.map UInt8.ofNat).toArray⟩
def Qb (s:ByteArray):List Nat:=s.data.toList.map UInt8.toNat
theorem Qf (s:ByteArray):(Qb s).length=s.size:=by simp [Qb]
theorem Zn (s:ByteArray) (j:Nat):(Qb s).getD j 0=Xr s j:=by
 unfold Qb Xr
 rw [List.getD_eq_getElem?_getD,List.getD_eq_getElem?_getD,List.getElem?_map]
 cases s.data.toList[j]? <;> rfl
theorem zS (s:ByteArray) (j:Nat):bitL (Qb s) j=bit s j:=by unfold bitL bit;rw [Zn]
theorem Yv (s:ByteArray):Qg (Qb s)=s:=by
 unfold Qg Qb
 rw [List.map_map]
 have:(UInt8.ofNat ∘ UInt8.toNat)=id:=by funext x;simp
 rw [this,List.map_id]
theorem zg (D:List Nat) (h:∀ j,D.getD j 0<256):Qb (Qg D)=D:=by
 unfold Qg Qb
 apply List.ext_getElem (by simp)
 intro j h1 h2
 have:=h j
 have e:D.getD j 0=D[j]:=by simp [List.getD_eq_getElem?_getD,h2]
 rw [e] at this
 simp;omega
theorem zy {s:ByteArray} {n:Nat} (h:okB s n=true):Packs (Qb s) (row s 0 n):=by
 rw [YP] at h
 obtain ⟨h1,h2,h3⟩:=h
 refine ⟨by rw [Qf,ZY,h2],fun j=>by rw [Zn];exact zC _ _,fun j hj=>?_⟩
 rw [Qf] at hj
 rw [zS]
 by_cases hlt:j<n
 ·simp [row,List.getD_eq_getElem?_getD,hlt]
 ·rw [h3 j hj (by omega)];simp [row,List.getD_eq_getElem?_getD,hlt]
theorem QB (D:List Nat):(Qg D).size=D.length:=by show (D.map UInt8.ofNat).toArray.size=_;simp
theorem ZZ {D l:List Nat} (h:Packs D l) (hl:l.length≤400000):okB (Qg D) l.length=true∧row (Qg D) 0 l.length=l:=by
 have hb:∀ j,bit (Qg D) j=bitL D j:=fun j=>by rw [←zS,zg D h.small]
 have hlen:=h.len
 constructor
 ·rw [YP,QB]
  refine ⟨hl,hlen,fun k hk hn=>?_⟩
  rw [hb,h.bits k hk];simp [List.getD_eq_getElem?_getD,hn]
 ·apply List.ext_getElem (by rw [ZY])
  intro j h1 h2
  have:(row (Qg D) 0 l.length)[j]=bit (Qg D) j:=by simp [row]
  rw [this,hb,h.bits j (by omega)];simp [List.getD_eq_getElem?_getD,h2]
def gamL (n:Nat):List Nat:=Qh n (2*Nat.log2 n+1)
theorem xF {n:Nat} (h:1≤n):2^Nat.log2 n≤n:=Nat.log2_self_le (by omega)
theorem xc (n:Nat):n<2^(Nat.log2 n+1):=Nat.lt_log2_self
theorem AXj {n k:Nat} (h1:2^k≤n) (h2:n<2^(k+1)):Nat.log2 n=k:=by
 have h0:1≤n:=Nat.le_trans (Nat.two_pow_pos k) h1
 have a:=xF h0
 have b:=xc n
 rcases Nat.lt_trichotomy (Nat.log2 n) k with h | h | h
 ·have:=Nat.pow_le_pow_right (n:=2) (by omega) (show Nat.log2 n+1≤k by omega)
  omega
 ·exact h
 ·have:=Nat.pow_le_pow_right (n:=2) (by omega) (show k+1≤Nat.log2 n by omega)
  omega
theorem Yp {n:Nat} (h1:1≤n) (h:n≤1048575):Nat.log2 n≤19:=by
 apply Classical.byContradiction
 intro hc
 have:=Nat.pow_le_pow_right (n:=2) (by omega) (show 20≤Nat.log2 n by omega)
 have:=xF h1
 omega
theorem XJ {n:Nat} (h:2≤n):Nat.log2 n=Nat.log2 (n / 2)+1:=by
 have h1:=xF (n:=n / 2) (by omega)
 have h2:=xc (n / 2)
 apply AXj
 ·rw [Nat.pow_succ];omega
 ·rw [Nat.pow_succ];omega
theorem APj:Nat.log2 1=0:=by decide
theorem jQ (n:Nat):(gamL n).length=2*Nat.log2 n+1:=Qt _ _
def up (w:Nat):Nat:=if w / 2147483648=1 then (2*w % 4294967296) ^^^ 79764919 else 2*w % 4294967296
theorem AZw (w:Nat):up w<4294967296:=by
 unfold up
 split
 ·exact Nat.xor_lt_two_pow (n:=32) (by omega) (by omega)
 ·omega
theorem AGv (w i:Nat) (h:w<4294967296):(up w).testBit i=(((decide (i<32) && decide (1≤i)) && w.testBit (i-1)) ^^ (w.testBit 31 && Nat.testBit 79764919 i)):=by
 have h31:w.testBit 31=decide (w / 2147483648=1):=by
  rw [Nat.testBit_eq_decide_div_mod_eq]
  congr 1
  show (w / 2147483648 % 2=1)=(w / 2147483648=1)
  apply propext;omega
 have hm:(2*w % 4294967296).testBit i=((decide (i<32) && decide (1≤i)) && w.testBit (i-1)):=by
  rw [show (4294967296:Nat)=2^32 from rfl,Nat.testBit_mod_two_pow,show 2*w=w <<< 1 by rw [Nat.shiftLeft_eq];omega,Nat.testBit_shiftLeft]
  simp only [ge_iff_le,Bool.and_assoc]
 unfold up
 rw [h31]
 by_cases hc:w / 2147483648=1
 ·rw [if_pos hc,Nat.testBit_xor,hm];simp [hc]
 ·rw [if_neg hc,hm];simp [hc]
theorem jO {x y:Nat} (hx:x<4294967296) (hy:y<4294967296):x ^^^ y<4294967296:=Nat.xor_lt_two_pow (n:=32) hx hy
theorem AZh (x y:Nat) (hx:x<4294967296) (hy:y<4294967296):up (x ^^^ y)=up x ^^^ up y:=by
 apply Nat.eq_of_testBit_eq
 intro i
 rw [Nat.testBit_xor,AGv _ _ (jO hx hy),AGv _ _ hx,AGv _ _ hy,Nat.testBit_xor,Nat.testBit_xor]
 generalize (decide (i<32) && decide (1≤i))=a
 generalize Nat.testBit 79764919 i=p
 generalize x.testBit (i-1)=x1
 generalize y.testBit (i-1)=y1
 generalize x.testBit 31=x2
 generalize y.testBit 31=y2
 cases a <;> cases p <;> cases x1 <;> cases y1 <;> cases x2 <;> cases y2 <;> rfl
def upW:Nat→Nat→Nat
 | 0,w=>w
 | k+1,w=>up (upW k w)
theorem xl (k w:Nat) (h:w<4294967296):upW k w<4294967296:=by
 cases k with
 | zero=>exact h
 | succ k=>exact AZw _
theorem AYq (k x y:Nat) (hx:x<4294967296) (hy:y<4294967296):upW k (x ^^^ y)=upW k x ^^^ upW k y:=by
 induction k with
 | zero=>rfl
 | succ k ih=>show up (upW k _)=_;rw [ih,AZh _ _ (xl k x hx) (xl k y hy)];rfl
theorem AXv (k z:Nat) (hk:k≤8) (hz:z<16777216):upW k z=z*2^k:=by
 induction k with
 | zero=>simp [upW]
 | succ k ih =>
   have h8:2^k≤2^7:=Nat.pow_le_pow_right (by omega) (by omega)
   have h1:z*2^k<16777216*2^7:=Nat.lt_of_le_of_lt (Nat.mul_le_mul_left z h8) (by omega)
   show up (upW k z)=_
   rw [ih (by omega)]
   unfold up
   rw [show z*2^(k+1)=z*2^k*2 by rw [Nat.pow_succ,Nat.mul_assoc]]
   generalize z*2^k=q at h1 ⊢
   rw [if_neg (by omega)]
   omega
def Yc (b:Nat):Nat:=upW 8 (b*16777216)
theorem ATm (b:Nat) (h:b<256):Yc b<4294967296:=xl _ _ (by omega)
def step (w b:Nat):Nat:=upW 8 (w ^^^ b*16777216)
theorem AWz (w b:Nat) (hw:w<4294967296) (hb:b<256):step w b<4294967296:=xl _ _ (jO hw (by omega))
theorem ALm (w b:Nat) (hw:w<4294967296) (hb:b<256):w ^^^ b*16777216=((w / 16777216 ^^^ b)*16777216) ^^^ (w % 16777216):=by
 apply Nat.eq_of_testBit_eq
 intro i
 rw [show (16777216:Nat)=2^24 from rfl]
 simp only [Nat.testBit_xor,Nat.testBit_mul_two_pow,Nat.testBit_mod_two_pow,Nat.testBit_div_two_pow]
 by_cases h:24≤i
 ·simp [h,show ¬ i<24 by omega]
 ·simp [h,show i<24 by omega]
theorem AMa (w b:Nat) (hw:w<4294967296) (hb:b<256):step w b=(w*256 % 4294967296) ^^^ Yc (w / 16777216 ^^^ b):=by
 have hx:w / 16777216 ^^^ b<256:=Nat.xor_lt_two_pow (n:=8) (by omega) hb
 unfold step
 rw [ALm w b hw hb,AYq _ _ _ (by omega) (by omega),AXv 8 (w % 16777216) (by omega) (by omega),Nat.xor_comm]
 congr 1
 show w % 16777216*256=_
 omega
def crcL (w:Nat) (l:List Nat):Nat:=l.foldl step w
theorem xM (w:Nat) (l:List Nat) (hw:w<4294967296) (hl:∀ b∈l,b<256):crcL w l<4294967296:=by
 induction l generalizing w with
 | nil=>exact hw
 | cons b l ih=>exact ih _ (AWz w b hw (hl b (by simp))) fun c hc=>hl c (by simp [hc])
theorem AIo (w:Nat) (l m:List Nat):crcL w (l++m)=crcL (crcL w l) m:=by unfold crcL;rw [List.foldl_append]
theorem AOx (w:Nat) (l:List Nat) (b:Nat):crcL w (l++[b])=step (crcL w l) b:=by rw [AIo];rfl
def upB:Nat→List Nat
 | 0=>[0]
 | k+1=>1::0::upB k
def dnB:Nat→List Nat
 | 0=>[0]
 | k+1=>1::1::dnB k
def Vt (now x:Nat):List Nat:=if now≤x then upB (x-now) else dnB (now-x)
def Vb:Nat→List Nat→List Nat
 | _,[]=>[]
 | now,x::xs=>Vt now x++Vb x xs
theorem AWv (k:Nat):(upB k).length=2*k+1:=by
 induction k with
 | zero=>rfl
 | succ k ih=>simp only [upB,List.length_cons,ih];omega
theorem AWh (k:Nat):(dnB k).length=2*k+1:=by
 induction k with
 | zero=>rfl
 | succ k ih=>simp only [dnB,List.length_cons,ih];omega
def gap (a b:Nat):Nat:=(a-b)+(b-a)
theorem ABp (now x:Nat):(Vt now x).length=2*gap now x+1:=by
 unfold Vt gap
 by_cases h:now≤x
 ·rw [if_pos h,AWv];omega
 ·rw [if_neg h,AWh];omega
def qV:Nat→List Nat→Nat
 | now,[]=>now
 | _,x::xs=>qV x xs
theorem AMh (xs:List Nat) (x:Nat):∀ now,qV now (xs++[x])=x:=by
 induction xs with
 | nil=>intro now;rfl
 | cons y xs ih=>intro now;exact ih y
theorem AHv (xs:List Nat) (x:Nat):∀ now,Vb now (xs++[x])=Vb now xs++Vt (qV now xs) x:=by
 induction xs with
 | nil=>intro now;simp [Vb,qV]
 | cons y xs ih =>
   intro now
   simp only [List.cons_append,Vb,ih,List.append_assoc,qV]
inductive Stp (s:ByteArray):Nat→Nat→Nat→Nat→Prop
 | stop (a now:Nat) (h:1≤now∧now≤20) (hs:a+1≤8*s.size) (hb:bit s a=0):Stp s a now now (a+1)
 | up (a now x b:Nat) (h:1≤now∧now≤20) (hs:a+2≤8*s.size) (hb:bit s a=1) (hc:bit s (a+1)=0) (hr:Stp s (a+2) (now+1) x b):Stp s a now x b
 | down (a now x b:Nat) (h:1≤now∧now≤20) (hs:a+2≤8*s.size) (hb:bit s a=1) (hc:bit s (a+1)=1) (hr:Stp s (a+2) (now-1) x b):Stp s a now x b
theorem Stp.range {s:ByteArray} {a now x b:Nat} (h:Stp s a now x b):1≤x∧x≤20:=by
 induction h with
 | stop a now h=>exact h
 | up _ _ _ _ _ _ _ _ _ ih=>exact ih
 | down _ _ _ _ _ _ _ _ _ ih=>exact ih
theorem Stp.le {s:ByteArray} {a now x b:Nat} (h:Stp s a now x b):a<b∧b≤8*s.size:=by
 induction h with
 | stop a now h hs=>exact ⟨by omega,hs⟩
 | up _ _ _ _ _ _ _ _ _ ih=>exact ⟨by omega,ih.2⟩
 | down _ _ _ _ _ _ _ _ _ ih=>exact ⟨by omega,ih.2⟩
inductive StpL (s:ByteArray):Nat→Nat→List Nat→Nat→Prop
 | nil (a now:Nat):StpL s a now [] a
 | cons (a now x b c:Nat) (xs:List Nat) (h:Stp s a now x b) (hr:StpL s b x xs c):StpL s a now (x::xs) c
theorem StpL.range {s:ByteArray} {a now b:Nat} {xs:List Nat} (h:StpL s a now xs b):∀ x∈xs,1≤x∧x≤20:=by
 induction h with
 | nil=>intro x hx;simp at hx
 | cons a now x b c xs h hr ih =>
   intro y hy
   rcases List.mem_cons.1 hy with rfl | hy
   ·exact h.range
   ·exact ih y hy
theorem StpL.le {s:ByteArray} {a now b:Nat} {xs:List Nat} (h:StpL s a now xs b) (ha:a≤8*s.size):a≤b∧b≤8*s.size:=by
 induction h with
 | nil a now=>exact ⟨Nat.le_refl _,ha⟩
 | cons a now x b c xs h hr ih =>
   have:=h.le
   have:=ih this.2
   omega
theorem StpL.snoc {s:ByteArray} {a now b c x:Nat} {xs:List Nat} (h:StpL s a now xs b) (hx:Stp s b (qV now xs) x c):StpL s a now (xs++[x]) c:=by
 induction h with
 | nil a now=>exact .cons _ _ _ _ _ _ hx (.nil _ _)
 | cons a now y b c2 xs h hr ih =>
   exact .cons _ _ _ _ _ _ h (ih hx)
structure PK (m:Nat) (D l:List Nat):Prop where
 len:D.length=m
 small:∀ j,D.getD j 0<256
 bits:∀ j,j<8*m→bitL D j=l.getD j 0
theorem Packs.pk {D l:List Nat} (h:Packs D l):PK D.length D l:=⟨rfl,h.small,h.bits⟩
theorem PK.packs {m:Nat} {D l:List Nat} (h:PK m D l) (hm:m=(l.length+7) / 8):Packs D l:=⟨h.len.trans hm,h.small,fun j hj=>h.bits j (by rw [←h.len];exact hj)⟩
theorem PK.zero {m:Nat} {D l:List Nat} (h:PK m D l) (hl:l.length≤8*m):PK (m+1) (D++[0]) l:=by
 have hlen:=h.len
 refine ⟨by simp [hlen],fun j=>?_,fun j hj=>?_⟩
 ·rcases Nat.lt_or_ge j D.length with g | g
  ·rw [JO _ _ _ g];exact h.small j
  ·rw [qz _ _ _ g]
   rcases Nat.eq_zero_or_pos (j-D.length) with e | e
   ·rw [e];simp
   ·simp [List.getD_eq_getElem?_getD,show ¬ (j-D.length<1) by omega]
 ·unfold bitL
  rcases Nat.lt_or_ge (j / 8) D.length with g | g
  ·rw [JO _ _ _ g];exact h.bits j (by omega)
  ·rw [qz _ _ _ g,show j / 8-D.length=0 by omega]
   simp [List.getD_eq_getElem?_getD,show l.length≤j by omega]
theorem ACj (D:List Nat) (i x:Nat) (h:i<D.length):(D.set i x).getD i 0=x:=by simp [List.getD_eq_getElem?_getD,h]
theorem ATw (p e:Nat):p*2^e=(p / 2)*2^(e+1) ||| (p % 2)*2^e:=by
 have h:p / 2*2^(e+1)=(p / 2*2)*2^e:=by rw [Nat.pow_succ,Nat.mul_assoc,Nat.mul_comm 2]
 have hlt:p % 2*2^e<2^(e+1):=by
  have:p % 2*2^e≤1*2^e:=Nat.mul_le_mul_right _ (by omega)
  have:=Nat.two_pow_pos e
  rw [Nat.pow_succ];omega
 rw [nat_join (e+1) _ _ (Nat.mul_mod_left _ _) hlt,h,←Nat.add_mul]
 congr 1;omega
theorem PK.or_k {m:Nat} {D l:List Nat} (h:PK m D l) (k:Nat):∀ p,l.length / 8+1=m→l.length % 8+k≤8 →
 PK m (D.set (m-1) (D.getD (m-1) 0 ||| p % 2^k*2^(8-l.length % 8-k))) (l++Qh (p % 2^k) k):=by
 induction k with
 | zero =>
   intro p hm hk
   have e:D.set (m-1) (D.getD (m-1) 0 ||| p % 2^0*2^(8-l.length % 8-0))=D:=by
    rw [Nat.pow_zero,Nat.mod_one,Nat.zero_mul,Nat.or_zero]
    apply List.ext_getElem (by simp)
    intro j h1 h2
    rw [List.getElem_set]
    by_cases hj:m-1=j
    ·rw [if_pos hj];subst hj;simp [List.getD_eq_getElem?_getD,h2]
    ·rw [if_neg hj]
   rw [e]
   simpa [Qh] using h
 | succ k ih =>
   intro p hm hk
   have hlen:=h.len
   have g:=ih (p / 2) hm (by omega)
   have e1:Qh (p % 2^(k+1)) (k+1)=Qh (p / 2 % 2^k) k++[p % 2]:=by
    rw [Jz (p % 2^(k+1)) k 1,show p % 2^(k+1) / 2^1=p / 2 % 2^k by rw [Nat.pow_succ,Nat.mul_comm,Nat.pow_one,Nat.mod_mul_right_div_self]]
    simp [Qh,Nat.pow_succ,Nat.mul_comm _ 2,Nat.mod_mul_right_mod]
   have hl2:(l++Qh (p / 2 % 2^k) k).length=l.length+k:=by rw [List.length_append,Qt]
   have q:=ATx (p % 2) (by omega) g.len g.small (by rw [hl2];omega) g.bits
   rw [hl2,show (l.length+k) / 8=m-1 by omega,show 7-(l.length+k) % 8=8-l.length % 8-(k+1) by omega,ACj _ _ _ (by omega),List.set_set,Nat.or_assoc,
    show 8-l.length % 8-k=8-l.length % 8-(k+1)+1 by omega] at q
   have e2:p / 2 % 2^k*2^(8-l.length % 8-(k+1)+1) ||| p % 2*2^(8-l.length % 8-(k+1))=p % 2^(k+1)*2^(8-l.length % 8-(k+1)):=by
    rw [ATw (p % 2^(k+1)),show p % 2^(k+1) / 2=p / 2 % 2^k by rw [Nat.pow_succ,Nat.mul_comm,Nat.mod_mul_right_div_self],
     show p % 2^(k+1) % 2=p % 2 by rw [Nat.pow_succ,Nat.mul_comm,Nat.mod_mul_right_mod]]
   rw [e2,List.append_assoc,←e1] at q
   exact ⟨by simp [hlen],q.1,q.2⟩
end Go.Proofs.YtembljihmnmmfaaGreat
namespace Go.Proofs.YtembljihmnmmfaaGreat
set_option linter.unusedVariables false
set_option linter.unusedSimpArgs false
open Go.ChangeShapes Go.WideShapes Go.ChangeAt Go.RowKit Go.Joins Go.Deep
def AMy (k:IntKind) (w:World) (a:Option Addr) (len cap:Nat) (zs:List Int):Prop :=
 (a=none∧len=0∧cap=0∧zs=[]) ∨
 ∃ x,a=some x∧len≤cap∧cap≤maxLen∧zs.length=cap∧(∀ i,i<zs.length→w.cell? (x.add i)=some (.int k (zs.getD i 0)))∧∀ n∈zs,(Lit.int k n).wf=true
theorem AGa {W w1:World} (hb:Below W.heap.size W w1):(∀ b o,b<W.heap.size→w1.cell? ⟨b,o,none⟩=W.cell? ⟨b,o,none⟩)∧(∀ b o,b<W.heap.size→w1.frozen? ⟨b,o,none⟩=W.frozen? ⟨b,o,none⟩)∧(∀ b,b<W.heap.size→b<w1.heap.size) :=
 ⟨fun b o h=>hb.cell (p:=⟨b,o,none⟩) h,fun b o h=>hb.frozen (p:=⟨b,o,none⟩) h,fun _ h=>Nat.lt_of_lt_of_le h hb.size⟩
theorem VG {B B':Nat} {a b c:World} (k:Below B' b c) (hB:B≤B') (h:Below B a b):Below B a c:=h.trans (k.mono hB)
theorem Qa {p:Prop} (h:p):Hid p:=h
theorem Qc {B:Nat} {a b c:World} (k:Below b.heap.size b c) (hB:B≤b.heap.size) (h:Below B a b):Below B a c:=h.trans (k.mono hB)
end Go.Proofs.YtembljihmnmmfaaGreat
namespace Go.Proofs.YtembljihmnmmfaaGreat
set_option linter.unusedVariables false
set_option linter.unusedSimpArgs false
open Go.RowKit
theorem QN {k:IntKind} {a b:Int} (h:a=b):Ending.returned (.int k a)=.returned (.int k b):=by rw [h]
theorem Qk {a b:Bool} (h:a=b):Ending.returned (.bool a)=.returned (.bool b):=by rw [h]
theorem Tryz.info5:(Tryz.prog.info? 5).map (fun i=>(i.zero,i.size,i.bytes))=some (some (.int .u8 0),1,1):=by kernel_rfl
def Has (w:World) (g:Nat) (t:TypeId) (cs:Array Value):Prop:=w.heap[g]? = some (.cells cs t (0,0))
theorem Has.lt {w:World} {g:Nat} {t:TypeId} {cs:Array Value} (h:Has w g t cs):g<w.heap.size:=by
 unfold Has at h
 rcases Nat.lt_or_ge g w.heap.size with hl | hl
 ·exact hl
 ·rw [Array.getElem?_eq_none hl] at h;cases h
theorem Has.cell {w:World} {g:Nat} {t:TypeId} {cs:Array Value} (h:Has w g t cs) (i:Nat):w.cell? ⟨g,i,none⟩=cs[i]?:=cell_of_row w g i cs t (0,0) h
theorem Has.free {w:World} {g:Nat} {t:TypeId} {cs:Array Value} (h:Has w g t cs) (i:Nat):w.frozen? ⟨g,i,none⟩=false:=by
 unfold Has at h;simp [World.frozen?,h]
theorem Has.store {w:World} {g:Nat} {t:TypeId} {cs:Array Value} (h:Has w g t cs) (i:Nat) (u:Value):Has (w.setCell ⟨g,i,none⟩ u) g t (cs.setIfInBounds i u):=by
 unfold Has at h ⊢;simp [World.setCell,Array.getElem?_modify,h]
theorem Has.storeAway {w:World} {g:Nat} {t:TypeId} {cs:Array Value} (h:Has w g t cs) {p:Addr} (hp:g≠p.block) (u:Value):Has (w.setCell p u) g t cs:=(Below.heap_setCell w p u g hp).trans h
theorem Has.alloc {w:World} {g:Nat} {t:TypeId} {cs:Array Value} (h:Has w g t cs) (o:Obj):Has (w.alloc o) g t cs:=(Below.heap_alloc w o g h.lt).trans h
theorem Has.fresh (w:World) (t:TypeId) (cs:Array Value):Has (w.alloc (.cells cs t)) w.heap.size t cs:=heap_alloc_new w _
theorem Has.freshAt {w:World} {g:Nat} (h:w.heap.size=g) (t:TypeId) (cs:Array Value):Has (w.alloc (.cells cs t)) g t cs:=by subst h;exact Has.fresh _ _ _
theorem Has.drew {w:World} {g:Nat} {t:TypeId} {cs:Array Value} (h:Has w g t cs):Has w.drew g t cs:=h
theorem Has.drewN {w:World} {g:Nat} {t:TypeId} {cs:Array Value} (h:Has w g t cs) (n:Nat):Has (w.drewN n) g t cs:=h
theorem Has.below {w w':World} {g B:Nat} {t:TypeId} {cs:Array Value} (h:Has w g t cs) (hb:Below B w w') (hg:g<B):Has w' g t cs:=(hb.block g hg).trans h
theorem Has.grown {w w':World} {g:Nat} {row:Option Nat} {t:TypeId} {cs:Array Value} (h:Has w g t cs) (hb:w.grownBy w' row) (hg:some g≠row):Has w' g t cs:=(hb.block g h.lt hg).trans h
def Only (g:Nat) (a w:World):Prop:=a.grownBy w (some g)
theorem Only.refl (g:Nat) (w:World):Only g w w:=World.grownBy.refl w _
theorem Only.drew {g:Nat} {a w:World} (h:Only g a w):Only g a w.drew:=⟨h.os,h.tape,h.output,h.size,h.block⟩
theorem Only.drewN {g:Nat} {a w:World} (h:Only g a w) (n:Nat):Only g a (w.drewN n):=⟨h.os,h.tape,h.output,h.size,h.block⟩
theorem Only.alloc {g:Nat} {a w:World} (h:Only g a w) (o:Obj):Only g a (w.alloc o) :=
 ⟨h.os,h.tape,h.output,Nat.le_trans h.size (by simp),fun i hi hne=>(Below.heap_alloc w o i (Nat.lt_of_lt_of_le hi h.size)).trans (h.block i hi hne)⟩
theorem Only.store {g:Nat} {a w:World} (h:Only g a w) {p:Addr} (hp:p.block=g∨a.heap.size≤p.block) (u:Value):Only g a (w.setCell p u) :=
 ⟨h.os,h.tape,h.output,by simpa [World.setCell] using h.size,fun i hi hne=>(Below.heap_setCell w p u i (by
  rintro rfl
  rcases hp with hp | hp
  ·exact hne (by rw [hp])
  ·omega)).trans (h.block i hi hne)⟩
theorem Only.below {g B:Nat} {a w:World} (h:Only g a w) (hB:B≤g) (hs:B≤a.heap.size):Below B a w :=
 ⟨h.os,h.tape,h.output,h.size,fun i hi=>h.block i (Nat.lt_of_lt_of_le hi hs) (by simp;omega)⟩
theorem Only.has {g g':Nat} {a w:World} {t:TypeId} {cs:Array Value} (h:Only g a w) (hh:Has a g' t cs) (hne:g'≠g):Has w g' t cs:=hh.grown h (by simpa using hne)
theorem Zy {B:Nat} {a w:World} (h:Below B a w) (n:Nat):Below B a (w.drewN n):=⟨h.os,h.tape,h.output,h.size,h.block⟩
theorem VA {B g:Nat} {a b c:World} (k:Only g b c) (hg:B≤g) (hB:B≤b.heap.size) (h:Below B a b):Below B a c:=h.trans (k.below hg hB)
theorem Only.trans {g:Nat} {a b c:World} (h:Only g a b) (k:Only g b c):Only g a c :=
 ⟨k.os.trans h.os,k.tape.trans h.tape,k.output.trans h.output,Nat.le_trans h.size k.size,fun i hi hne=>(k.block i (Nat.lt_of_lt_of_le hi h.size) hne).trans (h.block i hi hne)⟩
theorem AMt {g:Nat} {w w':World} (h:Go.RowKit.Below w.heap.size w w'):Only g w w':=⟨h.os,h.tape,h.output,h.size,fun i hi _=>h.block i hi⟩
theorem Ql {w w':World} {base:Nat} {e:TypeId} {size:Nat} {v:Value} {n:Nat} {xs:List Value} (h:w.ownsRow base e size v n xs) (hb:Below w.heap.size w w'):w'.ownsRow base e size v n xs :=
 h.kept (row:=none) ⟨hb.os,hb.tape,hb.output,hb.size,fun i hi _=>hb.block i hi⟩ (by
  rcases h.2 with ⟨rfl,_⟩ | ⟨g,_,_,rfl,_⟩
  ·exact .inl rfl
  ·exact .inr (by simp [Value.ownBlock]))
theorem Qq {w:World} {base size n:Nat} {e:TypeId} {v:Value} {xs:List Value} (h:w.ownsRow base e size v n xs):∃ a c,v=.slice a n c:=by
 rcases h.2 with ⟨rfl,rfl⟩ | ⟨g,cap,cur,rfl,_⟩
 ·exact ⟨none,0,rfl⟩
 ·exact ⟨_,cap,rfl⟩
def Qe (D:List Nat):List Value:=D.map fun (x:Nat)=>Value.int .i64 (x:Int)
theorem ZF (D:List Nat):(Qe D).length=D.length:=by simp [Qe]
theorem zq (D:List Nat) (j:Nat) (h:j<D.length):(Qe D)[j]? = some (.int .i64 (D[j]:Int)):=by simp [Qe,h]
theorem ZM (D E:List Nat):Qe (D++E)=Qe D++Qe E:=by simp [Qe]
theorem Zr (D:List Nat):∀ u∈Qe D,u.oneCell'=true:=by
 intro u hu
 simp only [Qe,List.mem_map] at hu
 obtain ⟨x,_,rfl⟩:=hu
 rfl
theorem vA {w:World} {base size n g m c:Nat} {e:TypeId} {v:Value} {xs:List Value} (h:w.ownsRow base e size v n xs) (hg:g<base):Value.ownBlock (.slice (some ⟨g,0,none⟩) m c)≠v.ownBlock:=by
 intro he
 have:=(h.lt g (by rw [←he];rfl)).1
 omega
theorem ALf {w:World} {base g n c:Nat} {E:TypeId} {D:List Nat} (h:w.ownsRow base E 1 (.slice (some ⟨g,0,none⟩) n c) n (Qe D)) (k:Nat):∀ (j:Nat) (u:Value),(Qe (D.take k))[j]? = some u→w.cell? ((⟨g,0,none⟩:Addr).add j)=some u:=by
 intro j u hu
 refine h.cells (g:=g) rfl j u ?_
 simp only [Qe,List.map_take,List.getElem?_take] at hu ⊢
 split at hu
 ·exact hu
 ·cases hu
theorem yv {w:World} {base g n c:Nat} {E:TypeId} {D:List Nat} (h:w.ownsRow base E 1 (.slice (some ⟨g,0,none⟩) n c) n (Qe D)) (k:Nat):∀ (j:Nat) (u:Value),(Qe (D.drop k))[j]? = some u→w.cell? ((⟨g,k,none⟩:Addr).add j)=some u:=by
 intro j u hu
 have e:(⟨g,k,none⟩:Addr).add j=⟨g,k+j,none⟩:=by unfold Addr.add;split <;> simp_all
 have hu2:(Qe D)[k+j]? = some u:=by
  simp only [Qe,List.map_drop,List.getElem?_drop] at hu ⊢;exact hu
 have hl:=h.1
 have hj:k+j<n*1:=by rw [←hl];exact (List.getElem?_eq_some_iff.1 hu2).1
 rw [e,h.cellAt _ hj,hu2]
def nats (n:Nat) (f:Nat→Nat):List Value:=(List.range n).map fun s=>Value.int .i64 (f s:Int)
theorem Va (n:Nat) (f:Nat→Nat):(nats n f).length=n:=by simp [nats]
theorem Qw (n:Nat) (f:Nat→Nat) (s:Nat) (h:s<n):(nats n f)[s]? = some (.int .i64 (f s:Int)):=by simp [nats,h]
theorem Zb (n:Nat) (f:Nat→Nat) (s:Nat) (x:Nat):(nats n f).set s (.int .i64 (x:Int))=nats n (fun t=>if t=s then x else f t):=by
 apply List.ext_getElem (by simp [nats])
 intro i h1 h2
 by_cases e:s=i
 ·subst e;simp [nats]
 ·have:¬ i=s:=fun h=>e h.symm
  simp [nats,List.getElem_set,e,this]
theorem Qu {n:Nat} {f g:Nat→Nat} (h:∀ s,s<n→f s=g s):nats n f=nats n g:=by
 unfold nats
 exact List.map_congr_left fun s hs=>by rw [h s (List.mem_range.1 hs)]
theorem Tryz.infoInt:(Tryz.prog.info? 3).map (fun i=>(i.zero,i.size,i.bytes))=some (some (.int .i64 0),1,8):=by kernel_rfl
theorem XZ {w:World} {b1 b2 s1 s2 n1 n2 g:Nat} {e1 e2:TypeId} {v1 v2:Value} {xs ys:List Value} (h:w.ownsRow b1 e1 s1 v1 n1 xs) (h':w.ownsRow b2 e2 s2 v2 n2 ys) (hne:e1≠e2) (hg:v1.ownBlock=some g):v2.ownBlock≠some g:=by
 intro he
 rcases h.2 with ⟨rfl,_⟩ | ⟨ga,_,ca,rfl,_,ha,_⟩
 ·cases hg
 ·rcases h'.2 with ⟨rfl,_⟩ | ⟨gb,_,cb,rfl,_,hb,_⟩
  ·cases he
  ·simp only [Value.ownBlock,Option.some.injEq] at hg he
   subst hg he
   rw [ha] at hb
   injection hb with hb
   injection hb with _ h2
   exact hne h2
theorem Zl (n:Nat):(madeCells #[Value.int .i64 0] n).toList=nats n (fun _=>0):=by
 rw [toList_madeCells_one]
 apply List.ext_getElem (by simp [nats])
 intro i h1 h2
 simp [nats]
theorem JY (w:World) (u:Value) (T:TypeId):∀ (j:Nat) (v:Value),[u][j]? = some v→(w.alloc (.cells #[u] T)).cell? ((⟨w.heap.size,0,none⟩:Addr).add j)=some v:=by
 intro j v hv
 have hj:j=0:=by
  have:=(List.getElem?_eq_some_iff.1 hv).1
  simpa using this
 subst hj
 have:=(Has.fresh w T #[u]).cell 0
 have e:(⟨w.heap.size,0,none⟩:Addr).add 0=⟨w.heap.size,0,none⟩:=by simp [Addr.add]
 rw [e,this]
 simpa using hv
theorem ZC (L:List Nat):Qe L=nats L.length (fun s=>L.getD s 0):=by
 apply List.ext_getElem (by simp [Qe,nats])
 intro i h1 h2
 have h:i<L.length:=by simpa [Qe] using h1
 simp [Qe,nats,List.getD_eq_getElem?_getD,h]
theorem Zm {w:World} {base n S:Nat} {E:TypeId} {v:Value} {xs:List Value} (h:w.ownsRow base E S v n xs) {p:Addr} (hp:p.block<base) (u:Value):(w.setCell p u).ownsRow base E S v n xs :=
 h.kept ((Only.refl p.block w).store (.inl rfl) u) (.inr (fun he=>by have:=(h.lt _ he).1;omega))
def Ints (w:World) (B:Nat) (a:Option Addr) (zs:List Int):Prop :=
 zs.length≤140737488355328∧(∀ n∈zs,-9223372036854775808≤n∧n≤9223372036854775807) ∧
  (0<zs.length→∃ b off,a=some ⟨b,off,none⟩∧b<B∧∀ i,i<zs.length→w.cell? ⟨b,off+i,none⟩=some (.int .i64 (zs.getD i 0)))
theorem Ints.keep {w w':World} {B:Nat} {a:Option Addr} {zs:List Int} (h:Ints w B a zs) (hk:∀ p:Addr,p.block<B→w'.cell? p=w.cell? p):Ints w' B a zs :=
 ⟨h.1,h.2.1,fun h0=>by
  obtain ⟨b,off,e,hb,hc⟩:=h.2.2 h0
  exact ⟨b,off,e,hb,fun i hi=>(hk _ hb).trans (hc i hi)⟩⟩
theorem Ints.below {w w':World} {B:Nat} {a:Option Addr} {zs:List Int} (h:Ints w B a zs) (hb:Below B w w'):Ints w' B a zs:=h.keep fun _ hp=>hb.cell hp
theorem Ints.mono {w:World} {B B':Nat} {a:Option Addr} {zs:List Int} (h:Ints w B a zs) (hB:B≤B'):Ints w B' a zs :=
 ⟨h.1,h.2.1,fun h0=>by
  obtain ⟨b,off,e,hb,hc⟩:=h.2.2 h0
  exact ⟨b,off,e,by omega,hc⟩⟩
theorem Ints.range {w:World} {B:Nat} {a:Option Addr} {zs:List Int} (h:Ints w B a zs) (k:Nat):-9223372036854775808≤zs.getD k 0∧zs.getD k 0≤9223372036854775807:=by
 rcases Nat.lt_or_ge k zs.length with hk | hk
 ·have e:zs.getD k 0=zs[k]:=by simp [List.getD_eq_getElem?_getD,hk]
  rw [e];exact h.2.1 _ (List.getElem_mem hk)
 ·have e:zs.getD k 0=0:=by simp [List.getD_eq_getElem?_getD,hk]
  rw [e];omega
theorem yj {zs:List Int} {x:Int} (h:x∈zs):∃ k,k<zs.length∧zs.getD k 0=x:=by
 obtain ⟨k,hk,e⟩:=List.getElem_of_mem h
 exact ⟨k,hk,by simp [List.getD_eq_getElem?_getD,hk,e]⟩
theorem XA {zs:List Int} {k:Nat} (h:k<zs.length):zs.getD k 0∈zs:=by
 have e:zs.getD k 0=zs[k]:=by simp [List.getD_eq_getElem?_getD,h]
 rw [e];exact List.getElem_mem h
def QH (m:Int) (b:Bool) (t:Int):Bool:=(decide (m=0) && (!b && decide (t=0))) || ((decide (m=1) || decide (m=2)) && (decide (1≤t) && decide (t≤4))) || (decide (m=3) && decide (t=0))
theorem AJe {m t:Int} {b:Bool} (h:QH m b t=true):0≤m∧m≤3∧0≤t∧t≤4:=by
 simp only [QH,Bool.or_eq_true,Bool.and_eq_true,decide_eq_true_eq] at h
 omega
end Go.Proofs.YtembljihmnmmfaaGreat
namespace Go.Proofs.YtembljihmnmmfaaGreat
set_option linter.unusedVariables false
set_option linter.unusedSimpArgs false
def Byt (l:List Nat):Prop:=∀ b∈l,b<256
theorem QA (s:ByteArray):Byt (Qb s):=by
 intro b hb
 simp only [Qb,List.mem_map] at hb
 obtain ⟨x,_,rfl⟩:=hb
 exact UInt8.toNat_lt _
theorem AAx {R:Nat→Nat→Prop} (irr:∀ a,¬ R a a) (asym:∀ a b,R a b→¬ R b a):∀ (l m:List Nat),l.Pairwise R→m.Pairwise R→(∀ b,b∈l↔b∈m)→l=m:=by
 intro l
 induction l with
 | nil =>
   intro m _ _ h
   cases m with
   | nil=>rfl
   | cons b m=>exact absurd ((h b).2 (List.mem_cons_self ..)) (by simp)
 | cons a l ih =>
   intro m hl hm h
   cases m with
   | nil=>exact absurd ((h a).1 (List.mem_cons_self ..)) (by simp)
   | cons b m =>
     rw [List.pairwise_cons] at hl hm
     have hab:a=b:=by
      rcases List.mem_cons.1 ((h a).1 (List.mem_cons_self ..)) with e | e
      ·exact e
      ·rcases List.mem_cons.1 ((h b).2 (List.mem_cons_self ..)) with e2 | e2
       ·exact e2.symm
       ·exact absurd (hm.1 a e) (asym _ _ (hl.1 b e2))
     subst hab
     rw [ih m hl.2 hm.2]
     intro x
     constructor
     ·intro hx
      rcases List.mem_cons.1 ((h x).1 (List.mem_cons_of_mem _ hx)) with e | e
      ·subst e;exact absurd (hl.1 x hx) (irr _)
      ·exact e
     ·intro hx
      rcases List.mem_cons.1 ((h x).2 (List.mem_cons_of_mem _ hx)) with e | e
      ·subst e;exact absurd (hm.1 x hx) (irr _)
      ·exact e
theorem qB {l m:List Nat} (h1:l.Pairwise (·<·)) (h2:m.Pairwise (·<·)) (h:∀ b,b∈l↔b∈m):l=m :=
 AAx (fun a=>Nat.lt_irrefl a) (fun a b h=>by omega) l m h1 h2 h
def QV (l:List Nat) (k:Nat):List Nat:=(List.range k).filter (fun b=>decide (0<l.count b))
def Qm (l:List Nat):List Nat:=QV l 256
theorem AHx (l:List Nat) (k:Nat):QV l (k+1)=if 0<l.count k then QV l k++[k] else QV l k:=by
 unfold QV
 rw [List.range_succ,List.filter_append]
 split <;> simp_all
theorem ALx {l:List Nat} {k b:Nat}:b∈QV l k↔b<k∧b∈l:=by
 simp [QV,List.count_pos_iff]
theorem ZN {l:List Nat} (h:Byt l) {b:Nat}:b∈Qm l↔b∈l:=by
 unfold Qm
 rw [ALx]
 exact ⟨fun x=>x.2,fun x=>⟨h b x,x⟩⟩
theorem ZL (l:List Nat):(Qm l).Pairwise (·<·):=List.pairwise_lt_range.sublist List.filter_sublist
theorem qK (l:List Nat) (k:Nat):(QV l k).length≤k:=by
 unfold QV
 have:=List.length_filter_le (fun b=>decide (0<l.count b)) (List.range k)
 simpa using this
theorem APn (l:List Nat):Byt (Qm l):=fun b hb=>(ALx.1 hb).1
theorem Ym {l:List Nat} (h:l.Pairwise (·<·)):l.Nodup:=h.imp (fun h=>by omega)
theorem ZB (l:List Nat):(Qm l).Nodup:=Ym (ZL l)
theorem jd (l:List Nat) (h:Byt l) (b:Nat):(Qm l).count b=if b∈l then 1 else 0:=by
 rw [(ZB l).count]
 simp [ZN h]
theorem Jd {u:List Nat} (hb:Byt u):Qm u=u↔u.Pairwise (·<·):=by
 constructor
 ·intro h;rw [←h];exact ZL u
 ·intro h;exact qB (ZL u) h (fun b=>ZN hb)
theorem Vd:∀ {l m:List Nat},l.Nodup→(∀ b∈l,b∈m)→l.length≤m.length:=by
 intro l
 induction l with
 | nil=>intro m _ _;simp
 | cons a l ih =>
   intro m hl h
   rw [List.nodup_cons] at hl
   have ha:=h a (List.mem_cons_self ..)
   have h2:=ih (m:=m.erase a) hl.2 (fun b hb=>(List.mem_erase_of_ne (fun e=>hl.1 (by rw [←e];exact hb))).2 (h b (List.mem_cons_of_mem _ hb)))
   rw [List.length_erase_of_mem ha] at h2
   have:=List.length_pos_of_mem ha
   simp only [List.length_cons]
   omega
theorem ja {l:List Nat} (hb:Byt l):(Qm l).length≤l.length:=Vd (ZB l) (fun b h=>(ZN hb).1 h)
theorem VS {l:List Nat} (hb:Byt l):(Qm l).length=l.length↔l.Nodup:=by
 constructor
 ·intro h
  rw [List.nodup_iff_count]
  intro a
  apply Decidable.byContradiction
  intro hc
  have h2:2≤l.count a:=by omega
  have ha:a∈l:=List.count_pos_iff.1 (by omega)
  have hb2:Byt (l.erase a):=fun b hx=>hb b (List.mem_of_mem_erase hx)
  have he:Qm l=Qm (l.erase a):=qB (ZL _) (ZL _) (fun b=>by
   rw [ZN hb,ZN hb2,←List.count_pos_iff,←List.count_pos_iff,List.count_erase]
   by_cases e:b=a
   ·subst e;rw [beq_self_eq_true,if_pos rfl];omega
   ·rw [if_neg (by simpa using Ne.symm e)];rfl)
  have h3:=ja hb2
  rw [←he,List.length_erase_of_mem ha] at h3
  have:=List.length_pos_of_mem ha
  omega
 ·intro h
  have:=Vd h (fun b hx=>(ZN hb).2 hx)
  have:=ja hb
  omega
theorem QK {l:List Nat} (hb:Byt l) (h:l.Nodup):l.length≤256:=by
 have:=(VS hb).2 h
 have:=qK l 256
 unfold Qm at *
 omega
theorem ABi {l:List Nat} (hb:Byt l) (h:l.Nodup):(Qm l).Perm l:=by
 rw [List.perm_iff_count]
 intro a
 rw [jd l hb a,h.count]
def ZA (l:List Nat):Bool:=decide (l≠[]∧l.Nodup)
theorem Xw (l:List Nat):ZA l=true↔l≠[]∧l.Nodup:=by simp [ZA]
def JK (u:List Nat):Bool:=decide (u≠[]∧Qm u=u)
theorem Xy (u:List Nat):JK u=true↔u≠[]∧Qm u=u:=by simp [JK]
def befC (l:List Nat) (a b:Nat):Prop:=l.count b<l.count a∨(l.count a=l.count b∧a<b)
theorem jB (l:List Nat) (a:Nat):¬ befC l a a:=by unfold befC;omega
theorem APx (l:List Nat) (a b:Nat) (h:befC l a b):¬ befC l b a:=by unfold befC at *;omega
def QO (l R:List Nat):Prop:=R.Pairwise (befC l)∧∀ b,b∈R↔b∈l
theorem ACy {l R R2:List Nat} (h:QO l R) (h2:QO l R2):R=R2 :=
 AAx (jB l) (APx l) R R2 h.1 h2.1 (fun b=>(h.2 b).trans (h2.2 b).symm)
theorem zu {l R:List Nat} (h:QO l R):R.Nodup:=h.1.imp (fun {a b} h e=>by subst e;exact jB l a h)
theorem yS {l R:List Nat} (hb:Byt l) (h:QO l R):Byt R:=fun b hx=>hb b ((h.2 b).1 hx)
theorem AJk {l R:List Nat} (hb:Byt l) (h:QO l R):Qm R=Qm l :=
 qB (ZL _) (ZL _) (fun b=>by rw [ZN (yS hb h),ZN hb];exact h.2 b)
def remF (L R:List Nat) (b:Nat):Nat:=if b∈R then 0 else L.count b
def Sel (L R:List Nat):Prop:=R.Pairwise (befC L)∧(∀ x∈R,x∈L)∧∀ x∈R,∀ y∈L,y ∉ R→befC L x y
theorem AWu (L:List Nat):Sel L []:=⟨List.Pairwise.nil,by simp,by simp⟩
theorem AOt {L R:List Nat} (h:Sel L R):R.Nodup:=h.1.imp (fun {a b} h e=>by subst e;exact jB L a h)
theorem AUh {L R:List Nat} (hB:Byt L) (h:Sel L R) {m:Nat} (hmax:∀ x,x<256→remF L R x≤remF L R m∧(remF L R x=remF L R m→m≤x)) (hp:0<remF L R m):Sel L (R++[m])∧R.length+1≤256:=by
 have hm:m ∉ R:=fun e=>by unfold remF at hp;rw [if_pos e] at hp;omega
 have hr:remF L R m=L.count m:=by unfold remF;rw [if_neg hm]
 have hmL:m∈L:=List.count_pos_iff.1 (by omega)
 have h2:Sel L (R++[m]):=by
  refine ⟨?_,?_,?_⟩
  ·rw [List.pairwise_append]
   refine ⟨h.1,by simp,fun a ha b hb=>?_⟩
   simp at hb;subst hb
   exact h.2.2 a ha b hmL hm
  ·intro x hx
   rcases List.mem_append.1 hx with hx | hx
   ·exact h.2.1 x hx
   ·simp at hx;subst hx;exact hmL
  ·intro x hx y hy hn
   have hy1:y ∉ R:=fun e=>hn (List.mem_append_left _ e)
   have hy2:y≠m:=fun e=>hn (by simp [e])
   rcases List.mem_append.1 hx with hx | hx
   ·exact h.2.2 x hx y hy hy1
   ·simp at hx;subst hx
    have hq:=hmax y (hB y hy)
    have hry:remF L R y=L.count y:=by unfold remF;rw [if_neg hy1]
    rw [hry,hr] at hq
    unfold befC;omega
 refine ⟨h2,?_⟩
 have:=QK (fun b hb=>hB b (h2.2.1 b hb)) (AOt h2)
 simpa using this
theorem AWl {L R:List Nat} (hB:Byt L) (h:Sel L R) {m:Nat} (hmax:∀ x,x<256→remF L R x≤remF L R m∧(remF L R x=remF L R m→m≤x)) (hp:remF L R m=0):QO L R:=by
 refine ⟨h.1,fun b=>⟨h.2.1 b,fun hb=>?_⟩⟩
 apply Decidable.byContradiction
 intro hn
 have h1:=(hmax b (hB b hb)).1
 have h2:remF L R b=L.count b:=by unfold remF;rw [if_neg hn]
 have h3:=List.count_pos_iff.2 hb
 omega
theorem APf (L R:List Nat) (m t:Nat):remF L (R++[m]) t=if t=m then 0 else remF L R t:=by
 unfold remF
 by_cases e:t=m
 ·subst e;simp
 ·simp [e]
theorem AUj (L:List Nat):remF L []=fun b=>L.count b:=by funext b;simp [remF]
end Go.Proofs.YtembljihmnmmfaaGreat
namespace Go.Proofs.YtembljihmnmmfaaGreat
set_option linter.unusedVariables false
set_option linter.unusedSimpArgs false
open Go.RowKit
def u8s (l:List Nat):List Value:=l.map fun (b:Nat)=>Value.int .u8 (b:Int)
theorem Zo (l:List Nat):(u8s l).length=l.length:=by simp [u8s]
theorem JW (l:List Nat) (b:Nat):u8s (l++[b])=u8s l++[.int .u8 (b:Int)]:=by simp [u8s]
theorem ZU (l m:List Nat):u8s (l++m)=u8s l++u8s m:=by simp [u8s]
theorem JA (l:List Nat):∀ u∈u8s l,u.oneCell'=true:=by
 intro u hu
 simp only [u8s,List.mem_map] at hu
 obtain ⟨b,_,rfl⟩:=hu
 rfl
theorem xA (l:List Nat) (k b:Nat):u8s (l.set k b)=(u8s l).set k (.int .u8 (b:Int)):=by simp [u8s,List.map_set]
theorem xt (l:List Nat) (k:Nat) (h:k<l.length):(u8s l)[k]? = some (.int .u8 ((l.getD k 0:Nat):Int)):=by simp [u8s,List.getD_eq_getElem?_getD,h]
theorem AEj {w:World} {base g:Nat} {e:TypeId} {size:Nat} {v:Value} {n:Nat} {xs:List Value} (h:w.ownsRow base e size v n xs) (hg:g<base):some g≠v.ownBlock:=by
 intro he
 have:=(h.lt g he.symm).1
 omega
theorem AAk (ns:List Nat) (r:ByteArray):ns.foldl (fun r n=>r.push (UInt8.ofNat n)) r=⟨(r.data.toList++ns.map UInt8.ofNat).toArray⟩:=by
 induction ns generalizing r with
 | nil=>simp
 | cons n ns ih =>
   rw [List.foldl_cons,ih]
   simp [ByteArray.push]
theorem vM {P:Program} {w:World} {base g n c:Nat} {D:List Nat} {src dst e:TypeId} (hs:P.underlying src=some (.slice e)) (he:P.underlying e=some (.int .u8)) (hd:P.underlying dst=some .string)
 (h:w.ownsRow base e 1 (.slice (some ⟨g,0,none⟩) n c) n (u8s D)) (hn:D.length=n) :
 (convert src dst (.slice (some ⟨g,0,none⟩) n c)).run P w=.ok (.string (Qg D)) w:=by
 rw [run_convert_bytes_string w src dst e _ _ _ hs he hd]
 have hl:=run_loadCells_list (P:=P) (w:=w) ⟨g,0,none⟩ (u8s D) (fun j u hu=>h.cells (g:=g) rfl j u hu)
 rw [Zo,hn] at hl
 have e1:(u8s D).toArray=((D.map fun (b:Nat)=>(b:Int)).map (Value.int .u8)).toArray:=by simp [u8s]
 rw [e1] at hl
 rw [run_bytesToString w ⟨g,0,none⟩ n c _ hl]
 congr 2
 rw [List.foldl_map]
 simp only [Int.toNat_natCast]
 rw [AAk]
 simp [Qg]
end Go.Proofs.YtembljihmnmmfaaGreat
namespace Go.Proofs.YtembljihmnmmfaaGreat
set_option linter.unusedVariables false
set_option linter.unusedSimpArgs false
def Xh (m:Nat):Nat:=if m≤1 then 0 else Nat.log2 (m-1)+1
theorem xx (m:Nat):m≤2^Xh m:=by
 unfold Xh
 split
 ·simp;omega
 ·have:=xc (m-1);omega
theorem AFq (m j:Nat) (h:j<Xh m):2^j<m:=by
 unfold Xh at h
 split at h
 ·omega
 ·have h1:=xF (n:=m-1) (by omega)
  have h2:2^j≤2^Nat.log2 (m-1):=Nat.pow_le_pow_right (by omega) (by omega)
  omega
theorem xu (m:Nat) (h:m≤256):Xh m≤8:=by
 rcases Nat.lt_or_ge 8 (Xh m) with h2 | h2
 ·have:=AFq m 8 h2
  omega
 ·exact h2
theorem AUm {m n:Nat} (h1:m≤2^n) (h2:∀ j,j<n→2^j<m):n=Xh m:=by
 rcases Nat.lt_trichotomy n (Xh m) with h | h | h
 ·have:=AFq m n h;omega
 ·exact h
 ·have:=h2 _ h;have:=xx m;omega
def putO:List Nat→List Nat→List Nat
 | _,[]=>[]
 | u,x::o=>Qh (u.idxOf x) (Xh u.length)++putO (u.erase x) o
theorem Vh (u o:List Nat) (h:u.length≤256):(putO u o).length≤8*o.length:=by
 induction o generalizing u with
 | nil=>simp [putO]
 | cons x o ih =>
   unfold putO
   rw [List.length_append,Qt,List.length_cons]
   have h1:=xu u.length h
   have h2:=ih (u.erase x) (by have:=List.length_erase_le (a:=x) (l:=u);omega)
   omega
theorem ANq {u:List Nat} {x:Nat} (h:x∈u):u.erase x=u.eraseIdx (u.idxOf x):=List.erase_eq_eraseIdx_of_idxOf rfl
theorem qc {u:List Nat} {x:Nat} (h:x∈u):u.idxOf x<u.length:=List.idxOf_lt_length_of_mem h
theorem AJy {u:List Nat} {x:Nat} (h:x∈u):u.getD (u.idxOf x) 0=x:=by
 rw [List.getD_eq_getElem?_getD,List.getElem?_eq_getElem (qc h),Option.getD_some,List.getElem_idxOf]
def QM (u:List Nat) (g:Nat):List Nat:=(List.range 16).map fun p=>if 16*g+p∈u then 1 else 0
def ZV (u:List Nat) (g:Nat):Nat:=if 1∈QM u g then 1 else 0
def YD (u:List Nat) (g:Nat):List Nat:=if ZV u g=1 then QM u g else []
def QF (u:List Nat):List Nat:=(List.range 16).map (ZV u)
def QD (u:List Nat) (k:Nat):List Nat:=(List.range k).flatMap (YD u)
def Qr (u:List Nat):List Nat:=QF u++QD u 16
theorem Xx (u:List Nat) (g:Nat):(QM u g).length=16:=by simp [QM]
theorem Jo (u:List Nat) (g:Nat):∀ b∈QM u g,b<2:=by
 intro b hb
 simp only [QM,List.mem_map] at hb
 obtain ⟨p,_,rfl⟩:=hb
 split <;> omega
theorem qO (u:List Nat) (g:Nat):ZV u g<2:=by unfold ZV;split <;> omega
theorem ARk (u:List Nat) (g:Nat):(YD u g).length≤16:=by unfold YD;split <;> simp [Xx]
theorem Yq (u:List Nat) (k:Nat):QD u (k+1)=QD u k++YD u k:=by simp [QD,List.range_succ]
theorem Vp (u:List Nat) (k:Nat):(QD u k).length≤16*k:=by
 induction k with
 | zero=>simp [QD]
 | succ k ih=>rw [Yq,List.length_append];have:=ARk u k;omega
theorem ZK (u:List Nat):(Qr u).length≤272:=by
 unfold Qr;rw [List.length_append];have:=Vp u 16;simp [QF];omega
theorem Yy (l:List Nat) (h:∀ b∈l,b<2):Qh (num l) l.length=l:=by
 induction l with
 | nil=>rfl
 | cons b l ih =>
   have hb:=h b (by simp)
   have ih':=ih fun c hc=>h c (by simp [hc])
   have hlt:=YV l fun c hc=>h c (by simp [hc])
   have e:num (b::l)=b*2^l.length+num l:=by
    have:=JQ [b] l
    simpa [num] using this
   rw [List.length_cons,show l.length+1=1+l.length by omega,e,Jz,Nat.add_comm (b*_),Nat.add_mul_div_right _ _ (Nat.two_pow_pos _),Nat.div_eq_of_lt hlt,Nat.add_mul_mod_self_right,Nat.mod_eq_of_lt hlt,ih']
   simp [Qh];omega
def Yg (m:Nat):List Nat:=(List.range 16).filter fun p=>decide (m / 2^(15-p) % 2=1)
theorem AFi {l:List Nat} (hl:l.length=16) (h:∀ b∈l,b<2) (p:Nat) (hp:p<16):num l / 2^(15-p) % 2=l.getD p 0:=by
 have h1:=Yy l h
 rw [hl] at h1
 have h2:=Vz (num l) 16 p hp
 rw [h1] at h2
 rw [h2]
theorem AGj {l:List Nat} (hl:l.length=16) (h:∀ b∈l,b<2) (h1:1∈l):num l≠0:=by
 intro h0
 have h2:=Yy l h
 rw [h0,hl] at h2
 rw [←h2] at h1
 simp [Qh] at h1
theorem ABf (u:List Nat) (g p:Nat) (hp:p<16):(QM u g).getD p 0=if 16*g+p∈u then 1 else 0:=by simp [QM,List.getD_eq_getElem?_getD,hp]
theorem xf (u:List Nat) (g:Nat):ZV u g=1↔∃ p,p<16∧16*g+p∈u:=by
 unfold ZV
 have:1∈QM u g↔∃ p,p<16∧16*g+p∈u:=by
  simp only [QM,List.mem_map,List.mem_range]
  constructor
  ·rintro ⟨p,hp,h⟩
   refine ⟨p,hp,?_⟩
   split at h
   ·assumption
   ·omega
  ·rintro ⟨p,hp,h⟩
   exact ⟨p,hp,by rw [if_pos h]⟩
 rw [←this]
 split <;> simp_all
theorem XT (u:List Nat):(QF u).length=16:=by simp [QF]
theorem Jg (u:List Nat):∀ b∈QF u,b<2:=by
 intro b h
 simp only [QF,List.mem_map] at h
 obtain ⟨g,_,rfl⟩:=h
 exact qO u g
theorem zX (u:List Nat) (g:Nat) (hg:g<16):(QF u).getD g 0=ZV u g:=by simp [QF,List.getD_eq_getElem?_getD,hg]
theorem ANo {u:List Nat} (hb:Byt u) (h0:u≠[]):∃ g,g<16∧ZV u g=1:=by
 obtain ⟨b,hbu⟩:=List.exists_mem_of_ne_nil u h0
 have:=hb b hbu
 exact ⟨b / 16,by omega,(xf u _).2 ⟨b % 16,by omega,by rwa [Nat.div_add_mod]⟩⟩
def rOk (z:List Int) (n:Int):Bool:=decide (1≤n∧n≤256∧z.length≤600∧∀ x∈z,0≤x∧x<n)
theorem Jc (z:List Int) (n:Int):rOk z n=true↔1≤n∧n≤256∧z.length≤600∧∀ x∈z,0≤x∧x<n:=by simp [rOk]
def ints (L:List Nat):List Int:=L.map fun (x:Nat)=>(x:Int)
theorem Qj (L:List Nat):(ints L).length=L.length:=by simp [ints]
theorem XH (L:List Nat) (k:Nat):(ints L).getD k 0=((L.getD k 0:Nat):Int):=by
 unfold ints
 simp only [List.getD_eq_getElem?_getD,List.getElem?_map]
 cases L[k]? <;> rfl
theorem Za {z:List Int} {n:Int} (h:rOk z n=true):∃ (L:List Nat) (m:Nat),z=ints L∧n=m∧1≤m∧m≤256∧L.length≤600∧∀ x∈L,x<m:=by
 obtain ⟨h1,h2,h3,h4⟩:=(Jc z n).1 h
 have hz:z=ints (z.map Int.toNat):=by
  unfold ints
  rw [List.map_map]
  conv=>lhs;rw [←List.map_id z]
  apply List.map_congr_left
  intro x hx
  have:=h4 x hx
  simp only [id,Function.comp]
  omega
 refine ⟨z.map Int.toNat,n.toNat,hz,by omega,by omega,by omega,by simpa using h3,?_⟩
 intro x hx
 obtain ⟨y,hy,rfl⟩:=List.mem_map.1 hx
 have:=h4 y hy
 omega
def runF {σ:Type} (f:σ→Nat→Nat × σ):σ→List Nat→List Nat
 | _,[]=>[]
 | s,x::xs=>(f s x).1::runF f (f s x).2 xs
theorem Xc {σ:Type} (f:σ→Nat→Nat × σ):∀ (L:List Nat) (s:σ),(runF f s L).length=L.length
 | [],_=>rfl
 | x::xs,s=>by simp [runF,Xc f xs]
theorem Zx (L:List Nat) (k:Nat) (h:k<L.length):L.drop k=L.getD k 0::L.drop (k+1):=by
 rw [List.drop_eq_getElem_cons h]
 congr 1
 simp [List.getD_eq_getElem?_getD,h]
theorem ZE (L:List Nat) (k:Nat) (h:k<L.length):L.getD k 0∈L:=by
 have e:L.getD k 0=L[k]:=by simp [List.getD_eq_getElem?_getD,h]
 rw [e];exact List.getElem_mem h
def Xf (r:List Nat) (k:Nat):List Nat:=r.getD k 0::r.eraseIdx k
theorem VR (r:List Nat) (k:Nat):r.eraseIdx k=r.take k++r.drop (k+1):=List.eraseIdx_eq_take_drop_succ r k
theorem AGo (r:List Nat) (k:Nat) (h:k<r.length):r=r.take k++r.getD k 0::r.drop (k+1):=by
 rw [←Zx r k h,List.take_append_drop]
theorem AHe (r:List Nat) (k:Nat) (h:k<r.length):(Xf r k).Perm r:=by
 unfold Xf
 rw [VR]
 conv=>rhs;rw [AGo r k h]
 exact List.perm_middle.symm
def mtfF (r:List Nat) (x:Nat):Nat × List Nat:=(r.idxOf x,Xf r (r.idxOf x))
def Je (n:Nat) (r:List Nat):Prop:=r.Perm (List.range n)
theorem Je.len {n:Nat} {r:List Nat} (h:Je n r):r.length=n:=by rw [h.length_eq,List.length_range]
theorem Je.mem {n:Nat} {r:List Nat} (h:Je n r) (x:Nat):x∈r↔x<n:=by rw [h.mem_iff,List.mem_range]
theorem Je.nodup {n:Nat} {r:List Nat} (h:Je n r):r.Nodup:=h.nodup_iff.2 List.nodup_range
theorem Je.idx {n:Nat} {r:List Nat} (h:Je n r) {x:Nat} (hx:x<n):r.idxOf x<n:=by
 have:=List.idxOf_lt_length_of_mem ((h.mem x).2 hx)
 rwa [h.len] at this
theorem Je.at {n:Nat} {r:List Nat} (h:Je n r) {k:Nat} (hk:k<n):r.getD k 0<n:=(h.mem _).1 (ZE r k (by rw [h.len];exact hk))
theorem Je.front {n:Nat} {r:List Nat} (h:Je n r) {k:Nat} (hk:k<n):Je n (Xf r k):=(AHe r k (by rw [h.len];exact hk)).trans h
theorem Je.start (n:Nat):Je n (List.range n):=List.Perm.refl _
theorem zx (r:List Nat) {x:Nat} (h:x∈r):r.getD (r.idxOf x) 0=x:=by
 have h2:=List.idxOf_lt_length_of_mem h
 simp [List.getD_eq_getElem?_getD,h2]
theorem xe (r:List Nat) (x j:Nat) (h:j<r.idxOf x):r.getD j 0≠x:=by
 intro e
 have hle:=List.idxOf_le_length (a:=x) (l:=r)
 have hj:j<r.length:=by omega
 have e2:r[j]=x:=by simpa [List.getD_eq_getElem?_getD,hj] using e
 have h3:(r.take (j+1)).idxOf x≤j:=by
  have hm:x∈r.take (j+1):=by
   rw [List.mem_take_iff_getElem]
   exact ⟨j,by omega,e2⟩
  have:=List.idxOf_lt_length_of_mem hm
  rw [List.length_take] at this
  omega
 have h4:r.idxOf x≤j:=by
  have hm:x∈r.take (j+1):=by
   rw [List.mem_take_iff_getElem]
   exact ⟨j,by omega,e2⟩
  conv=>lhs;rw [←List.take_append_drop (j+1) r]
  rw [List.idxOf_append,if_pos hm]
  exact h3
 omega
def mtfZ (z:List Int) (n:Int):List Int:=if rOk z n=true then ints (runF mtfF (List.range n.toNat) (z.map Int.toNat)) else []
theorem Jf (L:List Nat):(ints L).map Int.toNat=L:=by
 unfold ints
 rw [List.map_map]
 conv=>rhs;rw [←List.map_id L]
 apply List.map_congr_left
 intro x _
 rfl
theorem JS {L:List Nat} {m:Nat} (h:rOk (ints L) m=true):mtfZ (ints L) m=ints (runF mtfF (List.range m) L):=by
 unfold mtfZ;rw [if_pos h,Jf];rfl
theorem vR {z:List Int} {n:Int} (h:rOk z n=false):mtfZ z n=[]:=by unfold mtfZ;rw [h];rfl
theorem jz {σ:Type} {f:σ→Nat→Nat × σ} (R:σ→Prop) (X Y:Nat→Prop) (h:∀ s x,R s→X x→Y (f s x).1∧R (f s x).2):∀ (L:List Nat) (s:σ),R s→(∀ x∈L,X x)→∀ y∈runF f s L,Y y
 | [],_,_,_,y,hy=>by cases hy
 | x::xs,s,hR,hX,y,hy=>by
   have h1:=h s x hR (hX x (List.mem_cons_self ..))
   rcases List.mem_cons.1 hy with e | e
   ·rw [e];exact h1.1
   ·exact jz R X Y h xs _ h1.2 (fun q hq=>hX q (List.mem_cons_of_mem _ hq)) y e
theorem AEi {n:Nat} {L:List Nat} (hL:∀ x∈L,x<n):∀ y∈runF mtfF (List.range n) L,y<n :=
 jz (Je n) (·<n) (·<n) (fun s x hs hx=>⟨hs.idx hx,hs.front (hs.idx hx)⟩) L _ (Je.start n) hL
def rotL (S:List Nat) (i:Nat):List Nat:=S.drop i++S.take i
theorem Vn (S:List Nat) (i:Nat) (h:i≤S.length):(rotL S i).length=S.length:=by
 unfold rotL
 rw [List.length_append,List.length_drop,List.length_take]
 omega
def rotB (S:List Nat) (i k:Nat):Nat:=S.getD ((i+k) % S.length) 0
theorem Yb (S:List Nat) (i k:Nat) (hi:i<S.length) (hk:k<S.length):(rotL S i).getD k 0=rotB S i k:=by
 unfold rotL rotB
 simp only [List.getD_eq_getElem?_getD]
 congr 1
 by_cases h:i+k<S.length
 ·rw [Nat.mod_eq_of_lt h,List.getElem?_append_left (by rw [List.length_drop];omega),List.getElem?_drop]
 ·have e:(i+k) % S.length=i+k-S.length:=by
   rw [Nat.mod_eq_sub_mod (by omega),Nat.mod_eq_of_lt (by omega)]
  rw [e,List.getElem?_append_right (by rw [List.length_drop];omega),List.length_drop,List.getElem?_take,if_pos (by omega)]
  congr 1
  omega
def rlt (S:List Nat) (i j:Nat):Prop:=rotL S i<rotL S j∨(rotL S i=rotL S j∧j<i)
instance (S:List Nat) (i j:Nat):Decidable (rlt S i j):=by unfold rlt;infer_instance
theorem AWo (S:List Nat) (i:Nat):¬ rlt S i i:=by
 rintro (h | ⟨_,h⟩)
 ·exact List.lt_irrefl _ h
 ·omega
theorem zr {S:List Nat} {i j k:Nat} (h:rlt S i j) (h2:rlt S j k):rlt S i k:=by
 rcases h with h | ⟨h,h'⟩ <;> rcases h2 with h2 | ⟨h2,h2'⟩
 ·exact .inl (List.lt_trans h h2)
 ·exact .inl (h2 ▸ h)
 ·exact .inl (h ▸ h2)
 ·exact .inr ⟨h.trans h2,by omega⟩
theorem ASl {S:List Nat} {i j:Nat} (h:rlt S i j):¬ rlt S j i:=fun h2=>AWo S i (zr h h2)
theorem AAt (S:List Nat) {i j:Nat} (h:i≠j):rlt S i j∨rlt S j i:=by
 by_cases h1:rotL S i<rotL S j
 ·exact .inl (.inl h1)
 ·by_cases h2:rotL S j<rotL S i
  ·exact .inr (.inl h2)
  ·have e:rotL S i=rotL S j:=List.le_antisymm (List.not_lt.1 h2) (List.not_lt.1 h1)
   rcases Nat.lt_or_ge i j with h3 | h3
   ·exact .inr (.inr ⟨e.symm,h3⟩)
   ·exact .inl (.inr ⟨e,by omega⟩)
def rle (S:List Nat) (i j:Nat):Bool:=decide (i=j∨rlt S i j)
theorem JU (S:List Nat) (i j:Nat):rle S i j=true↔i=j∨rlt S i j:=by simp [rle]
theorem ACd (S:List Nat) (a b c:Nat) (h:rle S a b=true) (h2:rle S b c=true):rle S a c=true:=by
 rw [JU] at *
 rcases h with rfl | h
 ·exact h2
 ·rcases h2 with rfl | h2
  ·exact .inr h
  ·exact .inr (zr h h2)
theorem ABa (S:List Nat) (a b:Nat):(rle S a b || rle S b a)=true:=by
 rw [Bool.or_eq_true,JU,JU]
 by_cases e:a=b
 ·exact .inl (.inl e)
 ·rcases AAt S e with h | h
  ·exact .inl (.inr h)
  ·exact .inr (.inr h)
def Srt (S l R:List Nat):Prop:=R.Perm l∧R.Pairwise (rlt S)
theorem ALl {S l R R2:List Nat} (h:Srt S l R) (h2:Srt S l R2):R=R2:=by
 refine List.Perm.eq_of_pairwise ?_ h.2 h2.2 (h.1.trans h2.1.symm)
 intro a b _ _ h3 h4
 exact absurd h4 (ASl h3)
theorem jh {S R:List Nat} (h:R.Pairwise (fun a b=>rle S a b=true)) (hn:R.Nodup):R.Pairwise (rlt S):=by
 have:=h.and hn
 refine this.imp ?_
 rintro a b ⟨h1,h2⟩
 rcases (JU S a b).1 h1 with e | e
 ·exact absurd e h2
 ·exact e
theorem AQw {S l l2 A B:List Nat} (h:Srt S l A) (h2:Srt S l2 B) (hn:(l++l2).Nodup):Srt S (l++l2) (A.merge B (rle S)):=by
 have hp:(A.merge B (rle S)).Perm (l++l2):=(List.merge_perm_append (rle S)).trans (h.1.append h2.1)
 have w:∀ {R:List Nat},R.Pairwise (rlt S)→R.Pairwise (fun a b=>rle S a b=true):=fun hR=>hR.imp fun hh=>(JU _ _ _).2 (.inr hh)
 exact ⟨hp,jh (List.pairwise_merge (ACd S) (ABa S) A B (w h.2) (w h2.2)) (hp.nodup_iff.2 hn)⟩
def rotO (S:List Nat):List Nat:=(List.range S.length).mergeSort (rle S)
theorem Jn (S:List Nat):Srt S (List.range S.length) (rotO S):=by
 have hp:(rotO S).Perm (List.range S.length):=List.mergeSort_perm _ _
 exact ⟨hp,jh (List.pairwise_mergeSort (ACd S) (ABa S) _) (hp.nodup_iff.2 List.nodup_range)⟩
theorem vZ {S R:List Nat} (h:Srt S (List.range S.length) R):R=rotO S:=ALl h (Jn S)
theorem XF (S:List Nat):(rotO S).length=S.length:=by rw [(Jn S).1.length_eq,List.length_range]
theorem vH (S:List Nat):∀ x∈rotO S,x<S.length:=fun x hx=>by
 have:=(Jn S).1.mem_iff.1 hx
 rwa [List.mem_range] at this
theorem AUq {S:List Nat} {i j k:Nat} (hi:i<S.length) (hj:j<S.length) (hk:k<S.length) (h:∀ t,t<k→rotB S i t=rotB S j t) (hne:rotB S i k≠rotB S j k):rlt S i j↔rotB S i k<rotB S j k:=by
 have li:=Vn S i (by omega)
 have lj:=Vn S j (by omega)
 have gi:∀ t (ht:t<(rotL S i).length),(rotL S i)[t]=rotB S i t:=fun t ht=>by
  rw [←Yb S i t hi (by omega),List.getD_eq_getElem?_getD,List.getElem?_eq_getElem ht];rfl
 have gj:∀ t (ht:t<(rotL S j).length),(rotL S j)[t]=rotB S j t:=fun t ht=>by
  rw [←Yb S j t hj (by omega),List.getD_eq_getElem?_getD,List.getElem?_eq_getElem ht];rfl
 have hnl:rotL S i≠rotL S j:=fun e=>hne (by rw [←Yb S i k hi hk,←Yb S j k hj hk,e])
 constructor
 ·rintro (h1 | ⟨h1,_⟩)
  ·rcases Nat.lt_or_ge (rotB S i k) (rotB S j k) with h2 | h2
   ·exact h2
   ·have:rotL S j<rotL S i:=by
     rw [List.lt_iff_exists]
     refine .inr ⟨k,by omega,by omega,fun t ht=>?_,?_⟩
     ·rw [gi,gj,h t ht]
     ·rw [gi,gj];omega
    exact absurd h1 (List.lt_asymm this)
  ·exact absurd h1 hnl
 ·intro h1
  refine .inl ?_
  rw [List.lt_iff_exists]
  refine .inr ⟨k,by omega,by omega,fun t ht=>?_,?_⟩
  ·rw [gi,gj,h t ht]
  ·rw [gi,gj];exact h1
theorem ATh {S:List Nat} {i j:Nat} (hi:i<S.length) (hj:j<S.length) (h:∀ t,t<S.length→rotB S i t=rotB S j t):rlt S i j↔j<i:=by
 have e:rotL S i=rotL S j:=by
  apply List.ext_getElem (by rw [Vn S i (by omega),Vn S j (by omega)])
  intro t h1 h2
  have ht:t<S.length:=by rw [Vn S i (by omega)] at h1;exact h1
  have a1:=Yb S i t hi ht
  have a2:=Yb S j t hj ht
  rw [List.getD_eq_getElem?_getD,List.getElem?_eq_getElem h1] at a1
  rw [List.getD_eq_getElem?_getD,List.getElem?_eq_getElem h2] at a2
  have:=h t ht
  simp only [Option.getD_some] at a1 a2
  omega
 unfold rlt
 rw [e]
 constructor
 ·rintro (h1 | ⟨_,h1⟩)
  ·exact absurd h1 (List.lt_irrefl _)
  ·exact h1
 ·exact fun h1=>.inr ⟨rfl,h1⟩
def QU (S:List Nat):List Nat:=(rotO S).map fun r=>S.getD ((r+S.length-1) % S.length) 0
def fstN (S:List Nat):Nat:=(rotO S).idxOf 0
theorem zN (S:List Nat):(QU S).length=S.length:=by unfold QU;rw [List.length_map,XF]
def bfS (f:Nat→Nat) (x y:Nat):Prop:=f y<f x∨(f x=f y∧x<y)
theorem ASf (f:Nat→Nat) {x y:Nat} (h:bfS f x y):¬ bfS f y x:=by unfold bfS at *;omega
theorem ABj (f:Nat→Nat) {x y z:Nat} (h:bfS f x y) (h2:bfS f y z):bfS f x z:=by unfold bfS at *;omega
theorem zo (f:Nat→Nat) {x y:Nat} (h:x≠y):bfS f x y∨bfS f y x:=by unfold bfS;omega
def ByS (f:Nat→Nat) (n:Nat) (S:List Nat):Prop:=Je n S∧S.Pairwise (bfS f)
theorem qx {f:Nat→Nat} {n:Nat} {S S2:List Nat} (h:ByS f n S) (h2:ByS f n S2):S=S2:=by
 refine List.Perm.eq_of_pairwise ?_ h.2 h2.2 (h.1.trans h2.1.symm)
 intro a b _ _ h3 h4
 exact absurd h4 (ASf f h3)
theorem AFo {R:Nat→Nat→Prop} {P Q:List Nat} {x:Nat} (h:(P++Q).Pairwise R) (h1:∀ y∈P,R y x) (h2:∀ y∈Q,R x y):(P++x::Q).Pairwise R:=by
 obtain ⟨a,b,c⟩:=List.pairwise_append.1 h
 refine List.pairwise_append.2 ⟨a,List.pairwise_cons.2 ⟨h2,b⟩,?_⟩
 intro y hy z hz
 rcases List.mem_cons.1 hz with e | e
 ·rw [e];exact h1 y hy
 ·exact c y hy z e
def insS (f:Nat→Nat) (x:Nat):List Nat→List Nat
 | []=>[x]
 | y::ys=>if f y<f x∨(f x=f y∧x<y) then x::y::ys else y::insS f x ys
def byL (f:Nat→Nat):Nat→List Nat
 | 0=>[]
 | n+1=>insS f n (byL f n)
theorem zJ (f:Nat→Nat) (x:Nat):∀ (S:List Nat),(insS f x S).Perm (x::S)
 | []=>List.Perm.refl _
 | y::ys=>by
   unfold insS
   split
   ·exact List.Perm.refl _
   ·exact ((zJ f x ys).cons y).trans (List.Perm.swap x y ys)
theorem ABv (f:Nat→Nat) (x:Nat):∀ (S:List Nat),S.Pairwise (bfS f)→x ∉ S→(insS f x S).Pairwise (bfS f)
 | [],_,_=>by simp [insS]
 | y::ys,h,hx=>by
   obtain ⟨h1,h2⟩:=List.pairwise_cons.1 h
   have hxy:x≠y:=fun e=>hx (e ▸ List.mem_cons_self ..)
   unfold insS
   split
   ·next hb =>
    refine List.pairwise_cons.2 ⟨?_,h⟩
    intro z hz
    rcases List.mem_cons.1 hz with e | e
    ·rw [e];exact hb
    ·exact ABj f hb (h1 z e)
   ·next hb =>
    refine List.pairwise_cons.2 ⟨?_,ABv f x ys h2 (fun hm=>hx (List.mem_cons_of_mem _ hm))⟩
    intro z hz
    rcases List.mem_cons.1 ((zJ f x ys).mem_iff.1 hz) with e | e
    ·rw [e]
     rcases zo f hxy with h3 | h3
     ·exact absurd h3 hb
     ·exact h3
    ·exact h1 z e
theorem Xt (f:Nat→Nat):∀ (n:Nat),ByS f n (byL f n)
 | 0=>⟨List.Perm.refl _,List.Pairwise.nil⟩
 | n+1=>by
   obtain ⟨h1,h2⟩:=Xt f n
   refine ⟨?_,ABv f n _ h2 (fun hm=>by have:=(h1.mem n).1 hm;omega)⟩
   show (insS f n (byL f n)).Perm (List.range (n+1))
   rw [List.range_succ]
   exact ((zJ f n _).trans (h1.cons n)).trans (List.perm_append_comm (l₁:=[n]))
structure SB where
 a:Nat→Nat
 b:Nat→Nat
 t:Nat
def SB.sm (s:SB) (x:Nat):Nat:=s.a x+s.b x
def SB.up (s:SB) (x:Nat):SB:=⟨fun y=>if y=x then s.t+1 else s.a y,fun y=>if y=x then s.a x else s.b y,s.t+1⟩
def sb0:SB:=⟨fun _=>0,fun _=>0,0⟩
def sbrF (n:Nat) (s:SB) (x:Nat):Nat × SB:=((byL s.sm n).idxOf x,s.up x)
def SB.ok (s:SB):Prop:=∀ x,s.a x≤s.t∧s.b x≤s.t
theorem ANr:sb0.ok:=fun _=>⟨Nat.le_refl _,Nat.le_refl _⟩
theorem SB.ok.up {s:SB} (h:s.ok) (x:Nat):(s.up x).ok:=fun y=>by
 have:=h y
 have:=h x
 show (if y=x then s.t+1 else s.a y)≤s.t+1∧(if y=x then s.a x else s.b y)≤s.t+1
 split <;> omega
theorem ALy (s:SB) (x y:Nat):(s.up x).sm y=if y=x then s.t+1+s.a x else s.sm y:=by
 show (if y=x then s.t+1 else s.a y)+(if y=x then s.a x else s.b y)=_
 split <;> rfl
theorem AYr (n:Nat):ByS (fun _=>0) n (List.range n):=⟨Je.start n,by
 refine List.pairwise_lt_range.imp ?_
 intro a b h
 exact .inr ⟨rfl,h⟩⟩
theorem AWw {s:SB} {n x:Nat} {P Q:List Nat} (h:ByS s.sm n (P++x::Q)) (hok:s.ok) (p:Nat) (hp:p≤P.length) (h1:∀ y∈P.drop p,bfS (s.up x).sm x y) (h2:∀ y∈P.take p,bfS (s.up x).sm y x) :
 ByS (s.up x).sm n (P.take p++x::(P.drop p++Q)):=by
 obtain ⟨hP,hS⟩:=h
 have hnd:=hP.nodup
 have hd:=(List.perm_middle (a:=x) (l₁:=P) (l₂:=Q)).nodup_iff.1 hnd
 have hxn:x ∉ P++Q:=(List.nodup_cons.1 hd).1
 obtain ⟨a,b,c⟩:=List.pairwise_append.1 hS
 obtain ⟨b1,b2⟩:=List.pairwise_cons.1 b
 have hgrow:s.sm x<(s.up x).sm x:=by
  rw [ALy,if_pos rfl]
  have:=hok x
  show s.a x+s.b x<_
  omega
 have same:∀ y∈P++Q,(s.up x).sm y=s.sm y:=fun y hy=>by
  rw [ALy,if_neg]
  intro e
  rw [e] at hy
  exact hxn hy
 have hPQ:(P++Q).Pairwise (bfS (s.up x).sm):=by
  have:(P++Q).Pairwise (bfS s.sm):=List.pairwise_append.2 ⟨a,b2,fun y hy z hz=>c y hy z (List.mem_cons_of_mem _ hz)⟩
  refine List.Pairwise.imp_of_mem ?_ this
  intro y z hy hz hb
  unfold bfS at hb ⊢
  rw [same y hy,same z hz]
  exact hb
 refine ⟨?_,?_⟩
 ·refine List.Perm.trans ?_ hP
  refine (List.perm_middle).trans (List.Perm.trans ?_ List.perm_middle.symm)
  rw [←List.append_assoc,List.take_append_drop]
 ·refine AFo (by rw [←List.append_assoc,List.take_append_drop];exact hPQ) h2 ?_
  intro y hy
  rcases List.mem_append.1 hy with hy | hy
  ·exact h1 y hy
  ·have:=b1 y hy
   unfold bfS at this ⊢
   rw [same y (List.mem_append_right _ hy)]
   omega
def sbrZ (z:List Int) (n:Int):List Int:=if rOk z n=true then ints (runF (sbrF n.toNat) sb0 (z.map Int.toNat)) else []
theorem Vc {L:List Nat} {m:Nat} (h:rOk (ints L) m=true):sbrZ (ints L) m=ints (runF (sbrF m) sb0 L):=by unfold sbrZ;rw [if_pos h,Jf];rfl
theorem AKo {z:List Int} {n:Int} (h:rOk z n=false):sbrZ z n=[]:=by unfold sbrZ;rw [h];rfl
theorem ARg {n:Nat} {L:List Nat} (hL:∀ x∈L,x<n):∀ y∈runF (sbrF n) sb0 L,y<n :=
 jz (fun _=>True) (·<n) (·<n) (fun s x _ hx=>⟨(Xt s.sm n).1.idx hx,trivial⟩) L _ trivial hL
def Sh (X S:List Nat) (p:Nat):Prop:=X.length=S.length+1∧X.take p=S.take p∧X.drop (p+1)=S.drop p
theorem Sh.start (S:List Nat) (x:Nat):Sh (S++[x]) S S.length:=⟨by simp,by simp,by simp⟩
theorem Sh.mid (P Q:List Nat) (x:Nat):Sh (P++x::Q) (P++Q) P.length:=⟨by simp;omega,by simp,by simp [List.drop_append]⟩
theorem AAz (L:List Nat) (p q:Nat) (h:q<p):(L.take p).getD q 0=L.getD q 0:=by simp [List.getD_eq_getElem?_getD,List.getElem?_take,h]
theorem Sh.get {X S:List Nat} {q:Nat} (h:Sh X S (q+1)):X.getD q 0=S.getD q 0:=by
 have:=congrArg (fun (l:List Nat)=>l.getD q 0) h.2.1
 rwa [AAz _ _ _ (by omega),AAz _ _ _ (by omega)] at this
theorem Sh.step {X S:List Nat} {q:Nat} (h:Sh X S (q+1)) (hq:q<S.length):Sh (X.set (q+1) (S.getD q 0)) S q:=by
 obtain ⟨h1,h2,h3⟩:=h
 refine ⟨by rw [List.length_set,h1],?_,?_⟩
 ·have:=congrArg (List.take q) h2
  rw [List.take_take,List.take_take,Nat.min_eq_left (by omega)] at this
  rw [List.take_set_of_le (by omega)]
  exact this
 ·have e:(X.set (q+1) (S.getD q 0)).drop (q+1)=S.getD q 0::X.drop (q+1+1):=by
   rw [List.drop_eq_getElem_cons (by rw [List.length_set];omega)]
   congr 1
   ·simp
   ·rw [List.drop_set];simp
  rw [e,h3,←Zx S q hq]
theorem Sh.put {X S:List Nat} {p:Nat} (h:Sh X S p) (hp:p≤S.length) (x:Nat):X.set p x=S.take p++x::S.drop p:=by
 obtain ⟨h1,h2,h3⟩:=h
 rw [List.set_eq_take_append_cons_drop,if_pos (by omega),h2,h3]
theorem AGl {f:Nat→Nat} {S:List Nat} {x q:Nat} (hS:S.Pairwise (bfS f)) (hq:q<S.length) (h:¬ bfS f x (S.getD q 0)):∀ y∈S.take (q+1),¬ bfS f x y:=by
 intro y hy hb
 obtain ⟨j,hj,rfl⟩:=List.getElem_of_mem hy
 rw [List.length_take] at hj
 rw [List.getElem_take] at hb
 have e:S.getD q 0=S[q]:=by simp [List.getD_eq_getElem?_getD,hq]
 rw [e] at h
 by_cases hjq:j=q
 ·subst hjq;exact h hb
 ·exact h (ABj f hb (List.pairwise_iff_getElem.1 hS j q (by omega) hq (by omega)))
theorem AZa {f:Nat→Nat} {i p:Nat} (h1:∀ y∈(byL f i).drop p,bfS f i y) (h2:∀ y∈(byL f i).take p,bfS f y i):(byL f i).take p++i::(byL f i).drop p=byL f (i+1):=by
 refine qx (f:=f) (n:=i+1) ⟨?_,AFo (by rw [List.take_append_drop];exact (Xt f i).2) h2 h1⟩ (Xt f (i+1))
 show List.Perm _ (List.range (i+1))
 rw [List.range_succ]
 refine List.perm_middle.trans ?_
 rw [List.take_append_drop]
 exact ((Xt f i).1.cons i).trans (List.perm_append_comm (l₁:=[i]))
theorem qh (f:Nat→Nat) (n:Nat):(byL f n).length=n:=(Xt f n).1.len
def rsG:Nat→Nat→List Nat
 | 0,_=>[]
 | f+1,k=>if k=0 then [] else ((k-1) % 2)::rsG f ((k-1) / 2)
def rsF (k:Nat):List Nat:=rsG k k
theorem AGz:∀ (f g k:Nat),k≤f→k≤g→rsG f k=rsG g k
 | 0,0,_,_,_=>rfl
 | 0,g+1,k,h,_=>by
   have:k=0:=by omega
   subst this;simp [rsG]
 | f+1,0,k,_,h=>by
   have:k=0:=by omega
   subst this;simp [rsG]
 | f+1,g+1,k,h1,h2=>by
   unfold rsG
   by_cases hk:k=0
   ·rw [if_pos hk,if_pos hk]
   ·rw [if_neg hk,if_neg hk,AGz f g ((k-1) / 2) (by omega) (by omega)]
theorem XK:rsF 0=[]:=rfl
theorem YR {k:Nat} (h:0<k):rsF k=((k-1) % 2)::rsF ((k-1) / 2):=by
 obtain ⟨q,rfl⟩:∃ q,k=q+1:=⟨k-1,by omega⟩
 show rsG (q+1) (q+1)=_
 unfold rsG
 rw [if_neg (by omega)]
 unfold rsF
 rw [AGz q ((q+1-1) / 2) ((q+1-1) / 2) (by omega) (Nat.le_refl _)]
theorem ARw (k:Nat):∀ d∈rsF k,d<2:=by
 induction k using Nat.strongRecOn with
 | ind k ih =>
   rcases Nat.eq_zero_or_pos k with rfl | h
   ·simp [XK]
   ·rw [YR h]
    intro d hd
    rcases List.mem_cons.1 hd with rfl | hd
    ·omega
    ·exact ih _ (by omega) d hd
theorem qi (k:Nat):(rsF k).length≤k:=by
 induction k using Nat.strongRecOn with
 | ind k ih =>
   rcases Nat.eq_zero_or_pos k with rfl | h
   ·simp [XK]
   ·rw [YR h,List.length_cons]
    have:=ih ((k-1) / 2) (by omega)
    omega
theorem AZs {k:Nat} (h:0<k):rsF k≠[]:=by rw [YR h];simp
def rsZ (k:Int):List Int:=if 1≤k∧k≤600 then ints (rsF k.toNat) else []
theorem AAf {k:Nat} (h1:1≤k) (h2:k≤600):rsZ k=ints (rsF k):=by unfold rsZ;rw [if_pos (by omega),Int.toNat_natCast]
theorem ADu {k:Int} (h:¬ (1≤k∧k≤600)):rsZ k=[]:=by unfold rsZ;rw [if_neg h]
def Ze:Nat→List Nat→List Nat
 | r,[]=>rsF r
 | r,0::l=>Ze (r+1) l
 | r,(x+1)::l=>rsF r++(x+2)::Ze 0 l
theorem XQ (r:Nat):Ze r []=rsF r:=by rw [Ze]
theorem YC (r:Nat) (l:List Nat):Ze r (0::l)=Ze (r+1) l:=by rw [Ze]
theorem Jv (r:Nat) {x:Nat} (h:0<x) (l:List Nat):Ze r (x::l)=rsF r++(x+1)::Ze 0 l:=by
 obtain ⟨q,rfl⟩:∃ q,x=q+1:=⟨x-1,by omega⟩
 rw [Ze]
theorem Jw:∀ (l:List Nat) (r:Nat),(Ze r l).length≤r+l.length
 | [],r=>by rw [XQ];have:=qi r;simpa using this
 | 0::l,r=>by rw [YC,List.length_cons];have:=Jw l (r+1);omega
 | (x+1)::l,r=>by
   rw [Jv r (by omega),List.length_append,List.length_cons,List.length_cons]
   have:=Jw l 0
   have:=qi r
   omega
theorem qN (m:Nat):∀ (l:List Nat) (r:Nat),(∀ x∈l,x<m)→∀ y∈Ze r l,y≤m+1
 | [],r,_,y,hy=>by rw [XQ] at hy;have:=ARw r y hy;omega
 | 0::l,r,h,y,hy=>by rw [YC] at hy;exact qN m l (r+1) (fun x hx=>h x (List.mem_cons_of_mem _ hx)) y hy
 | (x+1)::l,r,h,y,hy=>by
   rw [Jv r (by omega)] at hy
   rcases List.mem_append.1 hy with hy | hy
   ·have:=ARw r y hy;omega
   ·rcases List.mem_cons.1 hy with rfl | hy
    ·have:=h (x+1) (List.mem_cons_self ..);omega
    ·exact qN m l 0 (fun x hx=>h x (List.mem_cons_of_mem _ hx)) y hy
def ZP (z:List Int) (n:Int):List Int:=if rOk z n=true then ints (Ze 0 (z.map Int.toNat)++[n.toNat+1]) else []
theorem VJ {L:List Nat} {m:Nat} (h:rOk (ints L) m=true):ZP (ints L) m=ints (Ze 0 L++[m+1]):=by
 unfold ZP;rw [if_pos h,Jf];rfl
theorem jD {z:List Int} {n:Int} (h:rOk z n=false):ZP z n=[]:=by unfold ZP;rw [h];rfl
theorem yx:∀ (k r:Nat) (l:List Nat),Ze r (List.replicate k 0++l)=Ze (r+k) l
 | 0,r,l=>by simp
 | k+1,r,l=>by
   rw [List.replicate_succ,List.cons_append,YC,yx k (r+1) l]
   congr 1;omega
def QW (x:Nat):Nat→List Nat→List Nat
 | _,[]=>[]
 | g,y::ys=>if x<y then QW x (g+1) ys else if y=x then g::QW x 0 ys else QW x g ys
def Yd (L:List Nat) (x:Nat):List Nat:=QW x 0 L
def Qs (L:List Nat) (k:Nat):List Nat:=(List.range k).flatMap (Yd L)
theorem je (L:List Nat) (k:Nat):Qs L (k+1)=Qs L k++Yd L k:=by simp [Qs,List.range_succ]
theorem qQ {x g y:Nat} (ys:List Nat) (h:x<y):QW x g (y::ys)=QW x (g+1) ys:=by rw [QW,if_pos h]
theorem qA {x g:Nat} (ys:List Nat):QW x g (x::ys)=g::QW x 0 ys:=by rw [QW,if_neg (by omega),if_pos rfl]
theorem qU {x g y:Nat} (ys:List Nat) (h:y<x):QW x g (y::ys)=QW x g ys:=by rw [QW,if_neg (by omega),if_neg (by omega)]
theorem Yh (x:Nat):∀ (L:List Nat) (g:Nat),(QW x g L).length=L.count x
 | [],_=>rfl
 | y::ys,g=>by
   by_cases h:x<y
   ·rw [qQ _ h,Yh x ys,List.count_cons_of_ne (by omega)]
   ·by_cases e:y=x
    ·subst e
     rw [qA,List.length_cons,Yh y ys,List.count_cons_self]
    ·rw [qU _ (by omega),Yh x ys,List.count_cons_of_ne e]
theorem qM (x:Nat):∀ (L:List Nat) (g:Nat),∀ y∈QW x g L,y≤g+L.length
 | [],_,y,h=>by cases h
 | z::zs,g,y,h=>by
   by_cases hz:x<z
   ·rw [qQ _ hz] at h
    have:=qM x zs (g+1) y h
    simp only [List.length_cons];omega
   ·by_cases e:z=x
    ·subst e
     rw [qA] at h
     rcases List.mem_cons.1 h with e | e
     ·simp only [List.length_cons];omega
     ·have:=qM z zs 0 y e
      simp only [List.length_cons];omega
    ·rw [qU _ (by omega)] at h
     have:=qM x zs g y h
     simp only [List.length_cons];omega
theorem ABz (m:Nat):∀ (L:List Nat),(∀ x∈L,x<m)→((List.range m).map (fun x=>L.count x)).sum=L.length
 | [],_=>by
   have:((List.range m).map (fun x=>List.count x ([]:List Nat)))=List.replicate m 0:=by
    apply List.ext_getElem <;> simp
   rw [this];simp
 | y::ys,h=>by
   have ih:=ABz m ys (fun x hx=>h x (List.mem_cons_of_mem _ hx))
   have hy:=h y (List.mem_cons_self ..)
   have key:∀ (n:Nat),((List.range n).map (fun x=>(y::ys).count x)).sum=((List.range n).map (fun x=>ys.count x)).sum+if y<n then 1 else 0:=by
    intro n
    induction n with
    | zero=>simp
    | succ n ihn =>
      rw [List.range_succ,List.map_append,List.map_append,List.sum_append,List.sum_append,ihn]
      simp only [List.map_cons,List.map_nil,List.sum_cons,List.sum_nil,Nat.add_zero]
      by_cases e:y=n
      ·subst e
       rw [List.count_cons_self,if_neg (by omega),if_pos (by omega)];omega
      ·rw [List.count_cons_of_ne e]
       by_cases h2:y<n
       ·rw [if_pos h2,if_pos (by omega)];omega
       ·rw [if_neg h2,if_neg (by omega)];omega
   rw [key m,ih,if_pos hy,List.length_cons]
theorem ALi (L:List Nat) (k:Nat):(Qs L k).length=((List.range k).map (fun x=>L.count x)).sum:=by
 unfold Qs
 rw [List.length_flatMap]
 congr 1
 apply List.map_congr_left
 intro x _
 exact Yh x L 0
theorem AFs (f:Nat→Nat) (k n:Nat) (h:k≤n):((List.range k).map f).sum≤((List.range n).map f).sum:=by
 induction n with
 | zero =>
   have h0:k=0:=by omega
   subst h0
   exact Nat.le_refl _
 | succ n ih =>
   rw [List.range_succ,List.map_append,List.sum_append]
   by_cases e:k=n+1
   ·subst e;rw [List.range_succ,List.map_append,List.sum_append];exact Nat.le_refl _
   ·have:=ih (by omega);omega
theorem VE {L:List Nat} {m:Nat} (h:∀ x∈L,x<m) {k:Nat} (hk:k≤m):(Qs L k).length≤L.length:=by
 rw [ALi,←ABz m L h]
 exact AFs _ k m hk
theorem ALu {L:List Nat} {k y:Nat} (h:y∈Qs L k):y≤L.length:=by
 unfold Qs at h
 obtain ⟨x,_,hx⟩:=List.mem_flatMap.1 h
 have:=qM x L 0 y hx
 omega
theorem jf (L:List Nat) (i x:Nat) (h:i<L.length):(L.take (i+1)).count x=(L.take i).count x+if L.getD i 0=x then 1 else 0:=by
 rw [List.take_succ_eq_append_getElem h,List.count_append]
 have e:L.getD i 0=L[i]:=by simp [List.getD_eq_getElem?_getD,h]
 rw [e]
 by_cases h2:L[i]=x
 ·rw [if_pos h2,h2];simp
 ·rw [if_neg h2,List.count_singleton,if_neg (by simpa using h2)]
def invC (z:List Int) (n:Int):List Int:=if rOk z n=true then ints ((List.range n.toNat).map fun x=>(z.map Int.toNat).count x) else []
def invG (z:List Int) (n:Int):List Int:=if rOk z n=true then ints (Qs (z.map Int.toNat) (n.toNat-1)) else []
theorem jX {L:List Nat} {m:Nat} (h:rOk (ints L) m=true):invC (ints L) m=ints ((List.range m).map fun x=>L.count x):=by unfold invC;rw [if_pos h,Jf];rfl
theorem jJ {L:List Nat} {m:Nat} (h:rOk (ints L) m=true):invG (ints L) m=ints (Qs L (m-1)):=by unfold invG;rw [if_pos h,Jf];rfl
theorem AJp {z:List Int} {n:Int} (h:rOk z n=false):invC z n=[]:=by unfold invC;rw [h];rfl
theorem AKs {z:List Int} {n:Int} (h:rOk z n=false):invG z n=[]:=by unfold invG;rw [h];rfl
end Go.Proofs.YtembljihmnmmfaaGreat
namespace Go.Proofs.YtembljihmnmmfaaGreat
set_option linter.unusedVariables false
set_option linter.unusedSimpArgs false
open Go.RowKit
theorem Ys (m t:Int) (b:Bool) (w:World) :
 Calls Tryz.prog 18 #[.agg #[.int .i64 m,.bool b,.int .i64 t]] w fun e w'=>e=.returned (.bool (QH m b t))∧Below w.heap.size w w':=by
 obtain ⟨r,hr⟩:∃ r,QH m b t=r:=⟨_,rfl⟩
 have HR:=Qa hr
 rw [hr]
 clear hr
 by_cases e0:m=0
 ·subst e0
  cases b
  ·by_cases et:t=0
   ·subst et
    obtain rfl:true=r:=HR.out
    clear HR
    go_enter Tryz.func18,Tryz.ntmps18
    go_wp2
    go_ret
    exact ⟨rfl,(Below.refl _ _).alloc (Nat.le_refl _) _⟩
   ·obtain rfl:false=r:=by rw [←HR.out];unfold QH;simp [et]
    have hb:(t == 0)=false:=beq_eq_false_iff_ne.2 et
    clear HR
    go_enter Tryz.func18,Tryz.ntmps18
    go_wp2
    go_ret
    exact ⟨rfl,(Below.refl _ _).alloc (Nat.le_refl _) _⟩
  ·obtain rfl:false=r:=by rw [←HR.out];unfold QH;simp
   clear HR
   go_enter Tryz.func18,Tryz.ntmps18
   go_wp2
   go_ret
   exact ⟨rfl,(Below.refl _ _).alloc (Nat.le_refl _) _⟩
 have hb0:(m == 0)=false:=beq_eq_false_iff_ne.2 e0
 by_cases e12:m=1∨m=2
 ·have h12:∃ k:Int,m=k∧(k=1∨k=2):=⟨m,rfl,e12⟩
  by_cases h1:1≤t
  ·by_cases h4:t≤4
   ·obtain rfl:true=r:=by rw [←HR.out];unfold QH;rcases e12 with rfl | rfl <;> simp [h1,h4]
    clear HR h12
    rcases e12 with rfl | rfl
    all_goals
     go_enter Tryz.func18,Tryz.ntmps18
     go_wp2
     go_ret
     exact ⟨rfl,(Below.refl _ _).alloc (Nat.le_refl _) _⟩
   ·obtain rfl:false=r:=by rw [←HR.out];unfold QH;rcases e12 with rfl | rfl <;> simp [h4]
    clear HR h12
    rcases e12 with rfl | rfl
    all_goals
     go_enter Tryz.func18,Tryz.ntmps18
     go_wp2
     go_ret
     exact ⟨rfl,(Below.refl _ _).alloc (Nat.le_refl _) _⟩
  ·obtain rfl:false=r:=by rw [←HR.out];unfold QH;rcases e12 with rfl | rfl <;> simp [h1]
   clear HR h12
   rcases e12 with rfl | rfl
   all_goals
    go_enter Tryz.func18,Tryz.ntmps18
    go_wp2
    go_ret
    exact ⟨rfl,(Below.refl _ _).alloc (Nat.le_refl _) _⟩
 have e1:¬ m=1:=fun h=>e12 (.inl h)
 have e2:¬ m=2:=fun h=>e12 (.inr h)
 have hb1:(m == 1)=false:=beq_eq_false_iff_ne.2 e1
 have hb2:(m == 2)=false:=beq_eq_false_iff_ne.2 e2
 clear e12
 by_cases e3:m=3
 ·subst e3
  by_cases et:t=0
  ·subst et
   obtain rfl:true=r:=by rw [←HR.out];unfold QH;simp
   clear HR e0 e1 e2 hb0 hb1 hb2
   go_enter Tryz.func18,Tryz.ntmps18
   go_wp2
   go_ret
   exact ⟨rfl,(Below.refl _ _).alloc (Nat.le_refl _) _⟩
  ·obtain rfl:false=r:=by rw [←HR.out];unfold QH;simp [et]
   have hb:(t == 0)=false:=beq_eq_false_iff_ne.2 et
   clear HR e0 e1 e2 hb0 hb1 hb2
   go_enter Tryz.func18,Tryz.ntmps18
   go_wp2
   go_ret
   exact ⟨rfl,(Below.refl _ _).alloc (Nat.le_refl _) _⟩
 have hb3:(m == 3)=false:=beq_eq_false_iff_ne.2 e3
 obtain rfl:false=r:=by rw [←HR.out];unfold QH;simp [e0,e1,e2,e3]
 clear HR
 go_enter Tryz.func18,Tryz.ntmps18
 go_wp2
 go_ret
 exact ⟨rfl,(Below.refl _ _).alloc (Nat.le_refl _) _⟩
theorem Yl {w w':World} {base:Nat} {e:TypeId} {size:Nat} {v:Value} {n:Nat} {xs:List Value} (h:w.ownsRow base e size v n xs) (hb:∀ i,i<w.heap.size→w'.heap[i]? = w.heap[i]?):w'.ownsRow base e size v n xs:=by
 refine ⟨h.1,?_⟩
 rcases h.2 with h2 | ⟨g,cap,cur,hv,hg,hc,hr⟩
 ·exact .inl h2
 ·exact .inr ⟨g,cap,cur,hv,hg,(hb g ((Array.getElem?_eq_some_iff.1 hc).1)).trans hc,hr⟩
theorem YH {w:World} {base n S:Nat} {E:TypeId} {v:Value} {xs:List Value} (h:w.ownsRow base E S v n xs) {p:Addr} (hp:v.ownBlock≠some p.block) (u:Value):(w.setCell p u).ownsRow base E S v n xs:=ownsRow_setCell_other h hp u
end Go.Proofs.YtembljihmnmmfaaGreat
namespace Go.Proofs.YtembljihmnmmfaaGreat
set_option linter.unusedVariables false
set_option linter.unusedSimpArgs false
def rsum:Nat→(Nat→Nat)→Nat
 | 0,_=>0
 | n+1,f=>rsum n f+f n
theorem Jb {n:Nat} {f g:Nat→Nat} (h:∀ j,j<n→f j=g j):rsum n f=rsum n g:=by
 induction n with
 | zero=>rfl
 | succ n ih=>show rsum n f+f n=rsum n g+g n;rw [ih fun j hj=>h j (by omega),h n (by omega)]
theorem ASn (n:Nat) (f g:Nat→Nat):rsum n (fun j=>f j+g j)=rsum n f+rsum n g:=by
 induction n with
 | zero=>rfl
 | succ n ih=>show rsum n _+(f n+g n)=rsum n f+f n+(rsum n g+g n);rw [ih];omega
theorem AGy (n c:Nat) (f:Nat→Nat):rsum n (fun j=>c*f j)=c*rsum n f:=by
 induction n with
 | zero=>rfl
 | succ n ih=>show rsum n _+c*f n=c*(rsum n f+f n);rw [ih,Nat.mul_add]
theorem AWp {n:Nat} {f g:Nat→Nat} (h:∀ j,j<n→f j≤g j):rsum n f≤rsum n g:=by
 induction n with
 | zero=>exact Nat.le_refl _
 | succ n ih=>exact Nat.add_le_add (ih fun j hj=>h j (by omega)) (h n (by omega))
theorem AFe (n:Nat):rsum n (fun _=>1)=n:=by
 induction n with
 | zero=>rfl
 | succ n ih=>show rsum n _+1=_;rw [ih]
theorem APh (n:Nat):rsum n (fun _=>0)=0:=by
 induction n with
 | zero=>rfl
 | succ n ih=>show rsum n _+0=_;rw [ih]
theorem ALb (a b:Nat) (f:Nat→Nat):rsum (a+b) f=rsum a f+rsum b (fun j=>f (a+j)):=by
 induction b with
 | zero=>rfl
 | succ b ih=>show rsum (a+b) f+f (a+b)=rsum a f+(rsum b _+f (a+b));rw [ih];omega
theorem yh (n:Nat) (f:Nat→Nat):((List.range n).map f).sum=rsum n f:=by
 induction n with
 | zero=>rfl
 | succ n ih=>rw [List.range_succ,List.map_append,List.sum_append,ih];simp [rsum]
def Sorted (l:List Nat):Prop:=l.Pairwise (·≤·)
abbrev Item:=Nat × Int
def wts (r:List Item):List Nat:=r.map Prod.fst
def QR (x:Item):Bool:=decide (0≤x.2)
def packs:List Item→List Nat
 | a::b::r=>(a.1+b.1)::packs r
 | _=>[]
def Qn:List Item→List Nat→List Item
 | L,[]=>L
 | [],p::P=>(p,-1)::Qn [] P
 | x::L,p::P=>if x.1≤p then x::Qn L (p::P) else (p,-1)::Qn (x::L) P
termination_by L P=>L.length+P.length
def rowM (L:List Item):Nat→List Item
 | 0=>L
 | k+1=>Qn L (packs (rowM L k))
theorem Jt (r:List Item):(packs r).length=r.length / 2:=by
 induction r using packs.induct with
 | case1 a b r ih=>simp only [packs,List.length_cons,ih];omega
 | case2 r h=>cases r with
   | nil=>simp [packs]
   | cons a r=>cases r with
     | nil=>simp [packs]
     | cons b r=>exact absurd rfl (h a b r)
theorem zz (r:List Item) (h:Sorted (wts r)):Sorted (packs r)∧∀ c,(∀ x∈wts r,c≤x)→∀ p∈packs r,c≤p:=by
 induction r using packs.induct with
 | case1 a b r ih =>
   simp only [wts,List.map_cons,Sorted,List.pairwise_cons] at h
   obtain ⟨h1,h2,h3⟩:=h
   obtain ⟨i1,i2⟩:=ih h3
   refine ⟨?_,?_⟩
   ·simp only [packs,Sorted,List.pairwise_cons]
    refine ⟨fun p hp=>?_,i1⟩
    have:∀ (r:List Item) (c:Nat),(∀ x∈wts r,c≤x)→∀ p∈packs r,c+c≤p:=by
     intro r
     induction r using packs.induct with
     | case1 a b r ih =>
       intro c hc p hp
       simp only [packs,List.mem_cons] at hp
       simp only [wts,List.map_cons,List.mem_cons] at hc
       have e1:=hc a.1 (.inl rfl)
       have e2:=hc b.1 (.inr (.inl rfl))
       rcases hp with rfl | hp
       ·omega
       ·exact ih c (fun x hx=>hc x (.inr (.inr hx))) p hp
     | case2 r h=>intro c _ p hp;cases r with
       | nil=>simp [packs] at hp
       | cons a r=>cases r with
         | nil=>simp [packs] at hp
         | cons b r=>exact absurd rfl (h a b r)
    have e:=this r b.1 h2 p hp
    have e1:=h1 b.1 (by simp)
    omega
   ·intro c hc p hp
    simp only [packs,List.mem_cons] at hp
    rcases hp with rfl | hp
    ·have:=hc a.1 (by simp [wts]);omega
    ·exact i2 c (fun x hx=>hc x (by simp [wts] at hx ⊢;exact .inr (.inr hx))) p hp
 | case2 r h2=>cases r with
   | nil=>exact ⟨by simp [packs,Sorted],by simp [packs]⟩
   | cons a r=>cases r with
     | nil=>exact ⟨by simp [packs,Sorted],by simp [packs]⟩
     | cons b r=>exact absurd rfl (h2 a b r)
theorem ANl (L:List Item) (P:List Nat):(Qn L P).length=L.length+P.length:=by
 induction L,P using Qn.induct with
 | case1 L=>simp [Qn]
 | case2 p P ih=>rw [Qn,List.length_cons,ih];simp
 | case3 x L p P h ih=>rw [Qn,if_pos h,List.length_cons,ih];simp;omega
 | case4 x L p P h ih=>rw [Qn,if_neg h,List.length_cons,ih];simp;omega
theorem YF (L : List Item) (P : List Nat) : ∀ y ∈ wts (Qn L P), y ∈ wts L ∨ y ∈ P := by
  induction L, P using Qn.induct with
  | case1 L => intro y hy; rw [Qn] at hy; exact .inl hy
  | case2 p P ih => intro y hy; rw [Qn] at hy; simp only [wts, List.map_cons, List.mem_cons] at hy ⊢; rcases hy with rfl | hy
                    · exact .inr (.inl rfl)
                    · rcases ih y hy with h | h
                      · exact .inl h
                      · exact .inr (.inr h)
  | case3 x L p P h ih => intro y hy; rw [Qn, if_pos h] at hy; simp only [wts, List.map_cons, List.mem_cons] at hy ⊢; rcases hy with rfl | hy
                          · exact .inl (.inl rfl)
                          · rcases ih y hy with h | h
                            · exact .inl (.inr h)
                            · exact .inr (by simpa using h)
  | case4 x L p P h ih => intro y hy; rw [Qn, if_neg h] at hy; simp only [wts, List.map_cons, List.mem_cons] at hy ⊢; rcases hy with rfl | hy
                          · exact .inr (.inl rfl)
                          · rcases ih y hy with h | h
                            · exact .inl (by simpa [wts] using h)
                            · exact .inr (.inr h)
theorem ACi (L:List Item) (P:List Nat) (hL:Sorted (wts L)) (hP:Sorted P):Sorted (wts (Qn L P)):=by
 induction L,P using Qn.induct with
 | case1 L=>rw [Qn];exact hL
 | case2 p P ih =>
   rw [Qn]
   simp only [Sorted,List.pairwise_cons] at hP
   simp only [wts,List.map_cons,Sorted,List.pairwise_cons]
   refine ⟨fun y hy=>?_,ih hL hP.2⟩
   rcases YF [] P y hy with h | h
   ·simp [wts] at h
   ·exact hP.1 y h
 | case3 x L p P h ih =>
   rw [Qn,if_pos h]
   have hL':=hL
   simp only [wts,List.map_cons,Sorted,List.pairwise_cons] at hL
   simp only [wts,List.map_cons,Sorted,List.pairwise_cons]
   refine ⟨fun y hy=>?_,ih hL.2 hP⟩
   rcases YF L (p::P) y hy with h1 | h1
   ·exact hL.1 y h1
   ·simp only [Sorted,List.pairwise_cons] at hP
    rcases List.mem_cons.1 h1 with rfl | h1
    ·exact h
    ·exact Nat.le_trans h (hP.1 y h1)
 | case4 x L p P h ih =>
   rw [Qn,if_neg h]
   have hP':=hP
   simp only [Sorted,List.pairwise_cons] at hP
   simp only [wts,List.map_cons,Sorted,List.pairwise_cons]
   refine ⟨fun y hy=>?_,ih hL hP.2⟩
   rcases YF (x::L) P y hy with h1 | h1
   ·simp only [wts,List.map_cons,Sorted,List.pairwise_cons] at hL h1
    rcases List.mem_cons.1 h1 with rfl | h1
    ·omega
    ·have:=hL.1 y h1;omega
   ·exact hP.1 y h1
theorem AIy (L:List Item) (hL:Sorted (wts L)) (k:Nat):Sorted (wts (rowM L k)):=by
 induction k with
 | zero=>exact hL
 | succ k ih=>exact ACi _ _ hL (zz _ ih).1
theorem Jp (L:List Item) (k:Nat):(rowM L (k+1)).length=L.length+(rowM L k).length / 2:=by
 show (Qn L (packs (rowM L k))).length=_
 rw [ANl,Jt]
def cntL (r:List Item) (m:Nat):Nat:=(r.take m).countP QR
theorem AAl (x:Item) (r:List Item) (m:Nat):cntL (x::r) (m+1)=cntL r m+if QR x=true then 1 else 0:=by
 unfold cntL;rw [List.take_succ_cons,List.countP_cons]
theorem xq (r:List Item) (m:Nat):cntL r m≤m:=by
 unfold cntL
 exact Nat.le_trans List.countP_le_length (by rw [List.length_take];omega)
theorem Jr (L:List Item) (hL:∀ x∈L,QR x=true) (m:Nat) (h:m≤L.length):cntL L m=m:=by
 unfold cntL
 rw [List.countP_eq_length.2 fun x hx=>hL x (List.mem_of_mem_take hx),List.length_take];omega
theorem AAu (p:Nat):QR (p,-1)=false:=rfl
theorem ABs {x:Item} (h:QR x=true) (r:List Item) (m:Nat):cntL (x::r) (m+1)=cntL r m+1:=by rw [AAl,if_pos h]
theorem zE (p:Nat) (r:List Item) (m:Nat):cntL ((p,-1)::r) (m+1)=cntL r m:=by rw [AAl,if_neg (by simp [AAu])];rfl
theorem xY (p:Nat) (r:List Item):((p,(-1:Int))::r).filter QR=r.filter QR:=List.filter_cons_of_neg (by simp [AAu])
theorem jo (L:List Item) (P:List Nat) (hL:∀ x∈L,QR x=true) (m:Nat) (hm:m≤(Qn L P).length) :
 cntL (Qn L P) m≤L.length∧m-cntL (Qn L P) m≤P.length∧((Qn L P).take m).filter QR=L.take (cntL (Qn L P) m) ∧
 (wts ((Qn L P).take m)).sum=(wts (L.take (cntL (Qn L P) m))).sum+(P.take (m-cntL (Qn L P) m)).sum:=by
 induction L,P using Qn.induct generalizing m with
 | case1 L =>
   simp only [Qn] at hm ⊢
   rw [Jr L hL m hm]
   refine ⟨hm,by omega,List.filter_eq_self.2 fun x hx=>hL x (List.mem_of_mem_take hx),by simp⟩
 | case2 p P ih =>
   cases m with
   | zero=>simp [cntL,wts]
   | succ m =>
     rw [Qn] at hm ⊢
     obtain ⟨i1,i2,i3,i4⟩:=ih hL m (by simpa using hm)
     have hle:=xq (Qn [] P) m
     rw [zE,List.take_succ_cons,xY,show m+1-cntL (Qn [] P) m=m-cntL (Qn [] P) m+1 by omega]
     simp only [wts,List.map_cons,List.take_succ_cons,List.sum_cons,List.length_cons] at i4 ⊢
     exact ⟨i1,by omega,i3,by omega⟩
 | case3 x L p P h ih =>
   cases m with
   | zero=>simp [cntL,wts]
   | succ m =>
     rw [Qn,if_pos h] at hm ⊢
     obtain ⟨i1,i2,i3,i4⟩:=ih (fun y hy=>hL y (by simp [hy])) m (by simpa using hm)
     have hx:=hL x (by simp)
     rw [ABs hx,List.take_succ_cons,List.filter_cons_of_pos hx,i3,show m+1-(cntL (Qn L (p::P)) m+1)=m-cntL (Qn L (p::P)) m by omega]
     simp only [wts,List.map_cons,List.take_succ_cons,List.sum_cons,List.length_cons] at i2 i4 ⊢
     exact ⟨by omega,by omega,trivial,by omega⟩
 | case4 x L p P h ih =>
   cases m with
   | zero=>simp [cntL,wts]
   | succ m =>
     rw [Qn,if_neg h] at hm ⊢
     obtain ⟨i1,i2,i3,i4⟩:=ih hL m (by simpa using hm)
     have hle:=xq (Qn (x::L) P) m
     rw [zE,List.take_succ_cons,xY,i3,show m+1-cntL (Qn (x::L) P) m=m-cntL (Qn (x::L) P) m+1 by omega]
     simp only [wts,List.map_cons,List.take_succ_cons,List.sum_cons,List.length_cons] at i4 ⊢
     exact ⟨i1,by omega,trivial,by omega⟩
theorem AJg (L:List Item) (P:List Nat) (hL:∀ x∈L,QR x=true) (hs:Sorted (wts L)) (m:Nat) (hm:m≤(Qn L P).length) (hp:0<m-cntL (Qn L P) m) :
 ∀ y∈wts (L.drop (cntL (Qn L P) m)),P.getD (m-cntL (Qn L P) m-1) 0<y:=by
 induction L,P using Qn.induct generalizing m with
 | case1 L =>
   simp only [Qn] at hm hp
   rw [Jr L hL m hm] at hp;omega
 | case2 p P ih=>intro y hy;simp [wts] at hy
 | case3 x L p P h ih =>
   cases m with
   | zero=>simp at hp
   | succ m =>
     rw [Qn,if_pos h] at hm hp ⊢
     have hx:=hL x (by simp)
     rw [ABs hx] at hp ⊢
     rw [show m+1-(cntL (Qn L (p::P)) m+1)=m-cntL (Qn L (p::P)) m by omega] at hp ⊢
     simp only [wts,List.map_cons,Sorted,List.pairwise_cons] at hs
     exact ih (fun y hy=>hL y (by simp [hy])) hs.2 m (by simpa using hm) hp
 | case4 x L p P h ih =>
   cases m with
   | zero=>simp at hp
   | succ m =>
     rw [Qn,if_neg h] at hm hp ⊢
     have hle:=xq (Qn (x::L) P) m
     rw [zE] at hp ⊢
     by_cases h0:0<m-cntL (Qn (x::L) P) m
     ·have:=ih hL hs m (by simpa using hm) h0
      rw [show m+1-cntL (Qn (x::L) P) m-1=(m-cntL (Qn (x::L) P) m-1)+1 by omega]
      simpa using this
     ·rw [show m+1-cntL (Qn (x::L) P) m-1=0 by omega]
      intro y hy
      have hy2:y∈wts (x::L):=by
       simp only [wts,List.mem_map] at hy ⊢
       obtain ⟨z,hz,rfl⟩:=hy
       exact ⟨z,List.mem_of_mem_drop hz,rfl⟩
      simp only [wts,List.map_cons,Sorted,List.pairwise_cons,List.mem_cons] at hs hy2
      show p<y
      rcases hy2 with rfl | hy2
      ·omega
      ·have:=hs.1 y hy2;omega
theorem ATp (r:List Item) (m:Nat):wts (r.take m)=(wts r).take m:=by simp [wts,List.map_take]
theorem Jh (L:List Item) (hL:∀ x∈L,QR x=true) (k m:Nat) (hm:m≤(rowM L k).length):cntL (rowM L k) m≤L.length∧((rowM L k).take m).filter QR=L.take (cntL (rowM L k) m):=by
 cases k with
 | zero =>
   show cntL L m≤_∧(L.take m).filter QR=L.take (cntL L m)
   rw [Jr L hL m hm]
   exact ⟨hm,List.filter_eq_self.2 fun x hx=>hL x (List.mem_of_mem_take hx)⟩
 | succ k=>have:=jo L (packs (rowM L k)) hL m hm;exact ⟨this.1,this.2.2.1⟩
theorem AOi (r:List Item) (hs:Sorted (wts r)) (p:Nat) (hp:0<p) (h:2*p≤r.length):∀ y∈wts (r.take (2*p)),y≤(packs r).getD (p-1) 0:=by
 induction r using packs.induct generalizing p with
 | case1 a b r ih =>
   simp only [wts,List.map_cons,Sorted,List.pairwise_cons] at hs
   simp only [List.length_cons] at h
   intro y hy
   obtain ⟨q,rfl⟩:∃ q,p=q+1:=⟨p-1,by omega⟩
   rw [show 2*(q+1)=2*q+1+1 by omega] at hy
   simp only [wts,List.take_succ_cons,List.map_cons,List.mem_cons] at hy
   cases q with
   | zero =>
     simp only [Nat.mul_zero,List.take_zero,List.map_nil,List.not_mem_nil,or_false] at hy
     show y≤a.1+b.1
     omega
   | succ q =>
     have hq:q<(packs r).length:=by rw [Jt];omega
     have hmem:(packs r).getD q 0∈packs r:=by
      rw [List.getD_eq_getElem?_getD,List.getElem?_eq_getElem hq];exact List.getElem_mem hq
     have hb:=(zz r hs.2.2).2 b.1 hs.2.1 _ hmem
     have hab:=hs.1 b.1 (by simp)
     have i:=ih hs.2.2 (q+1) (by omega) (by omega)
     show y≤(packs r).getD q 0
     rcases hy with rfl | rfl | hy
     ·omega
     ·exact hb
     ·exact i y hy
 | case2 r h2=>cases r with
   | nil=>simp at h;omega
   | cons a r=>cases r with
     | nil=>simp at h;omega
     | cons b r=>exact absurd rfl (h2 a b r)
theorem YO (L:List Item) (hL:∀ x∈L,QR x=true) (k m:Nat) (hm:m≤(rowM L (k+1)).length):2*(m-cntL (rowM L (k+1)) m)≤(rowM L k).length:=by
 have:=(jo L (packs (rowM L k)) hL m hm).2.1
 rw [Jt] at this
 show 2*(m-cntL (Qn L (packs (rowM L k))) m)≤_
 omega
theorem AAe (L:List Item) (hL:∀ x∈L,QR x=true) (hs:Sorted (wts L)) (k m:Nat) (hm:m≤(rowM L (k+1)).length) :
 cntL (rowM L k) (2*(m-cntL (rowM L (k+1)) m))≤cntL (rowM L (k+1)) m:=by
 have hroom:=YO L hL k m hm
 obtain ⟨a,ha⟩:∃ a,a=cntL (rowM L (k+1)) m:=⟨_,rfl⟩
 rw [←ha] at hroom ⊢
 by_cases hp:0<m-a
 ·have hrest:=AJg L (packs (rowM L k)) hL hs m hm (by show 0<m-cntL (rowM L (k+1)) m;rw [←ha];exact hp)
  have hrest':∀ y∈wts (L.drop a),(packs (rowM L k)).getD (m-a-1) 0<y:=by rw [ha];exact hrest
  have htop:=AOi (rowM L k) (AIy L hs k) (m-a) hp hroom
  have hf:=Jh L hL k (2*(m-a)) hroom
  rcases Nat.lt_or_ge a (cntL (rowM L k) (2*(m-a))) with hlt | hge
  ·exfalso
   have haL:a<L.length:=by omega
   have hin:L[a]∈L.take (cntL (rowM L k) (2*(m-a))):=List.mem_take_iff_getElem.2 ⟨a,by omega,rfl⟩
   rw [←hf.2,List.mem_filter] at hin
   have h1:=htop L[a].1 (List.mem_map_of_mem hin.1)
   have h2:=hrest' L[a].1 (List.mem_map_of_mem (List.mem_drop_iff_getElem.2 ⟨0,by omega,by simp⟩))
   omega
  ·exact hge
 ·have:m-a=0:=by omega
  rw [this];simp [cntL]
def lenJ (L:List Item):Nat→Nat→Nat→Nat
 | 0,m,j=>if j<cntL (rowM L 0) m then 1 else 0
 | k+1,m,j=>(if j<cntL (rowM L (k+1)) m then 1 else 0)+lenJ L k (2*(m-cntL (rowM L (k+1)) m)) j
theorem vS (L:List Item) (k m j:Nat):lenJ L k m j≤k+1:=by
 induction k generalizing m with
 | zero=>unfold lenJ;split <;> omega
 | succ k ih=>unfold lenJ;have:=ih (2*(m-cntL (rowM L (k+1)) m));split <;> omega
theorem AQv (L:List Item) (hL:∀ x∈L,QR x=true) (hs:Sorted (wts L)) (k m j:Nat) (hm:m≤(rowM L k).length) (hj:cntL (rowM L k) m≤j):lenJ L k m j=0:=by
 induction k generalizing m with
 | zero=>unfold lenJ;rw [if_neg (by omega)]
 | succ k ih =>
   unfold lenJ
   rw [if_neg (by omega),ih _ (YO L hL k m hm) (Nat.le_trans (AAe L hL hs k m hm) hj)]
theorem ASg (L:List Item) (k m j:Nat) (hj:j<cntL (rowM L k) m):1≤lenJ L k m j:=by
 cases k with
 | zero=>unfold lenJ;rw [if_pos hj];omega
 | succ k=>unfold lenJ;rw [if_pos hj];omega
theorem APe (L:List Item) (k m i j:Nat) (h:i≤j):lenJ L k m j≤lenJ L k m i:=by
 induction k generalizing m with
 | zero=>unfold lenJ;split <;> split <;> omega
 | succ k ih=>unfold lenJ;have:=ih (2*(m-cntL (rowM L (k+1)) m));split <;> split <;> omega
theorem ASm (L:List Item) (hL:∀ x∈L,QR x=true) (hs:Sorted (wts L)) (k m:Nat) (hm:m≤(rowM L k).length) :
 rsum (cntL (rowM L k) m) (fun j=>2^(k+1-lenJ L k m j))+m*2^k=2*cntL (rowM L k) m*2^k:=by
 induction k generalizing m with
 | zero =>
   have hc:cntL (rowM L 0) m=m:=Jr L hL m hm
   rw [hc,Jb (g:=fun _=>1) fun j hj=>by rw [lenJ,hc,if_pos hj],AFe]
   omega
 | succ k ih =>
   have hroom:=YO L hL k m hm
   have hn:=AAe L hL hs k m hm
   have i:=ih _ hroom
   have hle:=xq (rowM L (k+1)) m
   obtain ⟨a,ha⟩:∃ a,a=cntL (rowM L (k+1)) m:=⟨_,rfl⟩
   obtain ⟨c,hc⟩:∃ c,c=cntL (rowM L k) (2*(m-a)):=⟨_,rfl⟩
   rw [←ha] at hroom hn i hle ⊢
   rw [←hc] at hn i
   obtain ⟨d,rfl⟩:∃ d,a=c+d:=⟨a-c,by omega⟩
   rw [ALb]
   have e1:rsum c (fun j=>2^(k+1+1-lenJ L (k+1) m j))=rsum c (fun j=>2^(k+1-lenJ L k (2*(m-(c+d))) j)) :=
    Jb fun j hj=>by
     rw [lenJ,←ha,if_pos (by omega)]
     congr 1;omega
   have e2:rsum d (fun j=>2^(k+1+1-lenJ L (k+1) m (c+j)))=rsum d (fun _=>2^(k+1)*1) :=
    Jb fun j hj=>by
     rw [lenJ,←ha,if_pos (by omega),AQv L hL hs k _ (c+j) hroom (by omega)]
     simp
   rw [e1,e2,AGy,AFe]
   obtain ⟨p,hp⟩:∃ p,m=c+d+p:=⟨m-(c+d),by omega⟩
   rw [show m-(c+d)=p by omega] at i ⊢
   rw [hp,Nat.pow_succ]
   generalize 2^k=q at i ⊢
   generalize rsum c (fun j=>2^(k+1-lenJ L k (2*p) j))=R at i ⊢
   have h1:(c+d+p)*(q*2)=c*q*2+d*q*2+p*q*2:=by rw [←Nat.mul_assoc,Nat.add_mul,Nat.add_mul,Nat.add_mul,Nat.add_mul]
   have h2:2*(c+d)*(q*2)=c*q*4+d*q*4:=by
    rw [show 2*(c+d)*(q*2)=(c+d)*q*4 by rw [Nat.mul_comm 2,Nat.mul_assoc,←Nat.mul_assoc 2 q 2,Nat.mul_comm 2 q,Nat.mul_assoc q 2 2,←Nat.mul_assoc],Nat.add_mul,Nat.add_mul]
   have h3:2*p*q=p*q*2:=by rw [Nat.mul_assoc,Nat.mul_comm]
   have h4:2*c*q=c*q*2:=by rw [Nat.mul_assoc,Nat.mul_comm]
   have h5:q*2*d=d*q*2:=by rw [Nat.mul_comm,←Nat.mul_assoc]
   rw [h3,h4] at i
   rw [h1,h2,h5]
   omega
theorem qT (L:List Item) (k:Nat):(rowM L k).length≤2*L.length:=by
 induction k with
 | zero=>show L.length≤_;omega
 | succ k ih=>rw [Jp];omega
theorem xL (L:List Item) (k:Nat) (h:L.length≤2^(k+1)):2*L.length-2≤(rowM L k).length:=by
 have key:∀ k,2^k*(2*L.length-(rowM L k).length)<L.length+2^k:=by
  intro k
  induction k with
  | zero=>show 1*(2*L.length-L.length)<_;simp;omega
  | succ k ih =>
    have hm:=qT L k
    have hl:=Jp L k
    obtain ⟨c,hc⟩:∃ c,c=2*L.length-(rowM L k).length:=⟨_,rfl⟩
    rw [←hc] at ih
    have e:2*L.length-(rowM L (k+1)).length≤(c+1) / 2:=by omega
    have h1:2^(k+1)*(2*L.length-(rowM L (k+1)).length)≤2^(k+1)*((c+1) / 2):=Nat.mul_le_mul_left _ e
    have h2:2^(k+1)*((c+1) / 2)≤2^k*(c+1):=by
     rw [Nat.pow_succ,Nat.mul_assoc];exact Nat.mul_le_mul_left _ (by omega)
    rw [Nat.mul_add] at h2
    rw [Nat.pow_succ] at h1 h2 ⊢
    omega
 have h0:=key k
 rw [Nat.pow_succ] at h
 rcases Nat.lt_or_ge (2*L.length-(rowM L k).length) 3 with h3 | h3
 ·omega
 ·have:=Nat.mul_le_mul_left (2^k) h3
  omega
theorem APs (L:List Item) (hL:∀ x∈L,QR x=true) (hs:Sorted (wts L)) (h2:2≤L.length) (k m:Nat) (hm:m≤(rowM L k).length) (h:2*L.length-2≤m):cntL (rowM L k) m=L.length:=by
 have hle:=(Jh L hL k m hm).1
 induction k generalizing m with
 | zero =>
   have hc:cntL (rowM L 0) m=m:=Jr L hL m hm
   have:m≤L.length:=hm
   rw [hc] at hle ⊢;omega
 | succ k ih =>
   rcases Nat.lt_or_ge (cntL (rowM L (k+1)) m) L.length with hlt | hge
   ·exfalso
    have hroom:=YO L hL k m hm
    have:=ih _ hroom (by omega) (Jh L hL k _ hroom).1
    have hn:=AAe L hL hs k m hm
    omega
   ·omega
theorem ASx (L:List Item) (hL:∀ x∈L,QR x=true) (hs:Sorted (wts L)) (h2:2≤L.length) (k:Nat) (hk:L.length≤2^(k+1)) :
 rsum L.length (fun j=>2^(k+1-lenJ L k (2*L.length-2) j))=2^(k+1):=by
 have hm:=xL L k hk
 have ht:=APs L hL hs h2 k _ hm (Nat.le_refl _)
 have:=ASm L hL hs k _ hm
 rw [ht] at this
 rw [Nat.pow_succ]
 have e:2*L.length*2^k=(2*L.length-2)*2^k+2*2^k:=by rw [←Nat.add_mul];congr 1;omega
 omega
end Go.Proofs.YtembljihmnmmfaaGreat
namespace Go.Proofs.YtembljihmnmmfaaGreat
set_option linter.unusedVariables false
set_option linter.unusedSimpArgs false
open Go.RowKit
def Qi:List Item→List Value
 | []=>[]
 | x::r=>.int .i64 (x.1:Int)::.int .i64 x.2::Qi r
theorem ZD (r:List Item):(Qi r).length=r.length*2:=by
 induction r with
 | nil=>rfl
 | cons x r ih=>simp only [Qi,List.length_cons,ih];omega
theorem QQ (r s:List Item):Qi (r++s)=Qi r++Qi s:=by
 induction r with
 | nil=>rfl
 | cons x r ih=>simp [Qi,ih]
theorem ZJ (r:List Item) (j:Nat) (h:j<r.length):(Qi r)[j*2]? = some (.int .i64 (r[j].1:Int)):=by
 induction r generalizing j with
 | nil=>simp at h
 | cons x r ih =>
   cases j with
   | zero=>rfl
   | succ j =>
     rw [show (j+1)*2=j*2+1+1 by omega]
     simp only [Qi,List.getElem?_cons_succ,List.getElem_cons_succ]
     exact ih j (by simpa using h)
theorem XB (r:List Item) (j:Nat) (h:j<r.length):(Qi r)[j*2+1]? = some (.int .i64 r[j].2):=by
 induction r generalizing j with
 | nil=>simp at h
 | cons x r ih =>
   cases j with
   | zero=>rfl
   | succ j =>
     rw [show (j+1)*2+1=j*2+1+1+1 by omega]
     simp only [Qi,List.getElem?_cons_succ,List.getElem_cons_succ]
     exact ih j (by simpa using h)
theorem ANd (r:List Item) (j:Nat) (x:Item):Qi (r.set j x)=((Qi r).set (j*2) (.int .i64 (x.1:Int))).set (j*2+1) (.int .i64 x.2):=by
 induction r generalizing j with
 | nil=>rfl
 | cons y r ih =>
   cases j with
   | zero=>rfl
   | succ j =>
     rw [show (j+1)*2=j*2+1+1 by omega]
     simp only [List.set_cons_succ,Qi]
     rw [ih]
theorem Xe (r:List Item):∀ u∈Qi r,u.oneCell'=true:=by
 induction r with
 | nil=>simp [Qi]
 | cons x r ih =>
   intro u hu
   simp only [Qi,List.mem_cons] at hu
   rcases hu with rfl | rfl | hu
   ·rfl
   ·rfl
   ·exact ih u hu
def lex (a b:Item):Prop:=a.1<b.1∨(a.1=b.1∧a.2<b.2)
def LexS (L:List Item):Prop:=L.Pairwise lex
theorem LexS.sorted {L:List Item} (h:LexS L):Sorted (wts L):=by
 unfold Sorted wts
 rw [List.pairwise_map]
 exact h.imp fun {a b} hab=>by rcases hab with h | h <;> omega
theorem ALg {L M:List Item} (h:LexS L) (h':LexS M) (hp:L.Perm M):L=M :=
 List.Perm.eq_of_pairwise (le:=lex) (fun a b _ _ h1 h2=>by
  rcases h1 with h1 | h1 <;> rcases h2 with h2 | h2 <;> first | omega | (exfalso;omega)) h h' hp
def wgt (x:Int):Nat:=if x=0 then 1 else x.toNat
def Qz (zs:List Int) (k:Nat):List Item:=(List.range k).map fun i=>(wgt (zs.getD i 0),(i:Int))
theorem yF (zs:List Int) (k:Nat):Qz zs (k+1)=Qz zs k++[(wgt (zs.getD k 0),(k:Int))]:=by simp [Qz,List.range_succ]
theorem Yo (zs:List Int) (k:Nat):∀ x∈Qz zs k,0≤x.2∧x.2<k:=by
 intro x hx
 simp only [Qz,List.mem_map,List.mem_range] at hx
 obtain ⟨i,hi,rfl⟩:=hx
 simp;omega
theorem XY (zs:List Int) (k:Nat):(Qz zs k).length=k:=by simp [Qz]
theorem AKg {zs:List Int} {k:Nat} {L:List Item} (hp:L.Perm (Qz zs k)) (hs:LexS L) (at0:Nat) (hat:at0≤L.length)
 (hl:∀ x∈L.take at0,x.1≤wgt (zs.getD k 0)) (hr:∀ x∈L.drop at0,wgt (zs.getD k 0)<x.1) :
 (L.take at0++(wgt (zs.getD k 0),(k:Int))::L.drop at0).Perm (Qz zs (k+1))∧LexS (L.take at0++(wgt (zs.getD k 0),(k:Int))::L.drop at0):=by
 constructor
 ·rw [yF]
  refine List.perm_middle.trans ((List.Perm.cons _ ?_).trans (List.perm_append_singleton _ _).symm)
  rw [List.take_append_drop];exact hp
 ·have hd:LexS (L.drop at0):=List.Pairwise.sublist (List.drop_sublist _ _) hs
  have ht:LexS (L.take at0):=List.Pairwise.sublist (List.take_sublist _ _) hs
  unfold LexS at *
  rw [List.pairwise_append]
  refine ⟨ht,?_,?_⟩
  ·rw [List.pairwise_cons]
   exact ⟨fun y hy=>.inl (hr y hy),hd⟩
  ·intro x hx y hy
   have hxs:=Yo zs k x (hp.mem_iff.1 (List.mem_of_mem_take hx))
   rcases List.mem_cons.1 hy with rfl | hy
   ·have:=hl x hx
    rcases Nat.lt_or_ge x.1 (wgt (zs.getD k 0)) with h | h
    ·exact .inl h
    ·exact .inr ⟨by show x.1=wgt _;omega,hxs.2⟩
   ·have h1:=hl x hx
    have h2:=hr y hy
    exact .inl (by omega)
end Go.Proofs.YtembljihmnmmfaaGreat
namespace Go.Proofs.YtembljihmnmmfaaGreat
set_option linter.unusedVariables false
set_option linter.unusedSimpArgs false
theorem AMn (z:List Int) (k:Nat) (h:k<z.length):z.drop k=z.getD k 0::z.drop (k+1):=by
 rw [List.drop_eq_getElem_cons h]
 congr 1
 simp [List.getD_eq_getElem?_getD,h]
theorem AJu {z:List Int} {i f:Nat} (h:i≤z.length):((z.take i).drop f).length=i-f:=by
 rw [List.length_drop,List.length_take];omega
theorem AYs {z:List Int} {i f j:Nat} (h:i≤z.length) (hj:f+j<i):((z.take i).drop f).getD j 0=z.getD (f+j) 0:=by
 have h2:f+j<z.length:=by omega
 simp [List.getD_eq_getElem?_getD,hj,h2]
def idF:Nat→Nat:=fun k=>k
def Trn (a b:Nat) (f f2:Nat→Nat):Prop:=∃ s:Nat→Nat,(∀ k,f2 k=f (s k))∧(∀ k,k<a∨b≤k→s k=k)∧(∀ k,a≤k→k<b→a≤s k∧s k<b)∧(∀ i j,s i=s j→i=j)
theorem Trn.refl (a b:Nat) (f:Nat→Nat):Trn a b f f:=⟨fun k=>k,fun _=>rfl,fun _ _=>rfl,fun _ h1 h2=>⟨h1,h2⟩,fun _ _ h=>h⟩
theorem Trn.trans {a b:Nat} {f g h:Nat→Nat} (h1:Trn a b f g) (h2:Trn a b g h):Trn a b f h:=by
 obtain ⟨s,a1,a2,a3,a4⟩:=h1
 obtain ⟨t,b1,b2,b3,b4⟩:=h2
 refine ⟨fun k=>s (t k),fun k=>by rw [b1,a1],fun k hk=>?_,fun k hk hk2=>?_,fun i j e=>b4 _ _ (a4 _ _ e)⟩
 ·show s (t k)=k
  rw [b2 k hk,a2 k hk]
 ·have:=b3 k hk hk2
  exact a3 _ this.1 this.2
theorem Trn.mono {a b a2 b2:Nat} {f g:Nat→Nat} (h:Trn a b f g) (h1:a2≤a) (h2:b≤b2):Trn a2 b2 f g:=by
 obtain ⟨s,c1,c2,c3,c4⟩:=h
 refine ⟨s,c1,fun k hk=>c2 k (by omega),fun k hk hk2=>?_,c4⟩
 by_cases hh:k<a∨b≤k
 ·rw [c2 k hh];omega
 ·have:=c3 k (by omega) (by omega)
  omega
theorem Trn.out {a b:Nat} {f g:Nat→Nat} (h:Trn a b f g) {k:Nat} (hk:k<a∨b≤k):g k=f k:=by
 obtain ⟨s,c1,c2,_⟩:=h
 rw [c1,c2 k hk]
theorem Trn.mem {a b:Nat} {f g:Nat→Nat} (h:Trn a b f g) {k:Nat} (h1:a≤k) (h2:k<b):∃ i,a≤i∧i<b∧g k=f i:=by
 obtain ⟨s,c1,_,c3,_⟩:=h
 exact ⟨s k,(c3 k h1 h2).1,(c3 k h1 h2).2,c1 k⟩
def swF (f:Nat→Nat) (i j:Nat):Nat→Nat:=fun k=>if k=i then f j else if k=j then f i else f k
theorem Trn.sw {a b i j:Nat} (f:Nat→Nat) (h1:a≤i) (h2:i<b) (h3:a≤j) (h4:j<b):Trn a b f (swF f i j):=by
 refine ⟨fun k=>if k=i then j else if k=j then i else k,fun k=>?_,fun k hk=>?_,fun k hk hk2=>?_,fun x y e=>?_⟩
 ·show swF f i j k=f (if k=i then j else if k=j then i else k)
  unfold swF
  split
  ·rfl
  ·split <;> rfl
 ·show (if k=i then j else if k=j then i else k)=k
  rw [if_neg (by omega),if_neg (by omega)]
 ·show a≤(if k=i then j else if k=j then i else k)∧(if k=i then j else if k=j then i else k)<b
  split
  ·exact ⟨h3,h4⟩
  ·split
   ·exact ⟨h1,h2⟩
   ·exact ⟨hk,hk2⟩
 ·revert e
  show (if x=i then j else if x=j then i else x)=(if y=i then j else if y=j then i else y)→x=y
  repeat' split
  all_goals omega
def So (R:Nat→Nat→Prop) (f:Nat→Nat) (a b:Nat):Prop:=∀ i j,a≤i→i<j→j<b→R (f i) (f j)
def Cr (f:Nat→Nat) (a m b:Nat):Prop:=∀ i j,a≤i→i<m→m≤j→j<b→f i<f j
theorem So.sub {R:Nat→Nat→Prop} {f:Nat→Nat} {a b a2 b2:Nat} (h:So R f a b) (h1:a≤a2) (h2:b2≤b):So R f a2 b2:=fun i j c1 c2 c3=>h i j (by omega) c2 (by omega)
theorem So.of {R:Nat→Nat→Prop} {f g:Nat→Nat} {a b:Nat} (h:So R f a b) (he:∀ k,a≤k→k<b→g k=f k):So R g a b:=fun i j c1 c2 c3=>by
 rw [he i c1 (by omega),he j (by omega) c3];exact h i j c1 c2 c3
theorem So.moved {R:Nat→Nat→Prop} {f g:Nat→Nat} {a b a2:Nat} (h:So R f a b) (n:Nat) (hn:a2+(b-a)=n) (he:∀ k,a2≤k→k<n→g k=f (a+(k-a2))):So R g a2 n:=fun i j c1 c2 c3=>by
 rw [he i c1 (by omega),he j (by omega) c3];exact h _ _ (by omega) (by omega) (by omega)
theorem So.short {R:Nat→Nat→Prop} (f:Nat→Nat) {a b:Nat} (h:b≤a+1):So R f a b:=fun i j c1 c2 c3=>by omega
def srF (f:Nat→Nat) (a b n:Nat):Nat→Nat:=fun k=>if a≤k∧k<a+n then f (b+(k-a)) else if b≤k∧k<b+n then f (a+(k-b)) else f k
theorem ARz (f:Nat→Nat) (a b:Nat):srF f a b 0=f:=by
 funext k
 unfold srF
 rw [if_neg (by omega),if_neg (by omega)]
theorem ATb (f:Nat→Nat) (a b n:Nat) (h:a+n<b):swF (srF f a b n) (a+n) (b+n)=srF f a b (n+1):=by
 funext k
 unfold swF srF
 repeat' split
 all_goals first | omega | rfl | (congr 1;omega)
def roF (f:Nat→Nat) (a m b:Nat):Nat→Nat:=fun k=>if a≤k∧k<a+(b-m) then f (m+(k-a)) else if a+(b-m)≤k∧k<b then f (a+(k-(a+(b-m)))) else f k
theorem AUr (f:Nat→Nat) (m i j:Nat) (hj:0<j) (h:j<i) (hi:i≤m):roF (srF f (m-i) m j) (m-(i-j)) m (m+j)=roF f (m-i) m (m+j):=by
 funext k
 unfold roF srF
 repeat' split
 all_goals first | omega | rfl | (congr 1;omega)
theorem AOu (f:Nat→Nat) (m i j:Nat) (h0:0<i) (h:i<j) (hi:i≤m):roF (srF f (m-i) (m+j-i) i) (m-i) m (m+(j-i))=roF f (m-i) m (m+j):=by
 funext k
 unfold roF srF
 repeat' split
 all_goals first | omega | rfl | (congr 1;omega)
theorem ATg (f:Nat→Nat) (m i:Nat) (hi:i≤m):srF f (m-i) m i=roF f (m-i) m (m+i):=by
 funext k
 unfold roF srF
 repeat' split
 all_goals first | omega | rfl | (congr 1;omega)
theorem ARn (f:Nat→Nat) (a m b:Nat) (h:a=m∨m=b) (h1:a≤m) (h2:m≤b):roF f a m b=f:=by
 funext k
 unfold roF
 repeat' split
 all_goals first | omega | rfl | (congr 1;omega)
theorem vO (f:Nat→Nat) {a m b:Nat} (h1:a≤m) (h2:m≤b):Trn a b f (roF f a m b):=by
 refine ⟨fun k=>if a≤k∧k<a+(b-m) then m+(k-a) else if a+(b-m)≤k∧k<b then a+(k-(a+(b-m))) else k,fun k=>?_,fun k hk=>?_,fun k hk hk2=>?_,fun x y e=>?_⟩
 ·show roF f a m b k=f (if a≤k∧k<a+(b-m) then m+(k-a) else if a+(b-m)≤k∧k<b then a+(k-(a+(b-m))) else k)
  unfold roF
  repeat' split
  all_goals first | omega | rfl
 ·show (if a≤k∧k<a+(b-m) then m+(k-a) else if a+(b-m)≤k∧k<b then a+(k-(a+(b-m))) else k)=k
  rw [if_neg (by omega),if_neg (by omega)]
 ·show a≤(if a≤k∧k<a+(b-m) then m+(k-a) else if a+(b-m)≤k∧k<b then a+(k-(a+(b-m))) else k)∧(if a≤k∧k<a+(b-m) then m+(k-a) else if a+(b-m)≤k∧k<b then a+(k-(a+(b-m))) else k)<b
  repeat' split
  all_goals omega
 ·revert e
  show (if a≤x∧x<a+(b-m) then m+(x-a) else if a+(b-m)≤x∧x<b then a+(x-(a+(b-m))) else x)=(if a≤y∧y<a+(b-m) then m+(y-a) else if a+(b-m)≤y∧y<b then a+(y-(a+(b-m))) else y)→x=y
  repeat' split
  all_goals omega
structure Cmp (cf:Nat→Nat→Int) (R:Nat→Nat→Prop) (n:Nat):Prop where
 lt:∀ x y,x<y→y<n→cf y x<0→R y x
 ge:∀ x y,x<y→y<n→¬ cf y x<0→R x y
 tr:∀ x y z,x<n→y<n→z<n→R x y→R y z→R x z
structure Mg (cf:Nat→Nat→Int) (R:Nat→Nat→Prop) (n:Nat) (f:Nat→Nat) (a m b:Nat):Prop where
 lt:∀ k,a≤k→k<b→f k<n
 le:So R f a m
 ri:So R f m b
 cr:Cr f a m b
theorem Mg.before {cf:Nat→Nat→Int} {R:Nat→Nat→Prop} {n:Nat} {f:Nat→Nat} {a m b:Nat} (C:Cmp cf R n) (h:Mg cf R n f a m b) {i j:Nat} (h1:a≤i) (h2:i<m) (h3:m≤j) (h4:j<b) (hc:¬ cf (f j) (f i)<0):R (f i) (f j) :=
 C.ge _ _ (h.cr i j h1 h2 h3 h4) (h.lt j (by omega) h4) hc
theorem Mg.after {cf:Nat→Nat→Int} {R:Nat→Nat→Prop} {n:Nat} {f:Nat→Nat} {a m b:Nat} (C:Cmp cf R n) (h:Mg cf R n f a m b) {i j:Nat} (h1:a≤i) (h2:i<m) (h3:m≤j) (h4:j<b) (hc:cf (f j) (f i)<0):R (f j) (f i) :=
 C.lt _ _ (h.cr i j h1 h2 h3 h4) (h.lt j (by omega) h4) hc
def upF (f:Nat→Nat) (a i:Nat):Nat→Nat:=fun k=>if a≤k∧k<i then f (k+1) else if k=i then f a else f k
theorem AFj (f:Nat→Nat) (a:Nat):upF f a a=f:=by
 funext k
 unfold upF
 repeat' split
 all_goals first | omega | rfl | (congr 1;omega)
theorem AEx (f:Nat→Nat) (a k:Nat) (h:a≤k):swF (upF f a k) k (k+1)=upF f a (k+1):=by
 funext t
 unfold swF upF
 repeat' split
 all_goals first | omega | rfl | (congr 1;omega)
theorem AWt (f:Nat→Nat) {a b:Nat}:∀ i,a≤i→i<b→Trn a b f (upF f a i):=by
 intro i hi hb
 obtain ⟨d,rfl⟩:∃ d,i=a+d:=⟨i-a,by omega⟩
 clear hi
 induction d with
 | zero=>rw [Nat.add_zero,AFj];exact Trn.refl _ _ _
 | succ d ih =>
   rw [show a+(d+1)=a+d+1 from rfl,←AEx f a (a+d) (by omega)]
   exact (ih (by omega)).trans (Trn.sw _ (by omega) (by omega) (by omega) hb)
theorem ATa {cf:Nat→Nat→Int} {R:Nat→Nat→Prop} {n:Nat} {f:Nat→Nat} {a b i:Nat} (C:Cmp cf R n) (h:Mg cf R n f a (a+1) b) (hi:a+1≤i) (hib:i≤b)
 (h1:i=a+1∨cf (f (i-1)) (f a)<0) (h2:i=b∨¬ cf (f i) (f a)<0):So R (upF f a (i-1)) a b∧Trn a b f (upF f a (i-1)):=by
 refine ⟨?_,AWt f _ (by omega) (by omega)⟩
 have k1:∀ t,a+1≤t→t<i→R (f t) (f a):=fun t c1 c2=>by
  rcases h1 with h1 | h1
  ·omega
  ·have e:=h.after C (Nat.le_refl a) (by omega) (by omega:a+1≤i-1) (by omega) h1
   rcases Nat.lt_or_ge t (i-1) with c | c
   ·exact C.tr _ _ _ (h.lt t (by omega) (by omega)) (h.lt _ (by omega) (by omega)) (h.lt _ (by omega) (by omega)) (h.ri t (i-1) c1 c (by omega)) e
   ·rw [show t=i-1 by omega];exact e
 have k2:∀ t,i≤t→t<b→R (f a) (f t):=fun t c1 c2=>by
  rcases h2 with h2 | h2
  ·omega
  ·have e:=h.before C (Nat.le_refl a) (by omega) (by omega:a+1≤i) (by omega) h2
   rcases Nat.lt_or_ge i t with c | c
   ·exact C.tr _ _ _ (h.lt _ (by omega) (by omega)) (h.lt _ (by omega) (by omega)) (h.lt _ (by omega) (by omega)) e (h.ri i t hi c c2)
   ·rw [show t=i by omega];exact e
 intro x y c1 c2 c3
 unfold upF
 repeat' split
 all_goals first
  | omega
  | exact h.ri _ _ (by omega) (by omega) (by omega)
  | exact k1 _ (by omega) (by omega)
  | exact k2 _ (by omega) (by omega)
def dnF (f:Nat→Nat) (i m:Nat):Nat→Nat:=fun k=>if k=i then f m else if i<k∧k≤m then f (k-1) else f k
theorem jM (f:Nat→Nat) (m:Nat):dnF f m m=f:=by
 funext k
 unfold dnF
 repeat' split
 all_goals first | omega | rfl | (congr 1;omega)
theorem jE (f:Nat→Nat) (k m:Nat) (h:k+1≤m):swF (dnF f (k+1) m) (k+1) k=dnF f k m:=by
 funext t
 unfold swF dnF
 repeat' split
 all_goals first | omega | rfl | (congr 1;omega)
theorem AWs (f:Nat→Nat) {a b m:Nat} (hm:m<b):∀ i,a≤i→i≤m→Trn a b f (dnF f i m):=by
 intro i hi hb
 obtain ⟨d,rfl⟩:∃ d,m=i+d:=⟨m-i,by omega⟩
 clear hb
 induction d generalizing i with
 | zero=>rw [Nat.add_zero,jM];exact Trn.refl _ _ _
 | succ d ih =>
   rw [←jE f i (i+(d+1)) (by omega)]
   rw [show i+(d+1)=i+1+d by omega]
   exact (ih (i+1) (by omega) (by omega)).trans (Trn.sw _ (by omega) (by omega) (by omega) (by omega))
theorem AAs {cf:Nat→Nat→Int} {R:Nat→Nat→Prop} {n:Nat} {f:Nat→Nat} {a m i:Nat} (C:Cmp cf R n) (h:Mg cf R n f a m (m+1)) (hi:a≤i) (him:i≤m)
 (h1:i=a∨¬ cf (f m) (f (i-1))<0) (h2:i=m∨cf (f m) (f i)<0):So R (dnF f i m) a (m+1)∧Trn a (m+1) f (dnF f i m):=by
 refine ⟨?_,AWs f (by omega) _ (by omega) (by omega)⟩
 have k1:∀ t,a≤t→t<i→R (f t) (f m):=fun t c1 c2=>by
  rcases h1 with h1 | h1
  ·omega
  ·have e:=h.before C (by omega:a≤i-1) (by omega) (Nat.le_refl m) (by omega) h1
   rcases Nat.lt_or_ge t (i-1) with c | c
   ·exact C.tr _ _ _ (h.lt t (by omega) (by omega)) (h.lt _ (by omega) (by omega)) (h.lt _ (by omega) (by omega)) (h.le t (i-1) c1 c (by omega)) e
   ·rw [show t=i-1 by omega];exact e
 have k2:∀ t,i≤t→t<m→R (f m) (f t):=fun t c1 c2=>by
  rcases h2 with h2 | h2
  ·omega
  ·have e:=h.after C hi (by omega) (Nat.le_refl m) (by omega) h2
   rcases Nat.lt_or_ge i t with c | c
   ·exact C.tr _ _ _ (h.lt _ (by omega) (by omega)) (h.lt _ (by omega) (by omega)) (h.lt _ (by omega) (by omega)) e (h.le i t hi c c2)
   ·rw [show t=i by omega];exact e
 intro x y c1 c2 c3
 unfold dnF
 repeat' split
 all_goals first
  | omega
  | exact h.le _ _ (by omega) (by omega) (by omega)
  | exact k1 _ (by omega) (by omega)
  | exact k2 _ (by omega) (by omega)
structure Piv (cf:Nat→Nat→Int) (f:Nat→Nat) (a m b mid s s0 r0:Nat):Prop where
 h0:(s0=a∧r0=m∧m≤mid)∨(s0+b=mid+m∧r0=mid∧mid<m)
 lo:s0≤s
 hi:s≤r0
 p1:s=s0∨¬ cf (f (mid+m-s)) (f (s-1))<0
 p2:s=r0∨cf (f (mid+m-1-s)) (f s)<0
theorem AAv {cf:Nat→Nat→Int} {R:Nat→Nat→Prop} {n:Nat} {f:Nat→Nat} {a m b mid s s0 r0:Nat} (C:Cmp cf R n) (h:Mg cf R n f a m b) (h1:a<m) (h2:m<b) (hmid:mid=(a+b) / 2) (P:Piv cf f a m b mid s s0 r0) :
 a≤s∧s≤m∧m≤mid+m-s∧mid+m-s≤b∧s≤mid∧mid≤mid+m-s ∧
 Mg cf R n (roF f s m (mid+m-s)) a s mid∧Mg cf R n (roF f s m (mid+m-s)) mid (mid+m-s) b ∧
 (∀ i j,a≤i→i<mid→mid≤j→j<b→R (roF f s m (mid+m-s) i) (roF f s m (mid+m-s) j)):=by
 obtain ⟨h0,lo,hi,p1,p2⟩:=P
 have b1:a≤s:=by omega
 have b2:s≤m:=by omega
 have b4:mid+m-s≤b:=by omega
 have b5:s≤mid:=by omega
 obtain ⟨e,he⟩:∃ e,mid+m-s=e:=⟨_,rfl⟩
 have he2:e+s=mid+m:=by omega
 have e1:∀ k,k<s→roF f s m e k=f k:=fun k hk=>by unfold roF;rw [if_neg (by omega),if_neg (by omega)]
 have e2:∀ k,s≤k→k<mid→roF f s m e k=f (m+(k-s)):=fun k hk hk2=>by unfold roF;rw [if_pos (by omega)]
 have e3:∀ k,mid≤k→k<e→roF f s m e k=f (s+(k-mid)):=fun k hk hk2=>by unfold roF;rw [if_neg (by omega),if_pos (by omega),show s+(e-m)=mid by omega]
 have e4:∀ k,e≤k→roF f s m e k=f k:=fun k hk=>by unfold roF;rw [if_neg (by omega),if_neg (by omega)]
 rw [he] at p1 b4 ⊢
 have q1:∀ i j,a≤i→i<s→e≤j→j<b→R (f i) (f j):=fun i j c1 c2 c3 c4=>by
  rcases p1 with p1 | p1
  ·omega
  ·have r:=h.before C (by omega:a≤s-1) (by omega) (by omega:m≤e) (by omega) p1
   have r1:R (f i) (f e):=by
    rcases Nat.lt_or_ge i (s-1) with c | c
    ·exact C.tr _ _ _ (h.lt _ (by omega) (by omega)) (h.lt _ (by omega) (by omega)) (h.lt _ (by omega) (by omega)) (h.le i (s-1) c1 c (by omega)) r
    ·rw [show i=s-1 by omega];exact r
   rcases Nat.lt_or_ge e j with c | c
   ·exact C.tr _ _ _ (h.lt _ (by omega) (by omega)) (h.lt _ (by omega) (by omega)) (h.lt _ (by omega) (by omega)) r1 (h.ri e j (by omega) c c4)
   ·rw [show j=e by omega];exact r1
 have q2:∀ i j,m≤i→i<e→s≤j→j<m→R (f i) (f j):=fun i j c1 c2 c3 c4=>by
  rcases p2 with p2 | p2
  ·omega
  ·rw [show mid+m-1-s=e-1 by omega] at p2
   have r:=h.after C b1 (by omega:s<m) (by omega:m≤e-1) (by omega) p2
   have r1:R (f i) (f s):=by
    rcases Nat.lt_or_ge i (e-1) with c | c
    ·exact C.tr _ _ _ (h.lt _ (by omega) (by omega)) (h.lt _ (by omega) (by omega)) (h.lt _ (by omega) (by omega)) (h.ri i (e-1) c1 c (by omega)) r
    ·rw [show i=e-1 by omega];exact r
   rcases Nat.lt_or_ge s j with c | c
   ·exact C.tr _ _ _ (h.lt _ (by omega) (by omega)) (h.lt _ (by omega) (by omega)) (h.lt _ (by omega) (by omega)) r1 (h.le s j b1 c c4)
   ·rw [show j=s by omega];exact r1
 have T:=vO f b2 (by omega:m≤e)
 have hlt:∀ k,a≤k→k<b→roF f s m e k<n:=fun k c1 c2=>by
  by_cases hh:k<s∨e≤k
  ·rw [T.out hh];exact h.lt k c1 c2
  ·obtain ⟨i,d1,d2,d3⟩:=T.mem (k:=k) (by omega) (by omega)
   rw [d3];exact h.lt i (by omega) (by omega)
 refine ⟨b1,b2,by omega,b4,b5,by omega,⟨fun k c1 c2=>hlt k c1 (by omega),?_,?_,?_⟩,⟨fun k c1 c2=>hlt k (by omega) c2,?_,?_,?_⟩,?_⟩
 ·exact (h.le.sub (Nat.le_refl a) b2).of fun k _ c=>e1 k c
 ·exact (h.ri.sub (Nat.le_refl m) b4).moved mid (by omega) e2
 ·intro i j c1 c2 c3 c4
  rw [e1 i c2,e2 j c3 c4]
  exact h.cr _ _ c1 (by omega) (by omega) (by omega)
 ·exact (h.le.sub b1 (Nat.le_refl m)).moved e (by omega) e3
 ·exact (h.ri.sub (by omega:m≤e) (Nat.le_refl b)).of fun k c _=>e4 k c
 ·intro i j c1 c2 c3 c4
  rw [e3 i c1 c2,e4 j c3]
  exact h.cr _ _ (by omega) (by omega) (by omega) (by omega)
 ·intro i j c1 c2 c3 c4
  rcases Nat.lt_or_ge i s with d | d <;> rcases Nat.lt_or_ge j e with d2 | d2
  ·rw [e1 i d,e3 j c3 d2];exact h.le _ _ c1 (by omega) (by omega)
  ·rw [e1 i d,e4 j d2];exact q1 i j c1 d d2 c4
  ·rw [e2 i d c2,e3 j c3 d2];exact q2 _ _ (by omega) (by omega) (by omega) (by omega)
  ·rw [e2 i d c2,e4 j d2];exact h.ri _ _ (by omega) (by omega) (by omega)
theorem Qd {R:Nat→Nat→Prop} {f1 f2 f3:Nat→Nat} {a mid b:Nat} (h1:a≤mid) (h2:mid≤b) (hx:∀ i j,a≤i→i<mid→mid≤j→j<b→R (f1 i) (f1 j))
 (t2:Trn a mid f1 f2) (s2:So R f2 a mid) (t3:Trn mid b f2 f3) (s3:So R f3 mid b):So R f3 a b∧Trn a b f1 f3:=by
 refine ⟨fun i j c1 c2 c3=>?_,(t2.mono (Nat.le_refl a) h2).trans (t3.mono h1 (Nat.le_refl b))⟩
 rcases Nat.lt_or_ge i mid with d | d
 ·rcases Nat.lt_or_ge j mid with d2 | d2
  ·rw [t3.out (.inl d),t3.out (.inl d2)];exact s2 i j c1 c2 d2
  ·rw [t3.out (.inl d)]
   obtain ⟨i1,g1,g2,g3⟩:=t2.mem c1 d
   obtain ⟨j1,g4,g5,g6⟩:=t3.mem d2 c3
   rw [g3,g6,t2.out (.inr g4)]
   exact hx _ _ g1 g2 g4 g5
 ·exact s3 i j d c2 c3
def Bk (R:Nat→Nat→Prop) (f:Nat→Nat) (a b:Nat):Prop:=So R f a b∧∀ k,a≤k→k<b→a≤f k∧f k<b
theorem Bk.of {R:Nat→Nat→Prop} {f g:Nat→Nat} {a b:Nat} (h:Bk R f a b) (he:∀ k,a≤k→k<b→g k=f k):Bk R g a b :=
 ⟨h.1.of he,fun k c1 c2=>by rw [he k c1 c2];exact h.2 k c1 c2⟩
theorem Bk.merge {cf:Nat→Nat→Int} {R:Nat→Nat→Prop} {n:Nat} {f:Nat→Nat} {a m b:Nat} (h1:Bk R f a m) (h2:Bk R f m b) (hm:m≤b) (hb:b≤n):Mg cf R n f a m b :=
 ⟨fun k c1 c2=>by
  rcases Nat.lt_or_ge k m with c | c
  ·have:=h1.2 k c1 c;omega
  ·have:=h2.2 k c c2;omega,h1.1,h2.1,fun i j c1 c2 c3 c4=>by have:=h1.2 i c1 c2;have:=h2.2 j c3 c4;omega⟩
theorem Bk.merged {R:Nat→Nat→Prop} {f f2:Nat→Nat} {a m b:Nat} (h1:Bk R f a m) (h2:Bk R f m b) (ha:a≤m) (hm:m≤b) (s:So R f2 a b) (t:Trn a b f f2):Bk R f2 a b :=
 ⟨s,fun k c1 c2=>by
  obtain ⟨i,d1,d2,d3⟩:=t.mem c1 c2
  rw [d3]
  rcases Nat.lt_or_ge i m with c | c
  ·have:=h1.2 i d1 c;omega
  ·have:=h2.2 i c d2;omega⟩
def Bls (R:Nat→Nat→Prop) (f:Nat→Nat) (bs n a:Nat):Prop:=∀ q,a+q*bs<n→Bk R f (a+q*bs) (min (a+q*bs+bs) n)
theorem Bls.cut {R:Nat→Nat→Prop} {f:Nat→Nat} {bs n a:Nat} (h:Bls R f bs n a):Bls R f bs n (a+bs):=fun q hq=>by
 have e:a+bs+q*bs=a+(q+1)*bs:=by rw [Nat.add_mul,Nat.one_mul];omega
 rw [e] at hq ⊢
 exact h (q+1) hq
theorem Bls.first {R:Nat→Nat→Prop} {f:Nat→Nat} {bs n a:Nat} (h:Bls R f bs n a) (ha:a<n):Bk R f a (min (a+bs) n):=by
 have:=h 0 (by omega)
 rwa [Nat.zero_mul,Nat.add_zero] at this
theorem Bls.trn {R:Nat→Nat→Prop} {f g:Nat→Nat} {bs n a lo hi:Nat} (h:Bls R f bs n a) (t:Trn lo hi f g) (hh:hi≤a):Bls R g bs n a:=fun q hq =>
 (h q hq).of fun k c1 _=>t.out (.inr (by omega))
def Blw (R:Nat→Nat→Prop) (f:Nat→Nat) (bs c:Nat):Prop:=∀ q,q<c→Bk R f (q*bs) (q*bs+bs)
theorem Blw.more {R:Nat→Nat→Prop} {f g:Nat→Nat} {bs c a b:Nat} (h:Blw R f bs c) (ha:a=c*bs) (t:Trn a b f g) (hk:Bk R g a (a+bs)):Blw R g bs (c+1):=fun q hq=>by
 rcases Nat.lt_or_ge q c with d | d
 ·refine (h q d).of fun k _ c2=>t.out (.inl ?_)
  have:(q+1)*bs≤c*bs:=Nat.mul_le_mul_right bs d
  rw [Nat.add_mul,Nat.one_mul] at this
  omega
 ·rw [show q=c by omega,←ha];exact hk
theorem Blw.all {R:Nat→Nat→Prop} {f:Nat→Nat} {bs c n a:Nat} (hs:0<bs) (h:Blw R f bs c) (ha:a=c*bs) (ha2:a≤n) (han:n<a+bs) (hk:Bk R f a n):Bls R f bs n 0:=fun q hq=>by
 rw [Nat.zero_add] at hq ⊢
 rcases Nat.lt_or_ge q c with d | d
 ·have e1:(q+1)*bs≤c*bs:=Nat.mul_le_mul_right bs d
  rw [Nat.add_mul,Nat.one_mul] at e1
  rw [Nat.min_eq_left (by omega)]
  exact h q d
 ·have e1:q=c:=by
   rcases Nat.lt_or_ge c q with g | g
   ·have:(c+1)*bs≤q*bs:=Nat.mul_le_mul_right bs g
    rw [Nat.add_mul,Nat.one_mul] at this
    omega
   ·omega
  rw [e1,←ha,Nat.min_eq_right (by omega)]
  exact hk
theorem AVg {l m:List Nat} (h:l.Perm m):l.sum=m.sum:=by
 induction h with
 | nil=>rfl
 | cons x _ ih=>simp [ih]
 | swap x y l=>simp;omega
 | trans _ _ a b=>exact a.trans b
end Go.Proofs.YtembljihmnmmfaaGreat
namespace Go.Proofs.YtembljihmnmmfaaGreat
set_option linter.unusedVariables false
set_option linter.unusedSimpArgs false
open Go.RowKit
def wl (zs:List Int) (k:Nat):List Nat:=(List.range k).map fun i=>wgt (zs.getD i 0)
end Go.Proofs.YtembljihmnmmfaaGreat
namespace Go.Proofs.YtembljihmnmmfaaGreat
set_option linter.unusedVariables false
set_option linter.unusedSimpArgs false
def bef (l:Nat→Nat) (t s:Nat):Bool:=decide (l t<l s∨(l t=l s∧t<s))
theorem JT (l:Nat→Nat) (t s:Nat):bef l t s=true↔l t<l s∨(l t=l s∧t<s):=by simp [bef]
def kBef (n:Nat) (l:Nat→Nat) (s:Nat):Nat:=rsum n fun t=>if bef l t s=true then 2^(20-l t) else 0
def qW (n:Nat) (l:Nat→Nat) (s:Nat):Nat:=kBef n l s / 2^(20-l s)
theorem ASs {n d:Nat} {f:Nat→Nat} (h:∀ t,t<n→d ∣ f t):d ∣ rsum n f:=by
 induction n with
 | zero=>exact Nat.dvd_zero _
 | succ n ih=>exact Nat.dvd_add (ih fun t ht=>h t (by omega)) (h n (by omega))
theorem ATf (n:Nat) (l:Nat→Nat) (s:Nat):2^(20-l s) ∣ kBef n l s:=by
 refine ASs fun t ht=>?_
 by_cases h:bef l t s=true
 ·rw [if_pos h]
  have:=(JT l t s).1 h
  exact Nat.pow_dvd_pow 2 (by omega)
 ·rw [if_neg h];exact Nat.dvd_zero _
theorem zK (n:Nat) (l:Nat→Nat) (s:Nat):qW n l s*2^(20-l s)=kBef n l s:=Nat.div_mul_cancel (ATf n l s)
theorem AMv (n t x:Nat) (h:t<n):rsum n (fun j=>if j=t then x else 0)=x:=by
 induction n with
 | zero=>omega
 | succ n ih =>
   show rsum n _+(if n=t then x else 0)=x
   rcases Nat.lt_or_ge t n with h2 | h2
   ·rw [ih h2,if_neg (by omega),Nat.add_zero]
   ·have e:t=n:=by omega
    subst e
    rw [if_pos rfl,Jb (g:=fun _=>0) fun j hj=>if_neg (by omega),APh,Nat.zero_add]
theorem AVf (n:Nat) (l:Nat→Nat) (s:Nat) (hs:s<n):kBef n l s+2^(20-l s)≤rsum n fun t=>2^(20-l t):=by
 unfold kBef
 rw [←AMv n s (2^(20-l s)) hs,←ASn]
 refine AWp fun j hj=>?_
 by_cases e:j=s
 ·subst e
  rw [if_pos rfl,if_neg (by rw [JT];omega),Nat.zero_add]
  exact Nat.le_refl _
 ·rw [if_neg e,Nat.add_zero]
  split
  ·exact Nat.le_refl _
  ·exact Nat.zero_le _
theorem ASj (n:Nat) (l:Nat→Nat) (s:Nat) (hs:s<n) (h20:l s≤20) (hk:rsum n (fun t=>2^(20-l t))≤2^20):qW n l s<2^l s:=by
 have h1:=AVf n l s hs
 have h2:=zK n l s
 have h3:2^l s*2^(20-l s)=2^20:=by rw [←Nat.pow_add];congr 1;omega
 have h4:(qW n l s+1)*2^(20-l s)≤2^l s*2^(20-l s):=by rw [Nat.add_mul,Nat.one_mul,h2,h3];omega
 exact Nat.lt_of_succ_le (Nat.le_of_mul_le_mul_right h4 (Nat.two_pow_pos _))
def Zt (n:Nat) (l:Nat→Nat) (m i:Nat):List Nat:=(List.range i).filter fun s=>decide (l s=m)
def ordU (n:Nat) (l:Nat→Nat):Nat→List Nat
 | 0=>[]
 | m+1=>ordU n l m++Zt n l (m+1) n
theorem qD (n:Nat) (l:Nat→Nat) (m i:Nat):Zt n l m (i+1)=if l i=m then Zt n l m i++[i] else Zt n l m i:=by
 unfold Zt
 rw [List.range_succ,List.filter_append]
 by_cases h:l i=m
 ·rw [if_pos h];simp [h]
 ·rw [if_neg h];simp [h]
theorem ABw (n:Nat) (l:Nat→Nat) (m i s:Nat):s∈Zt n l m i↔s<i∧l s=m:=by simp [Zt]
theorem yl (n:Nat) (l:Nat→Nat) (m s:Nat):s∈ordU n l m↔s<n∧1≤l s∧l s≤m:=by
 induction m with
 | zero=>simp [ordU];omega
 | succ m ih=>rw [ordU,List.mem_append,ih,ABw];omega
theorem ARd (n:Nat) (l:Nat→Nat) (m i:Nat):(Zt n l m i).Pairwise (fun a b=>bef l a b=true):=by
 unfold Zt
 have h:=(List.pairwise_lt_range (n:=i)).filter (fun s=>decide (l s=m))
 refine List.Pairwise.imp_of_mem ?_ h
 intro a b ha hb hab
 have h1:l a=m:=by simpa using (List.mem_filter.1 ha).2
 have h2:l b=m:=by simpa using (List.mem_filter.1 hb).2
 rw [JT];omega
theorem AEy (n:Nat) (l:Nat→Nat) (m:Nat):(ordU n l m).Pairwise (fun a b=>bef l a b=true):=by
 induction m with
 | zero=>exact List.Pairwise.nil
 | succ m ih =>
   rw [ordU,List.pairwise_append]
   refine ⟨ih,ARd n l (m+1) n,fun a ha b hb=>?_⟩
   have h1:=(yl n l m a).1 ha
   have h2:=(ABw n l (m+1) n b).1 hb
   rw [JT];omega
theorem APq {l:Nat→Nat} {a b:Nat} (h:bef l a b=true):a≠b:=by
 rintro rfl
 rw [JT] at h;omega
theorem vi (n:Nat) (l:Nat→Nat) (m:Nat):(ordU n l m).Nodup:=(AEy n l m).imp fun h=>APq h
theorem AAr (n:Nat) (l:Nat→Nat) (h:∀ s,s<n→1≤l s∧l s≤20):(ordU n l 20).Perm (List.range n):=by
 rw [List.perm_ext_iff_of_nodup (vi n l 20) List.nodup_range]
 intro s
 rw [yl,List.mem_range]
 exact ⟨fun h=>h.1,fun hs=>⟨hs,h s hs⟩⟩
theorem AFf (n:Nat) (l:Nat→Nat) (h:∀ s,s<n→1≤l s∧l s≤20):(ordU n l 20).length=n:=by rw [(AAr n l h).length_eq,List.length_range]
theorem ANu (R:List Nat) (p q r:Nat→Bool) (h:∀ s,r s=(p s || q s)) (hd:∀ s,p s=true→q s=false):R.countP p+R.countP q=R.countP r:=by
 induction R with
 | nil=>rfl
 | cons x R ih =>
   rw [List.countP_cons,List.countP_cons,List.countP_cons,←ih,h x]
   cases hp:p x
   ·cases hq:q x <;> simp <;> omega
   ·rw [hd x hp];simp;omega
theorem ALk (n:Nat) (l:Nat→Nat) (m:Nat):(ordU n l m).length=(List.range n).countP fun s=>decide (1≤l s∧l s≤m):=by
 induction m with
 | zero =>
   rw [List.countP_eq_zero.2]
   ·rfl
   ·intro s _;simp;omega
 | succ m ih =>
   rw [ordU,List.length_append,ih]
   unfold Zt
   rw [←List.countP_eq_length_filter]
   refine ANu _ _ _ _ (fun s=>?_) (fun s hs=>?_)
   ·by_cases h1:1≤l s∧l s≤m
    ·simp [h1];omega
    ·by_cases h2:l s=m+1
     ·simp [h2]
     ·simp [h1,h2];omega
   ·simp only [decide_eq_true_eq,decide_eq_false_iff_not] at hs ⊢;omega
theorem jm (n:Nat) (l:Nat→Nat) (m:Nat):(ordU n l m).length≤n:=by
 rw [ALk]
 exact Nat.le_trans List.countP_le_length (by simp)
theorem jl (n:Nat) (l:Nat→Nat) (m i:Nat) (hi:i≤n):(ordU n l m++Zt n l (m+1) i).length≤n:=by
 have h1:=jm n l (m+1)
 rw [ordU,List.length_append] at h1
 have h2:(Zt n l (m+1) i).length≤(Zt n l (m+1) n).length:=by
  unfold Zt
  have:List.Sublist (List.range i) (List.range n):=List.range_sublist.2 hi
  exact (this.filter _).length_le
 rw [List.length_append];omega
theorem AQy {a b:List Nat} (h:a.Perm b):a.sum=b.sum:=by
 induction h with
 | nil=>rfl
 | cons x _ ih=>simp [ih]
 | swap x y l=>simp;omega
 | trans _ _ ih1 ih2=>exact ih1.trans ih2
theorem AQl:∀ (L:List Nat),(∀ x∈L,x=0)→L.sum=0:=by
 intro L
 induction L with
 | nil=>intro _;rfl
 | cons x L ih=>intro h;rw [List.sum_cons,h x (by simp),ih fun y hy=>h y (by simp [hy])]
theorem zY (n:Nat) (l:Nat→Nat) (O:List Nat) (hp:O.Perm (List.range n)) (hO:O.Pairwise (fun a b=>bef l a b=true)) (k:Nat) (hk:k<O.length):kBef n l O[k]=((O.take k).map fun t=>2^(20-l t)).sum:=by
 obtain ⟨s,hs⟩:∃ s,O[k]=s:=⟨_,rfl⟩
 rw [List.pairwise_iff_getElem] at hO
 have h1:((O.take k).map fun t=>if bef l t s=true then 2^(20-l t) else 0)=(O.take k).map fun t=>2^(20-l t):=by
  refine List.map_congr_left fun t ht=>?_
  obtain ⟨j,hj,rfl⟩:=List.getElem_of_mem ht
  rw [List.length_take] at hj
  have h3:=hO j k (by omega) hk (by omega)
  rw [hs] at h3
  rw [List.getElem_take,if_pos h3]
 have h2:((O.drop k).map fun t=>if bef l t s=true then 2^(20-l t) else 0).sum=0:=by
  refine AQl _ fun x hx=>?_
  rw [List.mem_map] at hx
  obtain ⟨t,ht,rfl⟩:=hx
  obtain ⟨j,hj,rfl⟩:=List.getElem_of_mem ht
  rw [List.length_drop] at hj
  rw [List.getElem_drop,if_neg]
  intro hb
  rcases Nat.eq_zero_or_pos j with h0 | h0
  ·subst h0
   rw [show O[k+0]=s from hs] at hb
   exact APq hb rfl
  ·have h3:=hO k (k+j) hk (by omega) (by omega)
   rw [hs] at h3
   rw [JT] at h3 hb
   omega
 rw [hs]
 unfold kBef
 rw [←yh,AQy (hp.symm.map _)]
 have e:O=O.take k++O.drop k:=(List.take_append_drop k O).symm
 have e2:(O.map fun t=>if bef l t s=true then 2^(20-l t) else 0)=((O.take k).map fun t=>if bef l t s=true then 2^(20-l t) else 0)++((O.drop k).map fun t=>if bef l t s=true then 2^(20-l t) else 0):=by rw [←List.map_append,←e]
 rw [e2,List.sum_append,h1,h2,Nat.add_zero]
theorem APg (n:Nat) (l:Nat→Nat) (O:List Nat) (hp:O.Perm (List.range n)) (hO:O.Pairwise (fun a b=>bef l a b=true)) (k:Nat) (hk:k+1<O.length) (t s:Nat) (ht:O[k]=t) (hs:O[k+1]=s) (h20:l s≤20) :
 l t≤l s∧qW n l s=(qW n l t+1)*2^(l s-l t):=by
 have hb:=List.pairwise_iff_getElem.1 hO k (k+1) (by omega) hk (by omega)
 rw [ht,hs] at hb
 have hle:=(JT _ _ _).1 hb
 have hlt:l t≤l s:=by omega
 refine ⟨hlt,?_⟩
 have e1:=zY n l O hp hO k (by omega)
 have e2:=zY n l O hp hO (k+1) hk
 rw [List.take_succ_eq_append_getElem (by omega),List.map_append,List.sum_append,←e1,ht] at e2
 simp only [List.map_cons,List.map_nil,List.sum_cons,List.sum_nil,Nat.add_zero] at e2
 rw [hs] at e2
 have m1:=zK n l t
 have m2:=zK n l s
 refine Nat.eq_of_mul_eq_mul_right (Nat.two_pow_pos (20-l s)) ?_
 rw [m2,e2,Nat.mul_assoc,←Nat.pow_add,show l s-l t+(20-l s)=20-l t by omega,Nat.add_mul,Nat.one_mul,m1]
end Go.Proofs.YtembljihmnmmfaaGreat
namespace Go.Proofs.YtembljihmnmmfaaGreat
set_option linter.unusedVariables false
set_option linter.unusedSimpArgs false
open Go.RowKit
theorem AFl {s:ByteArray} {n:Int} (h:¬ (0≤n∧n≤400000∧s.size=(n.toNat+7) / 8)):okB s n=false:=by
 rw [Bool.eq_false_iff,Ne,AKr];omega
theorem qn (s:ByteArray) (n:Int) (w:World) (hs:s.size≤maxLen) (b1:-9223372036854775808≤n) (b2:n≤9223372036854775807) :
 Calls Tryz.prog 116 #[.agg #[.string s,.int .i64 n]] w fun e w'=>e=.returned (.bool (okB s n))∧Below w.heap.size w w':=by
 unfold maxLen at hs
 by_cases h0:n<0
 ·rw [AFl (by omega)]
  go_enter Tryz.func116,Tryz.ntmps116
  go_wp2
  go_ret
  exact ⟨rfl,(Below.refl _ _).alloc (Nat.le_refl _) _⟩
 ·obtain ⟨m,rfl⟩:∃ m:Nat,n=m:=⟨n.toNat,by omega⟩
  by_cases h1:400000<m
  ·rw [AFl (by omega)]
   go_enter Tryz.func116,Tryz.ntmps116
   go_wp2
   go_ret
   exact ⟨rfl,(Below.refl _ _).alloc (Nat.le_refl _) _⟩
  ·by_cases h2:s.size=(m+7) / 8
   ·by_cases h3:m % 8=0
    ·have H:okB s m=true:=by
      rw [YP];exact ⟨by omega,h2,fun k hk hn=>by omega⟩
     rw [H];clear H
     go_enter Tryz.func116,Tryz.ntmps116
     go_wp2
     go_ret
     exact ⟨rfl,(Below.refl _ _).alloc (Nat.le_refl _) _⟩
    ·have hp:s.size-1<s.size:=by omega
     have hp':(m+7) / 8-1<s.size:=by omega
     have H:Hid (okB s m=(((s[(m+7) / 8-1].toNat:Int)*2^(m % 8) % 256) == 0)):=Qa (by
      rw [Bool.eq_iff_iff,YP,beq_iff_eq]
      have g:=AOh s m h2 h3
      have e8:s.size-1=(m+7) / 8-1:=by omega
      rw [e8,←Xi _ _ hp'] at g
      have g2:((s[(m+7) / 8-1].toNat:Int)*2^(m % 8) % 256=0)↔s[(m+7) / 8-1].toNat*2^(m % 8) % 256=0:=by
       rw [show ((s[(m+7) / 8-1].toNat:Int)*2^(m % 8) % 256)=((s[(m+7) / 8-1].toNat*2^(m % 8) % 256:Nat):Int) by simp]
       omega
      rw [g2,g]
      exact ⟨fun h=>h.2.2,fun h=>⟨by omega,h2,h⟩⟩)
     go_enter Tryz.func116,Tryz.ntmps116
     go_wp2
     go_ret
     refine ⟨Qk ?_,(Below.refl _ _).alloc (Nat.le_refl _) _⟩
     rw [H.out]
     have:((m:Int) % 8 == 0)=false:=by simp;omega
     rw [this,Bool.false_or]
   ·rw [AFl (by simp;omega)]
    have h2':((s.size:Int) != ((m:Int)+7) / 8)=true:=by simp;omega
    have h2'':((s.size:Int) == ((m:Int)+7) / 8)=false:=by simp;omega
    go_enter Tryz.func116,Tryz.ntmps116
    go_wp2
    go_ret
    exact ⟨rfl,(Below.refl _ _).alloc (Nat.le_refl _) _⟩
theorem AFb (k w:Nat):upW (k+1) w=up (upW k w):=rfl
theorem AOy (w:Nat) (h:w<4294967296) (hc:w / 2147483648=1):bits .xor .u32 ((w:Int)*2 % 4294967296) 79764919=(up w:Int):=by
 have e:((w:Int)*2 % 4294967296)=((2*w % 4294967296:Nat):Int):=by omega
 rw [e]
 refine (u32_xor_nat (2*w % 4294967296) 79764919 (by omega) (by omega)).trans ?_
 unfold up;rw [if_pos hc]
theorem AZx (w:Nat) (h:w<4294967296) (hc:¬ w / 2147483648=1):(w:Int)*2=(up w:Int):=by
 unfold up;rw [if_neg hc];omega
theorem AEd (b:Nat) (w:World) (hb:b<256) :
 Calls Tryz.prog 154 #[.int .u8 b] w fun e w'=>e=.returned (.int .u32 (Yc b))∧w'=w:=by
 go_enter Tryz.func154,Tryz.ntmps154
 go_wp2
 go_loop [3,8] (fun v i=>∃ k:Nat,k≤8∧i=.int .i64 k∧v=.int .u32 (upW k (b*16777216))) (fun _ i=>8-(intOf i).toNat)
 case atStart=>exact ⟨0,by omega,rfl,by simp [upW]⟩
 case round =>
  obtain ⟨k,hk,rfl,rfl⟩:=hrel
  by_cases hlt:k<8
  ·obtain ⟨u,hu⟩:∃ u,u=upW k (b*16777216):=⟨_,rfl⟩
   have hul:u<4294967296:=by rw [hu];exact xl _ _ (by omega)
   rw [←hu]
   have H:=Qa hu;clear hu
   by_cases hc:u / 2147483648=1
   ·go_wp2
    go_round
    case rel=>exact ⟨k+1,by omega,by go_num,by rw [AFb,←H.out];exact congrArg _ (AOy u hul hc)⟩
    case measure=>simp [intOf];omega
   ·go_wp2
    go_round
    case rel=>exact ⟨k+1,by omega,by go_num,by rw [AFb,←H.out];exact congrArg _ (AZx u hul hc)⟩
    case measure=>simp [intOf];omega
  ·have hk8:k=8:=by omega
   subst hk8
   go_wp2
   go_ret
   exact ⟨rfl,rfl⟩
theorem yR (b:Int) (w:World) (b1:-9223372036854775808≤b) (b2:b≤9223372036854775807) :
 Calls Tryz.prog 113 #[.int .i64 b] w fun e w'=>e=.returned (.bool (decide (0≤b∧b≤4294967295)))∧w'=w:=by
 by_cases h0:0≤b
 ·by_cases h1:b≤4294967295
  ·go_enter Tryz.func113,Tryz.ntmps113
   go_wp2
   go_ret
   exact ⟨Qk (by simp;omega),rfl⟩
  ·go_enter Tryz.func113,Tryz.ntmps113
   go_wp2
   go_ret
   exact ⟨Qk (by simp;omega),rfl⟩
 ·go_enter Tryz.func113,Tryz.ntmps113
  go_wp2
  go_ret
  exact ⟨Qk (by simp;omega),rfl⟩
end Go.Proofs.YtembljihmnmmfaaGreat
namespace Go.Proofs.YtembljihmnmmfaaGreat
set_option linter.unusedVariables false
set_option linter.unusedSimpArgs false
open Go.RowKit Go.Maps
theorem JC:Keyed Tryz.prog 5:=int_keyed Tryz.underlying5
def kB (b:Nat):Lit:=.int .u8 (b:Int)
theorem BAa {b:Nat} (h:b<256):(Lit.int .u8 (b:Int)).wf=true:=by
 have:∀ x:Fin 256,(Lit.int .u8 (x.val:Int)).wf=true:=by decide +kernel
 exact this ⟨b,h⟩
theorem keyB {b:Nat} (h:b<256):keyOf Tryz.prog 5 (.int .u8 (b:Int))=some (kB b):=keyOf_int_mk Tryz.underlying5 (BAa h)
theorem ADz (b:Nat) (h:b<256):WideAt.IsKeyLit (kB b):=JC.key (keyB h)
theorem ADh {a b:Nat} (h:a≠b):kB a≠kB b:=fun e=>by
 unfold kB at e
 injection e with _ e
 omega
theorem yO (w:World):(zeroValue 3).run Tryz.prog w=.ok (.int .i64 0) w:=by kernel_rfl
def XO (f:Nat→Nat):Nat:=(List.range 256).countP (fun b=>decide (0<f b))
theorem xo (l:List Nat):XO (fun b=>l.count b)=(Qm l).length:=by
 unfold XO Qm QV
 rw [List.countP_eq_length_filter]
theorem yY (p q:Nat→Bool) (b:Nat) (h:∀ x,x≠b→p x=q x):∀ n,b<n→(List.range n).countP p+(q b).toNat=(List.range n).countP q+(p b).toNat:=by
 intro n
 induction n with
 | zero=>intro h;omega
 | succ n ih =>
   intro hb
   rw [List.range_succ,List.countP_append,List.countP_append]
   by_cases e:b=n
   ·subst e
    have hc:(List.range b).countP p=(List.range b).countP q:=List.countP_congr (fun x hx=>by rw [List.mem_range] at hx;rw [h x (by omega)])
    rw [hc]
    cases hp:p b <;> cases hq:q b <;> simp [hp,hq]
   ·have:=ih (by omega)
    have hn:=h n (fun x=>e x.symm)
    simp only [List.countP_cons,List.countP_nil,hn]
    omega
theorem AVe (f:Nat→Nat) (b:Nat) (hb:b<256):XO (fun x=>if x=b then f b+1 else f x)=if 0<f b then XO f else XO f+1:=by
 have h:=yY (fun x=>decide (0<if x=b then f b+1 else f x)) (fun x=>decide (0<f x)) b (fun x hx=>by simp [hx]) 256 hb
 unfold XO
 by_cases h0:0<f b
 ·simp [h0] at h ⊢;exact h
 ·simp [h0] at h ⊢;omega
theorem AUt (f:Nat→Nat) (b:Nat) (hb:b<256):XO (fun x=>if x=b then 0 else f x)+(if 0<f b then 1 else 0)=XO f:=by
 have h:=yY (fun x=>decide (0<if x=b then 0 else f x)) (fun x=>decide (0<f x)) b (fun x hx=>by simp [hx]) 256 hb
 unfold XO
 by_cases h0:0<f b
 ·simp [h0] at h ⊢;omega
 ·simp [h0] at h ⊢;exact h
theorem AKa (f:Nat→Nat):XO f≤256:=by
 unfold XO
 have:=List.countP_le_length (p:=fun b=>decide (0<f b)) (l:=List.range 256)
 simpa using this
def Cnt (D:DataW Unit) (f:Nat→Nat):Prop :=
 Tidy D∧(∀ b,b<256→Maps.has D (kB b)=decide (0<f b))∧(∀ b,b<256→D.atKey (kB b) (.lit (.int .i64 0))=.lit (.int .i64 (f b:Int)))∧Maps.size D=XO f
theorem AXh:Cnt (.map []) (fun _=>0):=by
 refine ⟨tidy_empty,fun b _=>by simp [Maps.has],fun b _=>rfl,?_⟩
 unfold XO
 simp [Maps.size]
theorem AWj {D:DataW Unit} {f:Nat→Nat} (h:Cnt D f) {b:Nat} (hb:b<256):Cnt (D.put (kB b) (.lit (.int .i64 ((f b:Int)+1)))) (fun x=>if x=b then f b+1 else f x):=by
 obtain ⟨h1,h2,h3,h4⟩:=h
 refine ⟨h1.put (ADz b hb) _,fun x hx=>?_,fun x hx=>?_,?_⟩
 ·by_cases e:x=b
  ·subst e;rw [has_put_same h1.isMap (ADz x hx)];simp
  ·rw [has_put_other (ADh e),h2 x hx];simp [e]
 ·by_cases e:x=b
  ·subst e;rw [atKey_put_same h1.isMap (ADz x hx)];simp
  ·rw [atKey_put_other (ADh e),h3 x hx];simp [e]
 ·rw [size_put h1,h2 b hb,AVe f b hb,h4]
  simp
theorem AYw {D:DataW Unit} {f:Nat→Nat} (h:Cnt D f) {b:Nat} (hb:b<256):Cnt (D.del (kB b)) (fun x=>if x=b then 0 else f x):=by
 obtain ⟨h1,h2,h3,h4⟩:=h
 refine ⟨h1.del _,fun x hx=>?_,fun x hx=>?_,?_⟩
 ·by_cases e:x=b
  ·subst e;rw [has_del_same];simp
  ·rw [has_del_other (ADh e),h2 x hx];simp [e]
 ·by_cases e:x=b
  ·subst e;rw [atKey_del_same];simp
  ·rw [atKey_del_other (ADh e),h3 x hx];simp [e]
 ·have h5:=size_del (k:=kB b) h1
  have h6:=AUt f b hb
  rw [h2 b hb,h4] at h5
  simp at h5
  omega
theorem APv {D:DataW Unit} {f g:Nat→Nat} (h:Cnt D f) (e:∀ b,b<256→f b=g b):Cnt D g:=by
 obtain ⟨h1,h2,h3,h4⟩:=h
 refine ⟨h1,fun x hx=>by rw [h2 x hx,e x hx],fun x hx=>by rw [h3 x hx,e x hx],?_⟩
 rw [h4]
 unfold XO
 apply List.countP_congr
 intro b hb
 rw [List.mem_range] at hb
 rw [e b hb]
def Zh (W:World) (b n:Nat) (f:Nat→Nat):Prop:=∃ D,W.ownsMap Tryz.prog 5 (plainElem (H:=Unit) Tryz.prog 3) b n D∧Cnt D f
theorem Zh.lt {W:World} {b n:Nat} {f:Nat→Nat} (h:Zh W b n f):b<W.heap.size:=by obtain ⟨D,h,_⟩:=h;exact h.lt
theorem Zh.grown {W W':World} {b n:Nat} {f:Nat→Nat} {row:Option Nat} (h:Zh W b n f) (hg:W.grownBy W' row) (hne:some b≠row):Zh W' b n f:=by
 obtain ⟨D,h,h2⟩:=h
 exact ⟨D,h.kept hg hne,h2⟩
theorem Zh.below {W W':World} {b n:Nat} {f:Nat→Nat} (h:Zh W b n f) (hb:Below W.heap.size W W'):Zh W' b n f :=
 h.grown (row:=none) ⟨hb.os,hb.tape,hb.output,hb.size,fun i hi _=>hb.block i hi⟩ (by simp)
theorem Zh.only {W W':World} {b g n:Nat} {f:Nat→Nat} (h:Zh W b n f) (ho:Only g W W') (hne:b≠g):Zh W' b n f:=h.grown ho (by simpa using hne)
theorem Zh.alloc {W:World} {b n:Nat} {f:Nat→Nat} (h:Zh W b n f) (o:Obj):Zh (W.alloc o) b n f:=by
 obtain ⟨D,h,h2⟩:=h
 exact ⟨D,h.alloc o,h2⟩
theorem Zh.drewN {W:World} {b n:Nat} {f:Nat→Nat} (h:Zh W b n f) (k:Nat):Zh (W.drewN k) b n f:=h
theorem Zh.setCell {W:World} {b n:Nat} {f:Nat→Nat} (h:Zh W b n f) {p:Addr} (hp:b≠p.block) (u:Value):Zh (W.setCell p u) b n f:=by
 obtain ⟨D,h,h2⟩:=h
 exact ⟨D,h.setCell hp u,h2⟩
theorem Zh.mono {W:World} {b n m:Nat} {f:Nat→Nat} (h:Zh W b n f) (hm:n≤m):Zh W b m f:=by
 obtain ⟨D,h,h2⟩:=h
 exact ⟨D,h.mono hm,h2⟩
end Go.Proofs.YtembljihmnmmfaaGreat
namespace Go.Proofs.YtembljihmnmmfaaGreat
set_option linter.unusedVariables false
set_option linter.unusedSimpArgs false
open Go.RowKit
theorem qL {s:ByteArray} {n:Nat} (h:okB s n=true):n≤400000∧n≤8*s.size∧s.size≤50000:=by
 rw [YP] at h;omega
end Go.Proofs.YtembljihmnmmfaaGreat
namespace Go.Proofs.YtembljihmnmmfaaGreat
set_option linter.unusedVariables false
set_option linter.unusedSimpArgs false
def frZ (b:Int):List Int→Nat
 | []=>0
 | x::l=>if x<b then frZ b l+1 else 0
theorem AOe (b:Int):∀ l,frZ b l≤l.length
 | []=>Nat.le_refl _
 | x::l=>by
   unfold frZ
   have:=AOe b l
   split
   ·simp only [List.length_cons];omega
   ·omega
def chG (b:Int) (z:List Int):Nat→Nat→List (Nat × Nat)
 | 0,_=>[]
 | f+1,s=>if s<z.length then (s,max 1 (frZ b (z.drop s)))::chG b z f (s+max 1 (frZ b (z.drop s))) else []
def chR (b:Int) (z:List Int) (s:Nat):List (Nat × Nat):=chG b z (z.length-s) s
theorem AGh (b:Int) (z:List Int):∀ (f g s:Nat),z.length-s≤f→z.length-s≤g→chG b z f s=chG b z g s
 | 0,0,_,_,_=>rfl
 | 0,g+1,s,h,_=>by rw [chG,chG,if_neg (by omega)]
 | f+1,0,s,_,h=>by rw [chG,chG,if_neg (by omega)]
 | f+1,g+1,s,h1,h2=>by
   rw [chG,chG]
   by_cases h:s<z.length
   ·rw [if_pos h,if_pos h,AGh b z f g _ (by omega) (by omega)]
   ·rw [if_neg h,if_neg h]
theorem xB {b:Int} {z:List Int} {s:Nat} (h:z.length≤s):chR b z s=[]:=by
 unfold chR
 rw [show z.length-s=0 by omega,chG]
theorem ADl {b:Int} {z:List Int} {s:Nat} (h:s<z.length):chR b z s=(s,max 1 (frZ b (z.drop s)))::chR b z (s+max 1 (frZ b (z.drop s))):=by
 unfold chR
 obtain ⟨f,hf⟩:∃ f,z.length-s=f+1:=⟨z.length-s-1,by omega⟩
 rw [hf,chG,if_pos h,AGh b z f (z.length-(s+max 1 (frZ b (z.drop s)))) _ (by omega) (by omega)]
theorem AKi {b:Int} {z:List Int} {s:Nat} (h:s<z.length):s+max 1 (frZ b (z.drop s))≤z.length:=by
 have:=AOe b (z.drop s)
 rw [List.length_drop] at this
 omega
def pkC (z:List Int) (p:Nat × Nat):List Nat:=if 0<z.getD p.1 0 then [(z.getD p.1 0).toNat+1] else rsF p.2
theorem jt:∀ (L:List Nat),L=List.replicate (frZ 1 (ints L)) 0++L.drop (frZ 1 (ints L))∧(∀ y r,L.drop (frZ 1 (ints L))=y::r→0<y)
 | []=>by simp [ints,frZ]
 | x::l=>by
   have hs:ints (x::l)=(x:Int)::ints l:=rfl
   rw [hs]
   unfold frZ
   by_cases hx:(x:Int)<1
   ·rw [if_pos hx]
    have hx0:x=0:=by omega
    subst hx0
    obtain ⟨h1,h2⟩:=jt l
    refine ⟨?_,?_⟩
    ·rw [List.replicate_succ,List.cons_append,List.drop_succ_cons,←h1]
    ·rw [List.drop_succ_cons];exact h2
   ·rw [if_neg hx]
    refine ⟨by simp,fun y r h=>?_⟩
    rw [List.drop_zero] at h
    injection h with h _
    omega
theorem ABh (L:List Nat) (s:Nat):(ints L).drop s=ints (L.drop s):=by unfold ints;rw [List.map_drop]
theorem jc (L:List Nat):∀ (k s:Nat),L.length-s≤k→(chR 1 (ints L) s).flatMap (pkC (ints L))=Ze 0 (L.drop s)
 | 0,s,h=>by
   rw [xB (by rw [Qj];omega),List.drop_eq_nil_of_le (by omega),XQ];rfl
 | k+1,s,h=>by
   by_cases hs:s<L.length
   ·rw [ADl (by rw [Qj];exact hs),List.flatMap_cons]
    have hd:=Zx L s hs
    have hpos:s+max 1 (frZ 1 ((ints L).drop s))≤L.length:=by have:=AKi (b:=1) (z:=ints L) (s:=s) (by rw [Qj];exact hs);rwa [Qj] at this
    rw [jc L k _ (by omega)]
    unfold pkC
    simp only
    rw [XH,ABh]
    rw [ABh] at hpos
    obtain ⟨x,hx⟩:∃ x,L.getD s 0=x:=⟨_,rfl⟩
    rw [hx] at hd ⊢
    by_cases h0:0<x
    ·have hfr:frZ 1 (ints (L.drop s))=0:=by
      rw [hd]
      show frZ 1 ((x:Int)::ints (L.drop (s+1)))=0
      unfold frZ
      rw [if_neg (by omega)]
     rw [hfr,if_pos (by omega),hd,Jv 0 h0,XK]
     simp
    ·have hx0:x=0:=by omega
     subst hx0
     obtain ⟨h1,h2⟩:=jt (L.drop s)
     have hfr:1≤frZ 1 (ints (L.drop s)):=by
      rw [hd]
      show 1≤frZ 1 ((0:Int)::ints (L.drop (s+1)))
      unfold frZ
      rw [if_pos (by omega)]
      omega
     rw [if_neg (by omega)]
     obtain ⟨e,he⟩:∃ e,frZ 1 (ints (L.drop s))=e:=⟨_,rfl⟩
     rw [he] at h1 h2 hfr ⊢
     rw [show max 1 e=e by omega]
     rw [List.drop_drop] at h1 h2
     conv=>rhs;rw [h1,yx,Nat.zero_add]
     cases hR:L.drop (s+e) with
     | nil=>rw [XQ,XQ,XK,List.append_nil]
     | cons y r =>
       have hy:=h2 y r hR
       rw [Jv 0 hy,Jv e hy,XK,List.nil_append]
   ·rw [xB (by rw [Qj];omega),List.drop_eq_nil_of_le (by omega),XQ];rfl
end Go.Proofs.YtembljihmnmmfaaGreat
namespace Go.Proofs.YtembljihmnmmfaaGreat
set_option linter.unusedVariables false
set_option linter.unusedSimpArgs false
open Go.RowKit
theorem AVh {w:World} {B b off:Nat} {z:List Int} (hl:z.length≤1048576) (hr:∀ x∈z,-9223372036854775808≤x∧x≤9223372036854775807) (hb:b<B) (hc:∀ i,i<z.length→w.cell? ⟨b,off+i,none⟩=some (.int .i64 (z.getD i 0))) {i f:Nat} (hi:i≤z.length) :
 Ints w B (some ⟨b,off+f,none⟩) ((z.take i).drop f):=by
 refine ⟨by rw [AJu hi];omega,fun x hx=>hr x (List.mem_of_mem_take (List.mem_of_mem_drop hx)),fun _=>⟨b,off+f,rfl,hb,fun j hj=>?_⟩⟩
 rw [AJu hi] at hj
 rw [AYs hi (by omega),Nat.add_assoc]
 exact hc _ (by omega)
theorem XG (k:Int) (w:World) :
 Calls Tryz.prog 57 #[.int .i64 k] w fun e w'=>e=.returned (.bool (decide (1≤k∧k≤4)))∧w=w':=by
 by_cases h1:1≤k
 ·by_cases h4:k≤4
  ·rw [show decide (1≤k∧k≤4)=true by simp [h1,h4]]
   go_enter Tryz.func57,Tryz.ntmps57
   go_wp2
   go_ret
   exact ⟨rfl,rfl⟩
  ·rw [show decide (1≤k∧k≤4)=false by simp [h1,h4]]
   go_enter Tryz.func57,Tryz.ntmps57
   go_wp2
   go_ret
   exact ⟨rfl,rfl⟩
 ·rw [show decide (1≤k∧k≤4)=false by simp [h1]]
  go_enter Tryz.func57,Tryz.ntmps57
  go_wp2
  go_ret
  exact ⟨rfl,rfl⟩
theorem Jj (m t:Int) (b:Bool) (w:World) :
 Calls Tryz.prog 27 #[.agg #[.int .i64 m,.bool b,.int .i64 t]] w fun e w'=>e=.returned (.bool (QH m b t))∧Below w.heap.size w w':=by
 obtain ⟨r,hr⟩:∃ r,QH m b t=r:=⟨_,rfl⟩
 have HR:=Qa hr
 have KT:=Qa (fun W=>XG t W)
 rw [hr]
 clear hr
 by_cases e0:m=0
 ·subst e0
  clear KT
  cases b
  ·by_cases et:t=0
   ·subst et
    obtain rfl:true=r:=HR.out
    clear HR
    go_enter Tryz.func27,Tryz.ntmps27
    go_wp2
    go_ret
    exact ⟨rfl,(Below.refl _ _).alloc (Nat.le_refl _) _⟩
   ·obtain rfl:false=r:=by rw [←HR.out];unfold QH;simp [et]
    have hb:(t == 0)=false:=beq_eq_false_iff_ne.2 et
    clear HR
    go_enter Tryz.func27,Tryz.ntmps27
    go_wp2
    go_ret
    exact ⟨rfl,(Below.refl _ _).alloc (Nat.le_refl _) _⟩
  ·obtain rfl:false=r:=by rw [←HR.out];unfold QH;simp
   clear HR
   go_enter Tryz.func27,Tryz.ntmps27
   go_wp2
   go_ret
   exact ⟨rfl,(Below.refl _ _).alloc (Nat.le_refl _) _⟩
 have hb0:(m == 0)=false:=beq_eq_false_iff_ne.2 e0
 by_cases e12:m=1∨m=2
 ·have h1:Hid (decide (1≤t∧t≤4)=r):=by
   rw [←HR.out]
   refine Qa ?_
   unfold QH
   rcases e12 with rfl | rfl <;> simp
  have HE:=h1
  obtain ⟨q,hq⟩:∃ q,decide (1≤t∧t≤4)=q:=⟨_,rfl⟩
  rw [hq] at KT HE
  obtain rfl:q=r:=HE.out
  clear HR h1 HE hq
  rcases e12 with rfl | rfl
  all_goals
   go_enter Tryz.func27,Tryz.ntmps27
   go_wp2_with fail
   refine (KT.out _).mono ?_
   rintro e w1 ⟨rfl,rfl⟩
   go_wp2
   go_ret
   exact ⟨rfl,(Below.refl _ _).alloc (Nat.le_refl _) _⟩
 have e1:¬ m=1:=fun h=>e12 (.inl h)
 have e2:¬ m=2:=fun h=>e12 (.inr h)
 have hb1:(m == 1)=false:=beq_eq_false_iff_ne.2 e1
 have hb2:(m == 2)=false:=beq_eq_false_iff_ne.2 e2
 clear e12 KT
 by_cases e3:m=3
 ·subst e3
  by_cases et:t=0
  ·subst et
   obtain rfl:true=r:=by rw [←HR.out];unfold QH;simp
   clear HR e0 e1 e2 hb0 hb1 hb2
   go_enter Tryz.func27,Tryz.ntmps27
   go_wp2
   go_ret
   exact ⟨rfl,(Below.refl _ _).alloc (Nat.le_refl _) _⟩
  ·obtain rfl:false=r:=by rw [←HR.out];unfold QH;simp [et]
   have hb:(t == 0)=false:=beq_eq_false_iff_ne.2 et
   clear HR e0 e1 e2 hb0 hb1 hb2
   go_enter Tryz.func27,Tryz.ntmps27
   go_wp2
   go_ret
   exact ⟨rfl,(Below.refl _ _).alloc (Nat.le_refl _) _⟩
 have hb3:(m == 3)=false:=beq_eq_false_iff_ne.2 e3
 obtain rfl:false=r:=by rw [←HR.out];unfold QH;simp [e0,e1,e2,e3]
 clear HR
 go_enter Tryz.func27,Tryz.ntmps27
 go_wp2
 go_ret
 exact ⟨rfl,(Below.refl _ _).alloc (Nat.le_refl _) _⟩
end Go.Proofs.YtembljihmnmmfaaGreat
