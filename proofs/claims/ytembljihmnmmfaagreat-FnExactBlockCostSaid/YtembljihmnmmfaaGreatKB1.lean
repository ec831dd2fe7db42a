/- Texts of the proof, merged. -/
import Derived.WalkKit
namespace Go.Proofs.YtembljihmnmmfaaGreat
set_option linter.unusedVariables false
set_option linter.unusedSimpArgs false
def mrg {α:Type} (lt:α→α→Bool):List α→List α→List α
 | [],M=>M
 | x::L,[]=>x::L
 | x::L,y::M=>if lt y x=true then y::mrg lt (x::L) M else x::mrg lt L (y::M)
termination_by L M=>L.length+M.length
theorem YL {α:Type} (lt:α→α→Bool) (M:List α):mrg lt [] M=M:=by rw [mrg]
theorem Vr {α:Type} (lt:α→α→Bool) (L:List α):mrg lt L []=L:=by cases L <;> rw [mrg]
theorem Vj {α:Type} (lt:α→α→Bool) (L M:List α):(mrg lt L M).Perm (L++M):=by
 induction L,M using mrg.induct (lt:=lt) with
 | case1 M=>rw [YL];exact List.Perm.refl _
 | case2 x L=>rw [Vr,List.append_nil]
 | case3 x L y M h ih=>rw [mrg,if_pos h];exact (ih.cons y).trans List.perm_middle.symm
 | case4 x L y M h ih=>rw [mrg,if_neg h];exact ih.cons x
theorem xH {α:Type} (lt:α→α→Bool) (L M:List α) (i j:Nat) (h:¬ (i<L.length∧j<M.length)):mrg lt (L.drop i) (M.drop j)=L.drop i++M.drop j:=by
 rcases Nat.lt_or_ge i L.length with hi | hi
 ·rw [List.drop_eq_nil_of_le (show M.length≤j by omega),Vr,List.append_nil]
 ·rw [List.drop_eq_nil_of_le hi,YL];rfl
def srt {α:Type} (lt:α→α→Bool) (L:List α):List α:=if L.length<2 then L else mrg lt (srt lt (L.take (L.length / 2))) (srt lt (L.drop (L.length / 2)))
termination_by L.length
decreasing_by all_goals simp only [List.length_take,List.length_drop];omega
theorem Yn {α:Type} (lt:α→α→Bool) (L:List α) (h:L.length<2):srt lt L=L:=by rw [srt,if_pos h]
theorem qu {α:Type} (lt:α→α→Bool) (L:List α) (h:¬ L.length<2):srt lt L=mrg lt (srt lt (L.take (L.length / 2))) (srt lt (L.drop (L.length / 2))):=by rw [srt,if_neg h]
theorem XI {α:Type} (lt:α→α→Bool) (L:List α):(srt lt L).Perm L:=by
 induction L using srt.induct with
 | case1 L h=>rw [Yn lt L h]
 | case2 L h ih1 ih2 =>
   rw [qu lt L h]
   refine (Vj _ _ _).trans ((ih1.append ih2).trans ?_)
   rw [List.take_append_drop]
theorem xD {α:Type} (lt:α→α→Bool) (L:List α):(srt lt L).length=L.length:=(XI lt L).length_eq
end Go.Proofs.YtembljihmnmmfaaGreat
