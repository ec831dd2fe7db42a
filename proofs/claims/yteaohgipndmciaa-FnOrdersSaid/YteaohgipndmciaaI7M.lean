/- Chapter 7, the program: a map from bytes to counts. -/
import Derived.Test.YteaohgipndmciaaAlph2
import Derived.Test.YteaohgipndmciaaInts
import Derived.Test.YteaohgipndmciaaStr
import Derived.Maps.OwnSet
import Derived.Maps.OwnOps
namespace Go.Proofs.Yteaohgipndmciaa
set_option linter.unusedVariables false
set_option linter.unusedSimpArgs false
open Go.RowKit Go.Maps

theorem byteKey : Keyed Try.prog 5 := int_keyed Try.underlying5
/-- A byte as a key. -/
def kB (b : Nat) : Lit := .int .u8 (b : Int)
theorem wf_u8 {b : Nat} (h : b < 256) : (Lit.int .u8 (b : Int)).wf = true := by
  have : ∀ x : Fin 256, (Lit.int .u8 (x.val : Int)).wf = true := by decide +kernel
  exact this ⟨b, h⟩
theorem keyB {b : Nat} (h : b < 256) : keyOf Try.prog 5 (.int .u8 (b : Int)) = some (kB b) := keyOf_int_mk Try.underlying5 (wf_u8 h)
theorem kB_lit (b : Nat) (h : b < 256) : WideAt.IsKeyLit (kB b) := byteKey.key (keyB h)
theorem kB_ne {a b : Nat} (h : a ≠ b) : kB a ≠ kB b := fun e => by
  unfold kB at e
  injection e with _ e
  omega
theorem zeroI7 (w : World) : (zeroValue 3).run Try.prog w = .ok (.int .i64 0) w := by kernel_rfl

/-- How many bytes have a count. -/
def cardF (f : Nat → Nat) : Nat := (List.range 256).countP (fun b => decide (0 < f b))
theorem card_used (l : List Nat) : cardF (fun b => l.count b) = (usedL l).length := by
  unfold cardF usedL usedTo
  rw [List.countP_eq_length_filter]
theorem countP_upd (p q : Nat → Bool) (b : Nat) (h : ∀ x, x ≠ b → p x = q x) : ∀ n, b < n → (List.range n).countP p + (q b).toNat = (List.range n).countP q + (p b).toNat := by
  intro n
  induction n with
  | zero => intro h; omega
  | succ n ih =>
    intro hb
    rw [List.range_succ, List.countP_append, List.countP_append]
    by_cases e : b = n
    · subst e
      have hc : (List.range b).countP p = (List.range b).countP q := List.countP_congr (fun x hx => by rw [List.mem_range] at hx; rw [h x (by omega)])
      rw [hc]
      cases hp : p b <;> cases hq : q b <;> simp [hp, hq]
    · have := ih (by omega)
      have hn := h n (fun x => e x.symm)
      simp only [List.countP_cons, List.countP_nil, hn]
      omega
theorem card_put (f : Nat → Nat) (b : Nat) (hb : b < 256) : cardF (fun x => if x = b then f b + 1 else f x) = if 0 < f b then cardF f else cardF f + 1 := by
  have h := countP_upd (fun x => decide (0 < if x = b then f b + 1 else f x)) (fun x => decide (0 < f x)) b (fun x hx => by simp [hx]) 256 hb
  unfold cardF
  by_cases h0 : 0 < f b
  · simp [h0] at h ⊢; exact h
  · simp [h0] at h ⊢; omega
theorem card_del (f : Nat → Nat) (b : Nat) (hb : b < 256) : cardF (fun x => if x = b then 0 else f x) + (if 0 < f b then 1 else 0) = cardF f := by
  have h := countP_upd (fun x => decide (0 < if x = b then 0 else f x)) (fun x => decide (0 < f x)) b (fun x hx => by simp [hx]) 256 hb
  unfold cardF
  by_cases h0 : 0 < f b
  · simp [h0] at h ⊢; omega
  · simp [h0] at h ⊢; exact h
theorem card_le (f : Nat → Nat) : cardF f ≤ 256 := by
  unfold cardF
  have := List.countP_le_length (p := fun b => decide (0 < f b)) (l := List.range 256)
  simpa using this

/-- What the map's datum says: the counts. -/
def Cnt (D : DataW Unit) (f : Nat → Nat) : Prop :=
  Tidy D ∧ (∀ b, b < 256 → Maps.has D (kB b) = decide (0 < f b)) ∧ (∀ b, b < 256 → D.atKey (kB b) (.lit (.int .i64 0)) = .lit (.int .i64 (f b : Int))) ∧ Maps.size D = cardF f
theorem cnt_nil : Cnt (.map []) (fun _ => 0) := by
  refine ⟨tidy_empty, fun b _ => by simp [Maps.has], fun b _ => rfl, ?_⟩
  unfold cardF
  simp [Maps.size]
theorem cnt_put {D : DataW Unit} {f : Nat → Nat} (h : Cnt D f) {b : Nat} (hb : b < 256) : Cnt (D.put (kB b) (.lit (.int .i64 ((f b : Int) + 1)))) (fun x => if x = b then f b + 1 else f x) := by
  obtain ⟨h1, h2, h3, h4⟩ := h
  refine ⟨h1.put (kB_lit b hb) _, fun x hx => ?_, fun x hx => ?_, ?_⟩
  · by_cases e : x = b
    · subst e; rw [has_put_same h1.isMap (kB_lit x hx)]; simp
    · rw [has_put_other (kB_ne e), h2 x hx]; simp [e]
  · by_cases e : x = b
    · subst e; rw [atKey_put_same h1.isMap (kB_lit x hx)]; simp
    · rw [atKey_put_other (kB_ne e), h3 x hx]; simp [e]
  · rw [size_put h1, h2 b hb, card_put f b hb, h4]
    simp
theorem cnt_del {D : DataW Unit} {f : Nat → Nat} (h : Cnt D f) {b : Nat} (hb : b < 256) : Cnt (D.del (kB b)) (fun x => if x = b then 0 else f x) := by
  obtain ⟨h1, h2, h3, h4⟩ := h
  refine ⟨h1.del _, fun x hx => ?_, fun x hx => ?_, ?_⟩
  · by_cases e : x = b
    · subst e; rw [has_del_same]; simp
    · rw [has_del_other (kB_ne e), h2 x hx]; simp [e]
  · by_cases e : x = b
    · subst e; rw [atKey_del_same]; simp
    · rw [atKey_del_other (kB_ne e), h3 x hx]; simp [e]
  · have h5 := size_del (k := kB b) h1
    have h6 := card_del f b hb
    rw [h2 b hb, h4] at h5
    simp at h5
    omega
theorem cnt_congr {D : DataW Unit} {f g : Nat → Nat} (h : Cnt D f) (e : ∀ b, b < 256 → f b = g b) : Cnt D g := by
  obtain ⟨h1, h2, h3, h4⟩ := h
  refine ⟨h1, fun x hx => by rw [h2 x hx, e x hx], fun x hx => by rw [h3 x hx, e x hx], ?_⟩
  rw [h4]
  unfold cardF
  apply List.countP_congr
  intro b hb
  rw [List.mem_range] at hb
  rw [e b hb]
/-- Block b is a map of at most n entries that holds the counts f. -/
def CntAt (W : World) (b n : Nat) (f : Nat → Nat) : Prop := ∃ D, W.ownsMap Try.prog 5 (plainElem (H := Unit) Try.prog 3) b n D ∧ Cnt D f
theorem CntAt.lt {W : World} {b n : Nat} {f : Nat → Nat} (h : CntAt W b n f) : b < W.heap.size := by obtain ⟨D, h, _⟩ := h; exact h.lt
theorem CntAt.grown {W W' : World} {b n : Nat} {f : Nat → Nat} {row : Option Nat} (h : CntAt W b n f) (hg : W.grownBy W' row) (hne : some b ≠ row) : CntAt W' b n f := by
  obtain ⟨D, h, h2⟩ := h
  exact ⟨D, h.kept hg hne, h2⟩
theorem CntAt.below {W W' : World} {b n : Nat} {f : Nat → Nat} (h : CntAt W b n f) (hb : Below W.heap.size W W') : CntAt W' b n f :=
  h.grown (row := none) ⟨hb.os, hb.tape, hb.output, hb.size, fun i hi _ => hb.block i hi⟩ (by simp)
theorem CntAt.only {W W' : World} {b g n : Nat} {f : Nat → Nat} (h : CntAt W b n f) (ho : Only g W W') (hne : b ≠ g) : CntAt W' b n f := h.grown ho (by simpa using hne)
theorem CntAt.alloc {W : World} {b n : Nat} {f : Nat → Nat} (h : CntAt W b n f) (o : Obj) : CntAt (W.alloc o) b n f := by
  obtain ⟨D, h, h2⟩ := h
  exact ⟨D, h.alloc o, h2⟩
theorem CntAt.drewN {W : World} {b n : Nat} {f : Nat → Nat} (h : CntAt W b n f) (k : Nat) : CntAt (W.drewN k) b n f := h
theorem CntAt.setCell {W : World} {b n : Nat} {f : Nat → Nat} (h : CntAt W b n f) {p : Addr} (hp : b ≠ p.block) (u : Value) : CntAt (W.setCell p u) b n f := by
  obtain ⟨D, h, h2⟩ := h
  exact ⟨D, h.setCell hp u, h2⟩
theorem CntAt.congr {W : World} {b n : Nat} {f g : Nat → Nat} (h : CntAt W b n f) (e : ∀ b, b < 256 → f b = g b) : CntAt W b n g := by
  obtain ⟨D, h, h2⟩ := h
  exact ⟨D, h, cnt_congr h2 e⟩
theorem CntAt.mono {W : World} {b n m : Nat} {f : Nat → Nat} (h : CntAt W b n f) (hm : n ≤ m) : CntAt W b m f := by
  obtain ⟨D, h, h2⟩ := h
  exact ⟨D, h.mono hm, h2⟩
end Go.Proofs.Yteaohgipndmciaa
