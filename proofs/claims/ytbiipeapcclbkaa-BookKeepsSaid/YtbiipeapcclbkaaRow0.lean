/- Rows of things that a call builds by itself, whatever their shape. -/
import Derived.Test.YtbiipeapcclbkaaLow0
import Derived.Laws.AppendOwn
import Derived.Deep.OwnRows
import Derived.Below
namespace Go.Proofs.Ytbiipeapcclbkaa
open Go.RowKit
set_option linter.unusedVariables false

theorem anyQ_take_succ {α : Type} (l : List α) (p : α → Bool) (k : Nat) (y : α) (h : l[k]? = some y) : (l.take (k + 1)).any p = ((l.take k).any p || p y) := by
  obtain ⟨hk, rfl⟩ := List.getElem?_eq_some_iff.1 h
  rw [List.take_succ_eq_append_getElem hk, List.any_append]
  simp
theorem anyQ_of_take {α : Type} (l : List α) (p : α → Bool) (k : Nat) (h : (l.take k).any p = true) : l.any p = true := by
  have e := List.take_append_drop k l
  rw [← e, List.any_append, h, Bool.true_or]
theorem anyQ_false {α : Type} {l : List α} {p : α → Bool} (h : l.any p = false) : ∀ x ∈ l, p x = false := by
  intro x hx
  cases hp : p x with
  | false => rfl
  | true => rw [List.any_eq_true.2 ⟨x, hx, hp⟩] at h; cases h

/-- the cells of a list of things -/
def rowC {α : Type} (c : α → List Value) : List α → List Value
  | [] => []
  | x :: r => c x ++ rowC c r
theorem rowC_snoc {α : Type} (c : α → List Value) (l : List α) (x : α) : rowC c (l ++ [x]) = rowC c l ++ c x := by
  induction l with
  | nil => simp [rowC]
  | cons y r ih => simp [rowC, ih]
theorem rowC_append {α : Type} (c : α → List Value) (l r : List α) : rowC c (l ++ r) = rowC c l ++ rowC c r := by
  induction l with
  | nil => simp [rowC]
  | cons y t ih => simp [rowC, ih]
theorem rowC_length {α : Type} {c : α → List Value} {m : Nat} (hc : ∀ x, (c x).length = m) (l : List α) : (rowC c l).length = l.length * m := by
  induction l with
  | nil => simp [rowC]
  | cons y r ih => simp only [rowC, List.length_append, List.length_cons, ih, hc]; rw [Nat.add_mul]; omega
theorem rowC_at {α : Type} {c : α → List Value} {m : Nat} (hc : ∀ x, (c x).length = m) (l : List α) : ∀ (i j : Nat) (x : α), l[i]? = some x → j < m → (rowC c l)[i * m + j]? = (c x)[j]? := by
  induction l with
  | nil => intro i j x h; simp at h
  | cons y r ih =>
    intro i j x h hj
    cases i with
    | zero =>
      obtain rfl : y = x := by simpa using h
      rw [rowC, Nat.zero_mul, Nat.zero_add, List.getElem?_append_left (by rw [hc]; exact hj)]
    | succ i =>
      have := ih i j x (by simpa using h) hj
      rw [rowC, List.getElem?_append_right (by rw [hc, Nat.add_mul]; omega), hc, ← this]
      congr 1
      rw [Nat.add_mul]; omega
theorem rowC_cells {α : Type} {c : α → List Value} {p : Value → Prop} (h : ∀ x, ∀ u ∈ c x, p u) (l : List α) : ∀ u ∈ rowC c l, p u := by
  induction l with
  | nil => intro u hu; simp [rowC] at hu
  | cons y r ih =>
    intro u hu
    rcases List.mem_append.1 hu with hu | hu
    · exact h y u hu
    · exact ih u hu
theorem rowC_set {α : Type} {c : α → List Value} {m : Nat} (hc : ∀ x, (c x).length = m) (l : List α) : ∀ (i : Nat) (x : α), i < l.length → rowC c (l.set i x) = (rowC c l).take (i * m) ++ c x ++ (rowC c l).drop ((i + 1) * m) := by
  induction l with
  | nil => intro i x h; simp at h
  | cons y r ih =>
    intro i x h
    cases i with
    | zero => simp only [List.set_cons_zero, rowC, Nat.zero_mul, List.take_zero, List.nil_append, Nat.zero_add, Nat.one_mul]; rw [List.drop_left' (hc y)]
    | succ i =>
      have := ih i x (by simpa using h)
      simp only [List.set_cons_succ, rowC, this]
      have e1 : (i + 1) * m = (c y).length + i * m := by rw [hc, Nat.add_mul]; omega
      have e2 : (i + 1 + 1) * m = (c y).length + (i + 1) * m := by rw [hc, Nat.add_mul (i + 1)]; omega
      have e3 : (c y ++ rowC c r).take ((i + 1) * m) = c y ++ (rowC c r).take (i * m) := by
        rw [e1, List.take_append, List.take_of_length_le (by omega), Nat.add_sub_cancel_left]
      have e4 : (c y ++ rowC c r).drop ((i + 1 + 1) * m) = (rowC c r).drop ((i + 1) * m) := by
        rw [e2, List.drop_append, List.drop_of_length_le (by omega), Nat.add_sub_cancel_left, List.nil_append]
      rw [e3, e4]
      simp

/-- a row of things that the call has made by itself -/
def OwnR {α : Type} (w : World) (base : Nat) (e : TypeId) (m : Nat) (c : α → List Value) (v : Value) (l : List α) : Prop := w.ownsRow base e m v l.length (rowC c l)
theorem block_ltR {w : World} {g : Nat} {o : Obj} (h : w.heap[g]? = some o) : g < w.heap.size := (Array.getElem?_eq_some_iff.1 h).1
section
variable {α : Type} {w w' : World} {base : Nat} {e : TypeId} {m : Nat} {c : α → List Value} {v : Value} {l : List α}
theorem OwnR.nil (w : World) (base : Nat) (e : TypeId) (m : Nat) (c : α → List Value) : OwnR w base e m c (.slice none 0 0) [] := World.ownsRow_nil _ _ _ _
theorem OwnR.alloc (h : OwnR w base e m c v l) (o : Obj) : OwnR (w.alloc o) base e m c v l := World.ownsRow.alloc h o
theorem OwnR.drew (h : OwnR w base e m c v l) : OwnR w.drew base e m c v l := h
theorem OwnR.drewN (h : OwnR w base e m c v l) (q : Nat) : OwnR (w.drewN q) base e m c v l := h
theorem OwnR.kept {row : Option Nat} (h : OwnR w base e m c v l) (hg : w.grownBy w' row) (hne : v.ownBlock = none ∨ v.ownBlock ≠ row) : OwnR w' base e m c v l := World.ownsRow.kept h hg hne
theorem OwnR.below (h : OwnR w base e m c v l) (hb : Below w.heap.size w w') : OwnR w' base e m c v l := by
  refine ⟨h.1, ?_⟩
  rcases h.2 with h0 | ⟨g, cap, cur, e1, e2, e3, e4⟩
  · exact .inl h0
  · exact .inr ⟨g, cap, cur, e1, e2, by rw [hb.block g (block_ltR e3)]; exact e3, e4⟩
/-- a store into a block that is not the row's -/
theorem OwnR.other (h : OwnR w base e m c v l) {a : Addr} (hne : v.ownBlock ≠ some a.block) (u : Value) : OwnR (w.setCell a u) base e m c v l := by
  refine ⟨h.1, ?_⟩
  rcases h.2 with h0 | ⟨g, cap, cur, e1, e2, e3, e4⟩
  · exact .inl h0
  · refine .inr ⟨g, cap, cur, e1, e2, ?_, e4⟩
    subst e1
    have hg : a.block ≠ g := fun hx => hne (by simp [Value.ownBlock, hx])
    simp [World.setCell, Array.getElem?_modify, hg, e3]
theorem OwnR.mono {base' : Nat} (h : OwnR w base e m c v l) (hb : base' ≤ base) : OwnR w base' e m c v l := by
  refine ⟨h.1, ?_⟩
  rcases h.2 with h0 | ⟨g, cap, cur, e1, e2, e3, e4⟩
  · exact .inl h0
  · exact .inr ⟨g, cap, cur, e1, Nat.le_trans hb e2, e3, e4⟩
theorem OwnR.lt (h : OwnR w base e m c v l) : ∀ k, v.ownBlock = some k → base ≤ k ∧ k < w.heap.size := World.ownsRow.lt h
/-- either nothing is there, or it lies at the head of a block -/
theorem OwnR.form (h : OwnR w base e m c v l) : (∃ ao cap, v = .slice ao l.length cap) ∧ (l = [] ∨ ∃ g cap, v = .slice (some ⟨g, 0, none⟩) l.length cap ∧ base ≤ g ∧ g < w.heap.size) := by
  rcases h.2 with ⟨h0, h1⟩ | ⟨g, cap, cur, e1, e2, e3, e4⟩
  · exact ⟨⟨none, 0, by rw [h0, h1]⟩, .inl (List.length_eq_zero_iff.1 h1)⟩
  · exact ⟨⟨_, cap, e1⟩, .inr ⟨g, cap, e1, e2, block_ltR e3⟩⟩
theorem OwnR.cell {g cap : Nat} (hc : ∀ x, (c x).length = m) (h : OwnR w base e m c (.slice (some ⟨g, 0, none⟩) l.length cap) l) (i : Nat) (x : α) (hx : l[i]? = some x) (j : Nat) (hj : j < m) : w.cell? ⟨g, i * m + j, none⟩ = (c x)[j]? := by
  have hi : i < l.length := (List.getElem?_eq_some_iff.1 hx).1
  have hlt : i * m + j < l.length * m := by
    have : (i + 1) * m ≤ l.length * m := Nat.mul_le_mul_right m hi
    rw [Nat.add_mul] at this; omega
  rw [World.ownsRow.cellAt h _ hlt, rowC_at hc l i j x hx hj]
theorem OwnR.frozen {g cap n : Nat} (h : OwnR w base e m c (.slice (some ⟨g, 0, none⟩) n cap) l) (hn : n = l.length) (j : Nat) : w.frozen? ⟨g, j, none⟩ = false := by
  subst hn; exact World.ownsRow.frozenAt h j
/-- behind an append of one thing -/
theorem OwnR.snoc (x : α) (h : w'.ownsRow base e m v (l.length + 1) (rowC c l ++ c x)) : OwnR w' base e m c v (l ++ [x]) := by
  unfold OwnR
  rw [rowC_snoc, List.length_append]
  exact h
end
theorem new_cells (w : World) (cs : Array Value) (e : TypeId) (j : Nat) : (w.alloc (.cells cs e)).cell? ((⟨w.heap.size, 0, none⟩ : Addr).add j) = cs[j]? := by
  have hg := heap_alloc_new w (.cells cs e)
  rw [show (⟨w.heap.size, 0, none⟩ : Addr).add j = ⟨w.heap.size, 0 + j, none⟩ from by unfold Addr.add; split <;> simp_all, Nat.zero_add]
  unfold World.cell?
  rw [hg]
  simp
theorem ext_b {W x y : World} {B : Nat} (h : Below B W x) (k : Below x.heap.size x y) (hB : B ≤ x.heap.size) : Below B W y := h.trans (k.mono hB)
end Go.Proofs.Ytbiipeapcclbkaa
