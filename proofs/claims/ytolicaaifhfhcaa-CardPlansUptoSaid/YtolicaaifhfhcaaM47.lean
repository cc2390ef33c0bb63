/- parts of the program's talk: text, blame, number, print. -/
import Derived.Test.YtolicaaifhfhcaaM42
import Derived.Test.YtolicaaifhfhcaaM44
import Derived.Deep.AppendLies
import Derived.Deep.RegionHeld3
import Derived.Deep.RegionWith
import Derived.Deep.RegionLaw
import Derived.Test.YtolicaaifhfhcaaM40
namespace Go.Proofs.Ytolicaaifhfhcaa
open Go.RowKit
set_option linter.unusedVariables false

/-- a text with its tag -/
def leafC (x : Int × ByteArray) : List Value := [.int .i64 x.1, .string x.2, .slice none 0 0]
def leavesC : List (Int × ByteArray) → List Value
  | [] => []
  | x :: r => leafC x ++ leavesC r
theorem leavesC_snoc (l : List (Int × ByteArray)) (x : Int × ByteArray) : leavesC (l ++ [x]) = leavesC l ++ leafC x := by
  induction l with
  | nil => simp [leavesC]
  | cons y r ih => simp [leavesC, ih]
theorem leavesC_length (l : List (Int × ByteArray)) : (leavesC l).length = l.length * 3 := by
  induction l with
  | nil => rfl
  | cons y r ih => simp [leavesC, leafC, ih]; omega
theorem leavesC_at (l : List (Int × ByteArray)) (i : Nat) (x : Int × ByteArray) (h : l[i]? = some x) : (leavesC l)[i * 3]? = some (.int .i64 x.1) ∧ (leavesC l)[i * 3 + 1]? = some (.string x.2) ∧ (leavesC l)[i * 3 + 2]? = some (.slice none 0 0) := by
  induction l generalizing i with
  | nil => simp at h
  | cons y r ih =>
    cases i with
    | zero =>
      obtain rfl : y = x := by simpa using h
      exact ⟨rfl, rfl, rfl⟩
    | succ i =>
      obtain ⟨h0, h1, h2⟩ := ih i (by simpa using h)
      have e : ∀ j, (leavesC (y :: r))[(i + 1) * 3 + j]? = (leavesC r)[i * 3 + j]? := fun j => by
        rw [leavesC, List.getElem?_append_right (by simp [leafC]; omega)]
        congr 1
        simp [leafC]; omega
      exact ⟨(e 0).trans h0, (e 1).trans h1, (e 2).trans h2⟩
theorem alloc_keepT {w : World} {g : Nat} {o o' : Obj} (h : w.heap[g]? = some o) : (w.drew.alloc o').heap[g]? = some o := by
  rw [((Below.refl w.drew.heap.size w.drew).alloc (Nat.le_refl _) o').block g (block_ltQ h)]; exact h
theorem owns_setQ {w : World} {base b j : Nat} {e : TypeId} {size : Nat} {v u : Value} {n : Nat} {xs : List Value} (h : w.ownsRow base e size v n xs) (hb : b < base) : (w.setCell ⟨b, j, none⟩ u).ownsRow base e size v n xs := by
  refine ⟨h.1, ?_⟩
  rcases h.2 with h1 | ⟨g, cap, cur, h1, hB, hh, h2⟩
  · exact .inl h1
  · exact .inr ⟨g, cap, cur, h1, hB, (Below.heap_setCell _ _ _ _ (by show g ≠ b; omega)).trans hh, h2⟩

theorem set3 (L : List Value) (a b c x y z : Value) (m : Nat) (h : L.length = m) : (((L ++ [a, b, c]).set m x).set (m + 1) y).set (m + 2) z = L ++ [x, y, z] := by
  subst h
  induction L with
  | nil => rfl
  | cons u r ih => exact congrArg (List.cons u) ih
end Go.Proofs.Ytolicaaifhfhcaa
namespace Go.Proofs.Ytolicaaifhfhcaa
open Go.RowKit
set_option linter.unusedVariables false


/-- a text with its tag, as an item; one item of such -/
def leafI (x : Int × ByteArray) : It := .mk x.1 x.2 []
def nodeI (t : Int) (ls : List (Int × ByteArray)) : It := .mk t ⟨#[]⟩ (ls.map leafI)
/-- how much texts hold -/
def wtL (ls : List (Int × ByteArray)) : Nat := (ls.map fun x => 1 + x.2.size).sum
theorem wt_node (t : Int) (ls : List (Int × ByteArray)) : wt 2 [nodeI t ls] = 1 + wtL ls := by
  have h : ∀ ls : List (Int × ByteArray), ((ls.map leafI).map fun x => 1 + x.text.size + wt 0 x.list).sum = wtL ls := fun ls => by
    unfold wtL
    rw [List.map_map]
    rfl
  show ([nodeI t ls].map fun x => 1 + x.text.size + wt 1 x.list).sum = _
  simp only [List.map_cons, List.map_nil, List.sum_cons, List.sum_nil]
  have e : (nodeI t ls).text.size = 0 := rfl
  have e2 : wt 1 (nodeI t ls).list = wtL ls := h ls
  rw [e, e2]
  omega
def okL (ls : List (Int × ByteArray)) : Prop := ∀ x ∈ ls, x.1 ≤ 9223372036854775807 ∧ x.2.size ≤ maxLen
theorem ret_pairT {s t : ByteArray} {a b : Int} (h1 : s = t) (h2 : a = b) : Ending.returned (.tuple #[.string s, .int .i64 a]) = .returned (.tuple #[.string t, .int .i64 b]) := by rw [h1, h2]
/-- what print answers -/
def tellE (t : Int) (ls : List (Int × ByteArray)) (er : Int) : Int := if er = 0 then printsE (measD 2 [nodeI t ls]) else er
def tellS (t : Int) (ls : List (Int × ByteArray)) (er : Int) : ByteArray := if er = 0 then printsS 2 [nodeI t ls] else ⟨#[]⟩
end Go.Proofs.Ytolicaaifhfhcaa
