/- The document's book: Put, plain. -/
import Derived.Test.YtbiipeapcclbkaaBkD3
import Derived.Test.YtbiipeapcclbkaaArm0
namespace Go.Proofs.Ytbiipeapcclbkaa
open Go.RowKit Go.Shelf
set_option linter.unusedVariables false
set_option linter.unusedSimpArgs false

/-- the entries, the last without its number -/
def lastX (L : List En) (t : ByteArray) : List (Nat × En × Nat) := plsL L ++ [(0, ⟨0, 0, t⟩, 0)]
def posX (l : List (Nat × En × Nat)) : Nat := posL (l.map (fun x => x.2.1))
theorem plsFrom_map (L : List En) : ∀ k p, (plsFrom k p L).map (fun x => x.2.1) = L := by
  induction L with
  | nil => intro k p; rfl
  | cons e l ih => intro k p; simp [plsFrom, ih]
theorem posX_last (L : List En) (k : Int) (t : ByteArray) : posX (lastX L t) = posL L + wid ⟨k, 0, t⟩ := by
  unfold posX lastX
  rw [List.map_append, posL_append]
  unfold plsL
  rw [plsFrom_map]
  simp [posL, wid]
theorem posX_take {l : List (Nat × En × Nat)} {i : Nat} {x : Nat × En × Nat} (h : l[i]? = some x) : posX (l.take (i + 1)) = posX (l.take i) + wid x.2.1 := by
  unfold posX
  rw [List.map_take, List.map_take]
  apply posL_take_succ
  rw [List.getElem?_map, h]; rfl
theorem posX_le (l : List (Nat × En × Nat)) (i : Nat) : posX (l.take i) ≤ posX l := by
  unfold posX
  rw [List.map_take]
  exact posL_take _ _
theorem wid_parts (e : En) : wid e = 1 + e.text.size / 16 + (if 0 < e.text.size % 16 then 1 else 0) := by
  unfold wid nC
  split <;> omega
end Go.Proofs.Ytbiipeapcclbkaa
