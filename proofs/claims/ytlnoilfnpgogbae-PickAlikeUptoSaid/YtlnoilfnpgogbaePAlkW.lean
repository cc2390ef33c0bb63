/- The law of PickAlike: the walk up to the second call. -/
import Derived.Test.YtlnoilfnpgogbaePAlk
namespace Go.Proofs.Ytlnoilfnpgogbae
open Go.RowKit
set_option linter.unusedVariables false

def cellsK (x : XKnown) : List Value := [.string x.name, .bool x.part]
def cellsKL : List XKnown → List Value
  | [] => []
  | x :: r => cellsK x ++ cellsKL r
theorem cellsKL_snoc (l : List XKnown) (x : XKnown) : cellsKL (l ++ [x]) = cellsKL l ++ cellsK x := by
  induction l with
  | nil => simp [cellsKL]
  | cons y r ih => simp [cellsKL, ih]
theorem cellsKL_at (l : List XKnown) (i : Nat) (x : XKnown) (h : l[i]? = some x) : (cellsKL l)[i * 2]? = some (.string x.name) ∧ (cellsKL l)[i * 2 + 1]? = some (.bool x.part) := by
  induction l generalizing i with
  | nil => simp at h
  | cons y r ih =>
    cases i with
    | zero =>
      obtain rfl : y = x := by simpa using h
      exact ⟨rfl, rfl⟩
    | succ i =>
      obtain ⟨h0, h1⟩ := ih i (by simpa using h)
      have e : ∀ j, (cellsKL (y :: r))[(i + 1) * 2 + j]? = (cellsKL r)[i * 2 + j]? := fun j => by
        rw [cellsKL, List.getElem?_append_right (by simp [cellsK]; omega)]
        congr 1
        simp [cellsK]; omega
      exact ⟨(e 0).trans h0, (e 1).trans h1⟩
theorem infoKnown : (Try.prog.info? 37).map (fun i => (i.zero, i.size, i.bytes)) = some (some (.agg #[.string ⟨#[]⟩, .bool false]), 2, 24) := by kernel_rfl
theorem known_of_own {w : World} {B : Nat} {v : Value} {l : List XKnown} (h : w.ownsRow B 37 2 v l.length (cellsKL l)) (hok : ∀ x ∈ l, okKnown w x) (hl : l.length ≤ maxLen) :
    ∃ ao cap, v = .slice ao l.length cap ∧ RowKnown w ao l := by
  rcases h.2 with ⟨hv, hn⟩ | ⟨g, cap, cur, hv, hg, hh, _, _, _, htake⟩
  · obtain rfl := List.length_eq_zero_iff.1 hn
    exact ⟨none, 0, hv, .inl rfl, hok, hl⟩
  · refine ⟨_, cap, hv, .inr ⟨g, 0, rfl, block_ltP hh, fun i x hx => ?_⟩, hok, hl⟩
    obtain ⟨h0, h1⟩ := cellsKL_at l i x hx
    have hi : i < l.length := (List.getElem?_eq_some_iff.1 hx).1
    rw [← htake] at h0 h1
    rw [List.getElem?_take_of_lt (by omega)] at h0 h1
    rw [Nat.zero_add]
    exact ⟨by rw [cell_of_row _ _ _ _ _ _ hh, ← h0]; simp, by rw [cell_of_row _ _ _ _ _ _ hh, ← h1]; simp⟩
theorem known_new (w : World) (x : XKnown) (e : TypeId) (j : Nat) (u : Value) (h : (cellsK x)[j]? = some u) :
    (w.alloc (.cells #[.string x.name, .bool x.part] e)).cell? ((⟨w.heap.size, 0, none⟩ : Addr).add j) = some u := by
  have hg := heap_alloc_new w (.cells #[.string x.name, .bool x.part] e)
  rw [show (⟨w.heap.size, 0, none⟩ : Addr).add j = ⟨w.heap.size, 0 + j, none⟩ from by unfold Addr.add; split <;> simp_all, Nat.zero_add, cell_of_row _ _ j _ e _ hg]
  simpa [cellsK] using h
def debA : XApp := ⟨⟨#[68, 69, 66, 73, 84]⟩, ⟨#[97]⟩, 0, false⟩
def debK : XKnown := ⟨⟨#[68, 69, 66, 73, 84]⟩, false⟩
theorem deb_one : (candS [debA] [debK]).length = 1 := by rfl
theorem deb_zero : candE [debA] [debK] = 0 := by rfl
theorem deb_rows (w : World) (ea ek : TypeId) : RowApp ((w.alloc (.cells #[.string debA.name, .string debA.label, .int .i64 debA.prio, .bool debA.confirm] ea)).alloc (.cells #[.string debK.name, .bool debK.part] ek)) (some ⟨w.heap.size, 0, none⟩) [debA] ∧
    RowKnown ((w.alloc (.cells #[.string debA.name, .string debA.label, .int .i64 debA.prio, .bool debA.confirm] ea)).alloc (.cells #[.string debK.name, .bool debK.part] ek)) (some ⟨w.heap.size + 1, 0, none⟩) [debK] := by
  constructor
  · refine ⟨.inr ⟨_, _, rfl, by simp; omega, fun i x hx => ?_⟩, fun x hx => ?_, by decide⟩
    · match i, hx with
      | 0, hx =>
        obtain rfl : debA = x := by simpa using hx
        refine ⟨?_, ?_, ?_, ?_⟩ <;> (rw [World.cell?_alloc_past _ _ _ (by simp), World.cell?_alloc_at _ _ _ _ (by simp)]; rfl)
      | n + 1, hx => simp at hx
    · obtain rfl : x = debA := by simpa using hx
      refine ⟨by decide, by decide, by decide⟩
  · refine ⟨.inr ⟨_, _, rfl, by simp, fun i x hx => ?_⟩, fun x hx => ?_, by decide⟩
    · match i, hx with
      | 0, hx =>
        obtain rfl : debK = x := by simpa using hx
        refine ⟨?_, ?_⟩ <;> (rw [World.cell?_alloc_at _ _ _ _ (by simp)]; rfl)
      | n + 1, hx => simp at hx
    · obtain rfl : x = debK := by simpa using hx
      show debK.name.size ≤ maxLen
      decide
end Go.Proofs.Ytlnoilfnpgogbae
