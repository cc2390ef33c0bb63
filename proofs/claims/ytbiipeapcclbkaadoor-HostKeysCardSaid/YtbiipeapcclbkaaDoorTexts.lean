/- Texts that lie in a row: of an argument that is small. -/
import Derived.Test.YtbiipeapcclbkaaDoorRows
import Derived.Test.YtbiipeapcclbkaaDoorLow
import Derived.ProofKit
import Derived.SliceStrings
import Derived.OpenShut
namespace Go.Proofs.YtbiipeapcclbkaaDoor
open Go.ChangeShapes Go.WideShapes Go.ChangeAt Go.RowKit
set_option linter.unusedVariables false

/-- texts that lie in a row -/
def TRow (w : World) (ao : Option Addr) (l : List ByteArray) : Prop :=
  l = [] ∨ ∃ b off, ao = some ⟨b, off, none⟩ ∧ b < w.heap.size ∧ ∀ i s, l[i]? = some s → w.cell? ⟨b, off + i, none⟩ = some (.string s)
theorem TRow.below {w w' : World} {ao : Option Addr} {l : List ByteArray} (h : TRow w ao l) (hb : Below w.heap.size w w') : TRow w' ao l := by
  rcases h with h | ⟨b, off, e, hlt, hc⟩
  · exact .inl h
  · exact .inr ⟨b, off, e, Nat.lt_of_lt_of_le hlt hb.size, fun i s hi => (hb.cell (p := ⟨b, off + i, none⟩) hlt).trans (hc i s hi)⟩
/-- how many letters they have, and one each -/
def bulkT : List ByteArray → Nat
  | [] => 0
  | s :: r => s.size + 1 + bulkT r
theorem bulkT_mem {l : List ByteArray} {s : ByteArray} (h : s ∈ l) : s.size < bulkT l := by
  induction l with
  | nil => cases h
  | cons x r ih =>
    rcases List.mem_cons.1 h with rfl | h
    · simp only [bulkT]; omega
    · have := ih h
      simp only [bulkT]; omega
theorem bulkT_length (l : List ByteArray) : l.length ≤ bulkT l := by
  induction l with
  | nil => simp
  | cons x r ih => simp only [bulkT, List.length_cons]; omega
theorem strs_bulk {H : Type} (l : List ByteArray) : Rows.uptoBulkAll (strs l : List (DataW H)) = bulkT l := by
  induction l with
  | nil => rfl
  | cons x r ih =>
    have ih' : Rows.uptoBulkAll (List.map (fun s : ByteArray => DataW.lit (.string s.data.toList)) r : List (DataW H)) = bulkT r := ih
    simp only [strs, List.map_cons, Rows.uptoBulkAll, Rows.uptoBulk, bulkT, ih']
    have : x.data.toList.length = x.size := by simp
    omega
theorem cellsStrT : Tryd.prog.cellsOf 9 = 1 := by kernel_rfl
theorem cell_ltT {w : World} {a : Addr} {v : Value} (h : w.cell? a = some v) : a.block < w.heap.size := by
  rcases Nat.lt_or_ge a.block w.heap.size with h1 | h1
  · exact h1
  · unfold World.cell? at h
    rw [Array.getElem?_eq_none h1] at h
    cases h
theorem open_texts {H : Type} {enc : TypeId × Value → H} {W : World} {held : Bool} {ao : Option Addr} {len cap : Nat} {d : DataW H} {p : List MemPlace}
    (h : DataW.Trod enc Tryd.prog W 0 (fun _ => true) held 68 (.slice ao len cap) d p) :
    ∃ fs : List ByteArray, fs.length = len ∧ TRow W ao fs ∧ bulkT fs < Rows.uptoBulk d ∧ (∀ s ∈ fs, s.size ≤ maxLen) := by
  obtain ⟨fuel, hf⟩ := h
  rcases open_strings Tryd.underlying68 Tryd.underlying9 cellsStrT hf with ⟨hcs, hx⟩ | ⟨a, len', cap', ss, hcs, _, hl, hm, hz, hx, hcell, hsz⟩
  · simp [Value.cells] at hcs
    obtain ⟨rfl, rfl, rfl⟩ := hcs
    simp only [Prod.mk.injEq] at hx
    exact ⟨[], rfl, .inl rfl, by rw [hx.1]; simp [bulkT, Rows.uptoBulk], by simp⟩
  · simp [Value.cells] at hcs
    obtain ⟨rfl, rfl, rfl⟩ := hcs
    simp only [if_true] at hz
    simp only [Prod.mk.injEq] at hx
    refine ⟨ss.take len, by rw [List.length_take]; omega, ?_, ?_, fun s hs => hsz s (List.mem_of_mem_take hs)⟩
    · by_cases hl0 : len = 0
      · subst hl0; exact .inl rfl
      · obtain ⟨b, off, spot⟩ := a
        have hc0 := hcell 0 (by omega)
        have hspot : spot = none := by simpa [Addr.add] using World.cell?_spot hc0
        subst hspot
        refine .inr ⟨b, off, rfl, by simpa [Addr.add] using cell_ltT hc0, fun i s hi => ?_⟩
        have hi' : i < len := by
          rcases Nat.lt_or_ge i len with h | h
          · exact h
          · rw [List.getElem?_eq_none (by rw [List.length_take]; omega)] at hi; cases hi
        rw [List.getElem?_take_of_lt hi'] at hi
        have := hcell i (by omega)
        rw [WideShapes.add_plain] at this
        rw [this]
        simp [hi]
    · rw [hx.1]
      simp only [Rows.uptoBulk, strs_bulk]
      omega
end Go.Proofs.YtbiipeapcclbkaaDoor
