/- Plain: that a shop knows a name, as the program's map tells it, is what the document says. -/
import Derived.Test.YtlnoilfnpgogbaePKnow2
namespace Go.Proofs.Ytlnoilfnpgogbae
open Go.RowKit
set_option linter.unusedVariables false

/-- the document's words: one of the same Name, or a Partial one whose Name is a beginning -/
def bothB (sh : List XKnown) (nm : List UInt8) : Bool := sh.any (fun x => (x.name.data.toList == nm) || (x.part && (decide (x.name.data.toList.length ≤ nm.length) && (nm.take x.name.data.toList.length == x.name.data.toList))))

theorem howOf_ge (x : XKnown) : 1 ≤ howOf x ∧ howOf x ≤ 2 := by unfold howOf; cases x.part <;> simp
theorem howOf_two (x : XKnown) : howOf x = 2 ↔ x.part = true := by unfold howOf; cases x.part <;> simp

theorem kvTo_facts (l : List XKnown) (y : List UInt8) (n : Nat) (hn : n ≤ l.length) :
    (kvTo l y n ≠ 0 ↔ ∃ x ∈ l.take n, x.name.data.toList = y) ∧ (kvTo l y n = 2 ↔ ∃ x ∈ l.take n, x.name.data.toList = y ∧ x.part = true) := by
  induction n with
  | zero => simp [kvTo]
  | succ n ih =>
    have hlt : n < l.length := by omega
    obtain ⟨i1, i2⟩ := ih (by omega)
    have hx : l[n]? = some l[n] := List.getElem?_eq_getElem hlt
    have hb := kvTo_bounds l y n
    have hh := howOf_ge l[n]
    have ht := howOf_two l[n]
    rw [kvTo_step l y n _ hx, List.take_succ_eq_append_getElem hlt]
    by_cases hy : l[n].name.data.toList = y
    · rw [if_pos hy]
      constructor
      · constructor
        · intro _
          exact ⟨l[n], List.mem_append.2 (.inr (List.mem_singleton.2 rfl)), hy⟩
        · intro _
          split <;> omega
      · constructor
        · intro h
          by_cases hp : l[n].part = true
          · exact ⟨l[n], List.mem_append.2 (.inr (List.mem_singleton.2 rfl)), hy, hp⟩
          · have : howOf l[n] ≠ 2 := fun h2 => hp (ht.1 h2)
            have hk : kvTo l y n = 2 := by split at h <;> omega
            obtain ⟨x, hm, h1, h2⟩ := i2.1 hk
            exact ⟨x, List.mem_append.2 (.inl hm), h1, h2⟩
        · rintro ⟨x, hm, h1, h2⟩
          rcases List.mem_append.1 hm with hm | hm
          · have := i2.2 ⟨x, hm, h1, h2⟩
            split <;> omega
          · have hxe : x = l[n] := List.mem_singleton.1 hm
            have := ht.2 (hxe ▸ h2)
            split <;> omega
    · rw [if_neg hy]
      constructor
      · rw [i1]
        constructor
        · rintro ⟨x, hm, h1⟩
          exact ⟨x, List.mem_append.2 (.inl hm), h1⟩
        · rintro ⟨x, hm, h1⟩
          rcases List.mem_append.1 hm with hm | hm
          · exact ⟨x, hm, h1⟩
          · have hxe : x = l[n] := List.mem_singleton.1 hm
            exact absurd (hxe ▸ h1) hy
      · rw [i2]
        constructor
        · rintro ⟨x, hm, h1, h2⟩
          exact ⟨x, List.mem_append.2 (.inl hm), h1, h2⟩
        · rintro ⟨x, hm, h1, h2⟩
          rcases List.mem_append.1 hm with hm | hm
          · exact ⟨x, hm, h1, h2⟩
          · have hxe : x = l[n] := List.mem_singleton.1 hm
            exact absurd (hxe ▸ h1) hy

theorem knows_both (sh : List XKnown) (nm : List UInt8) : knowsB (fun y => kvTo sh y sh.length) nm = bothB sh nm := by
  have hf := fun y => kvTo_facts sh y sh.length (Nat.le_refl _)
  simp only [List.take_length] at hf
  rw [Bool.eq_iff_iff]
  unfold knowsB bothB
  rw [Bool.or_eq_true, List.any_eq_true, List.any_eq_true]
  constructor
  · rintro (h | ⟨n, hn, h⟩)
    · obtain ⟨x, hm, h1⟩ := (hf nm).1.1 (by simpa using h)
      exact ⟨x, hm, by simp [h1]⟩
    · have hn' : n < nm.length := by simpa using hn
      obtain ⟨x, hm, h1, h2⟩ := (hf (nm.take n)).2.1 (by simpa using h)
      have hl : x.name.data.toList.length = n := by rw [h1, List.length_take]; omega
      refine ⟨x, hm, ?_⟩
      rw [Bool.or_eq_true]
      refine .inr ?_
      rw [h2, hl, Bool.true_and, Bool.and_eq_true]
      exact ⟨decide_eq_true (by omega), by rw [beq_iff_eq]; exact h1.symm⟩
  · rintro ⟨x, hm, h⟩
    rw [Bool.or_eq_true] at h
    rcases h with h | h
    · refine .inl ?_
      have := (hf nm).1.2 ⟨x, hm, by rw [beq_iff_eq] at h; exact h⟩
      simpa using this
    · rw [Bool.and_eq_true, Bool.and_eq_true, decide_eq_true_eq, beq_iff_eq] at h
      obtain ⟨hp, hl, ht⟩ := h
      by_cases he : x.name.data.toList.length = nm.length
      · refine .inl ?_
        have hnm : x.name.data.toList = nm := by rw [← ht, he, List.take_length]
        have := (hf nm).1.2 ⟨x, hm, hnm⟩
        simpa using this
      · refine .inr ⟨x.name.data.toList.length, by rw [List.mem_range]; omega, ?_⟩
        have := (hf (nm.take x.name.data.toList.length)).2.2 ⟨x, hm, ht.symm, hp⟩
        simpa using this
end Go.Proofs.Ytlnoilfnpgogbae
