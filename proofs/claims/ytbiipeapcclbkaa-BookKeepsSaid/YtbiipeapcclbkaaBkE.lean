/- The law's same of two rows that hold one list of numbers. -/
import Derived.Test.YtbiipeapcclbkaaBkV
import Derived.BigQuiet
namespace Go.Proofs.Ytbiipeapcclbkaa
open Go.RowKit Go.Shelf
set_option linter.unusedVariables false
set_option linter.unusedSimpArgs false
set_option maxRecDepth 100000

section
variable {w w' : World} {B B' : Nat} {u v : Value} {l : List Int}
set_option maxHeartbeats 4000000 in
theorem sameInt_any (h : OwnR w B 3 1 cellsI u l) (k : OwnR w B' 3 1 cellsI v l) (hlen : l.length ≤ 100000) : Calls Try.prog 18 #[u, v] w fun r w' => r = .returned (.bool true) ∧ Below w.heap.size w w' := by
  obtain ⟨⟨ao, cap, hu⟩, hfu⟩ := h.form
  obtain ⟨⟨bo, cbp, hv⟩, hfv⟩ := k.form
  have hli : (l.length : Int) ≤ 100000 := by omega
  have hcell : ∀ i x, l[i]? = some x → ∃ g g', ao = some ⟨g, 0, none⟩ ∧ bo = some ⟨g', 0, none⟩ ∧ w.cell? ⟨g, i, none⟩ = some (.int .i64 x) ∧ w.cell? ⟨g', i, none⟩ = some (.int .i64 x) := by
    intro i x hx
    have hi := (List.getElem?_eq_some_iff.1 hx).1
    rcases hfu with hn | ⟨g, cap', hu2, _, _⟩
    · rw [hn] at hi; simp at hi
    rcases hfv with hn | ⟨g', cap2, hv2, _, _⟩
    · rw [hn] at hi; simp at hi
    have e1 := hu.symm.trans hu2
    have e2 := hv.symm.trans hv2
    injection e1 with a1 _ _
    injection e2 with b1 _ _
    refine ⟨g, g', a1, b1, ?_, ?_⟩
    · have h2 := h
      rw [hu2] at h2
      have := h2.cell cellsI_len i x hx 0 (by omega)
      simpa [cellsI] using this
    · have h2 := k
      rw [hv2] at h2
      have := h2.cell cellsI_len i x hx 0 (by omega)
      simpa [cellsI] using this
  have HC := hide hcell
  subst hu hv
  clear h k hfu hfv hcell
  go_enter Try.func18, Try.ntmps18
  go_wp2
  go_loopw [13] (fun iv wx => ∃ i : Nat, i ≤ l.length ∧ iv = .int .i64 (i : Int) ∧ ∃ q, wx = w.drewN q) (fun iv _ => l.length - (intOf iv).toNat)
  case atStart => exact ⟨0, Nat.zero_le _, rfl, 0, rfl⟩
  case round =>
    obtain ⟨i, hi, rfl, q, hwr⟩ := hrel
    by_cases hlt : i < l.length
    · obtain ⟨x, hx⟩ : ∃ x, l[i]? = some x := ⟨_, List.getElem?_eq_getElem hlt⟩
      obtain ⟨g, g', rfl, rfl, d1, d2⟩ := unhide HC i x hx
      have c1 : wr.cell? ⟨g, i, none⟩ = some (.int .i64 x) := by rw [hwr]; exact d1
      have c2 : wr.cell? ⟨g', i, none⟩ = some (.int .i64 x) := by rw [hwr]; exact d2
      have hii : (i : Int) < (l.length : Int) := by omega
      have HWR := hide hwr
      clear hx d1 d2 hwr
      go_wp2_with fail
      go_quiet (fail)
      all_goals
        go_wp2
        go_roundw
        case rel => exact ⟨i + 1, by omega, by go_num, q + nq, by rw [unhide HWR, World.drewN_drewN]⟩
        case measure => simp [intOf]; omega
    · have hii : ¬ (i : Int) < (l.length : Int) := by omega
      have HE : Hid (Below w.heap.size w wr) := hide (by rw [hwr]; exact ⟨rfl, rfl, rfl, Nat.le_refl _, fun _ _ => rfl⟩)
      clear hwr
      go_wp2
      go_ret
      exact ⟨rfl, unhide HE⟩
end
end Go.Proofs.Ytbiipeapcclbkaa
