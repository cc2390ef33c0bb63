/- A book's Done: what it refuses. -/
import Derived.Test.YtbiipeapcclbkaaBkU
namespace Go.Proofs.Ytbiipeapcclbkaa
open Go.RowKit Go.Shelf
set_option linter.unusedVariables false
set_option linter.unusedSimpArgs false
set_option maxRecDepth 100000

section
variable {w w' : World} {B bb mb : Nat} {v pl : Value} {M : Mm} {L : List En}
set_option maxHeartbeats 2000000 in
theorem done_off (h : BookAt w B bb mb v M pl L) (n k : Int) (ho : M.off = true) : Calls Try.prog 13 #[.pointer (some ⟨bb, 0, none⟩), .int .i64 n, .int .i64 k] w fun r w' => r = .returned (.int .i64 12) ∧ w' = w := by
  obtain ⟨c0, c1, c2⟩ := h.sto.cells
  rw [ho] at c1
  clear h ho c0 c2
  go_enter Try.func13, Try.ntmps13
  go_wp2
  go_ret
  exact ⟨rfl, rfl⟩
set_option maxHeartbeats 2000000 in
theorem done_none (h : BookAt w B bb mb v M pl L) (n k : Int) (ho : M.off = false) (hn : wiB n 1 (L.length : Int) = false) : Calls Try.prog 13 #[.pointer (some ⟨bb, 0, none⟩), .int .i64 n, .int .i64 k] w fun r w' => r = .returned (.int .i64 5) ∧ w' = w := by
  obtain ⟨c0, c1, c2⟩ := h.sto.cells
  rw [ho] at c1
  have N := hide (has_any h n)
  rw [hn] at N
  clear h ho c0 c2 hn
  go_enter Try.func13, Try.ntmps13
  go_wp2_with fail
  refine (unhide N).mono ?_
  rintro r y1 ⟨rfl, hw⟩
  have hw' := hw.symm
  subst hw'
  go_wp2
  go_ret
  exact ⟨rfl, rfl⟩
set_option maxHeartbeats 2000000 in
theorem done_range (h : BookAt w B bb mb v M pl L) (n k : Int) (ho : M.off = false) (hn : wiB n 1 (L.length : Int) = true) (hk : wiB k 1 250 = false) : Calls Try.prog 13 #[.pointer (some ⟨bb, 0, none⟩), .int .i64 n, .int .i64 k] w fun r w' => r = .returned (.int .i64 3) ∧ w' = w := by
  obtain ⟨c0, c1, c2⟩ := h.sto.cells
  rw [ho] at c1
  have N := hide (has_any h n)
  have N2 := hide (bwithin_any k 1 250 w)
  rw [hn] at N
  rw [hk] at N2
  clear h ho c0 c2 hn hk
  go_enter Try.func13, Try.ntmps13
  go_wp2_with fail
  refine (unhide N).mono ?_
  rintro r y1 ⟨rfl, hw⟩
  have hw' := hw.symm
  subst hw'
  go_wp2_with fail
  refine (unhide N2).mono ?_
  rintro r y2 ⟨rfl, hw⟩
  have hw' := hw.symm
  subst hw'
  go_wp2
  go_ret
  exact ⟨rfl, rfl⟩
set_option maxHeartbeats 4000000 in
theorem done_twice (h : BookAt w B bb mb v M pl L) (i : Nat) (e : En) (he : L[i]? = some e) (k : Int) (ho : M.off = false) (hk : wiB k 1 250 = true) (hh : e.how ≠ 0) : Calls Try.prog 13 #[.pointer (some ⟨bb, 0, none⟩), .int .i64 ((i : Int) + 1), .int .i64 k] w fun r w' => r = .returned (.int .i64 6) ∧ Below w.heap.size w w' := by
  obtain ⟨c0, c1, c2⟩ := h.sto.cells
  rw [ho] at c1
  have hi := (List.getElem?_eq_some_iff.1 he).1
  have hlen := h.len
  have N := hide (has_any h ((i : Int) + 1))
  have N2 := hide (bwithin_any k 1 250 w)
  rw [show wiB ((i : Int) + 1) 1 (L.length : Int) = true from decide_eq_true (by omega)] at N
  rw [hk] at N2
  rcases h.row.form.2 with hn | ⟨g, cap, hv, hgB, hgl⟩
  · have := congrArg List.length hn
    rw [plsL_len, List.length_nil] at this
    omega
  have hcell := fun (j : Nat) (hj : j < 5) => (show w.cell? ⟨g, i * 5 + j, none⟩ = (cellsPl (i + 1, e, posL (L.take i)))[j]? from by
    have h2 := h.row
    rw [hv] at h2
    exact h2.cell cellsPl_len i _ (plsL_get he) j hj)
  have a0 := hcell 0 (by omega); have a1 := hcell 1 (by omega); have a2 := hcell 2 (by omega); have a3 := hcell 3 (by omega); have a4 := hcell 4 (by omega)
  simp only [cellsPl, List.getElem?_cons_zero, List.getElem?_cons_succ, Nat.add_zero] at a0 a1 a2 a3 a4
  rw [hv, plsL_len] at c2
  have hsub2 : IntKind.i64.wrap (i : Int) = (i : Int) := by rw [IntKind.wrap_i64]; omega
  have hsub3 : IntKind.i64.wrap ((i : Int) + 1 - 1) = (i : Int) := by rw [IntKind.wrap_i64]; omega
  have hil : (i : Int) < (L.length : Int) := by omega
  have hii : (i : Int) ≤ 100000 := by omega
  obtain ⟨wh, hw, tx⟩ := e
  have hwb : (hw == 0) = false := by simpa using hh
  have HB := hide ((Below.refl w.heap.size w).alloc (Nat.le_refl _) (.cells #[.int .i64 ((i + 1 : Nat) : Int), .int .i64 wh, .int .i64 hw, .string tx, .int .i64 (posL (L.take i) : Int)] 62))
  generalize L.length = m at *
  generalize posL (L.take i) = q at *
  dsimp only at *
  clear h he hlen hcell hv hi hh hk ho
  go_enter Try.func13, Try.ntmps13
  go_wp2_with fail
  refine (unhide N).mono ?_
  rintro r y1 ⟨rfl, hw1⟩
  have hw' := hw1.symm
  subst hw'
  go_wp2_with fail
  refine (unhide N2).mono ?_
  rintro r y2 ⟨rfl, hw2⟩
  have hw' := hw2.symm
  subst hw'
  go_wp2
  go_ret
  exact ⟨rfl, unhide HB⟩
end
end Go.Proofs.Ytbiipeapcclbkaa
