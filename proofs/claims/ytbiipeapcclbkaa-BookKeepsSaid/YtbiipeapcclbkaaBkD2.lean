/- The document's book: what Done refuses. -/
import Derived.Test.YtbiipeapcclbkaaBkD1
namespace Go.Proofs.Ytbiipeapcclbkaa
open Go.RowKit Go.Shelf
set_option linter.unusedVariables false
set_option linter.unusedSimpArgs false
set_option maxRecDepth 100000

section
variable {w w' : World} {B : Nat} {rv : Value} {L : List En}
set_option maxHeartbeats 4000000 in
theorem rdone_none (h : OwnR w B 60 4 cellsE rv (plsL L)) (hlen : L.length ≤ 100000) (cs n k : Int) (hn : wiB n 1 (L.length : Int) = false) :
    Calls Try.prog 14 #[.agg #[.int .i64 cs, rv], .int .i64 n, .int .i64 k] w fun r w' => r = .returned (.tuple #[.agg #[.int .i64 cs, rv], .int .i64 5]) ∧ Below w.heap.size w w' := by
  obtain ⟨⟨ao, cap, hv⟩, _⟩ := h.form
  rw [plsL_len] at hv
  subst hv
  have hn' := of_decide_eq_false hn
  have HBX := hide (fun (a b : Value) => ((Below.refl w.heap.size w).alloc (Nat.le_refl _) (.cells #[.int .i64 cs, .slice ao L.length cap] 33)).alloc (by simp) (.cells #[a, b] 33))
  clear h hn
  by_cases h1 : n < 1
  · clear hn'
    go_enter Try.func14, Try.ntmps14
    go_wp2
    refine bodyPost_ret (v := .tuple #[.agg #[.int .i64 cs, .slice ao L.length cap], .int .i64 5]) ?_ rfl ⟨rfl, ?_⟩
    · simp [results, Try.results14, go_sem]
    · exact unhide HBX _ _
  · have h2 : (L.length : Int) < n := by omega
    clear hn'
    go_enter Try.func14, Try.ntmps14
    go_wp2
    refine bodyPost_ret (v := .tuple #[.agg #[.int .i64 cs, .slice ao L.length cap], .int .i64 5]) ?_ rfl ⟨rfl, ?_⟩
    · simp [results, Try.results14, go_sem]
    · exact unhide HBX _ _
set_option maxHeartbeats 4000000 in
theorem rdone_range (h : OwnR w B 60 4 cellsE rv (plsL L)) (hlen : L.length ≤ 100000) (cs n k : Int) (hn : wiB n 1 (L.length : Int) = true) (hk : wiB k 1 250 = false) :
    Calls Try.prog 14 #[.agg #[.int .i64 cs, rv], .int .i64 n, .int .i64 k] w fun r w' => r = .returned (.tuple #[.agg #[.int .i64 cs, rv], .int .i64 3]) ∧ Below w.heap.size w w' := by
  obtain ⟨⟨ao, cap, hv⟩, _⟩ := h.form
  rw [plsL_len] at hv
  subst hv
  have hn' : 1 ≤ n ∧ n ≤ (L.length : Int) := of_decide_eq_true hn
  have hk' := of_decide_eq_false hk
  have h1 : ¬ n < 1 := by omega
  have h2 : ¬ (L.length : Int) < n := by omega
  have HBX := hide (fun (a b : Value) => ((Below.refl w.heap.size w).alloc (Nat.le_refl _) (.cells #[.int .i64 cs, .slice ao L.length cap] 33)).alloc (by simp) (.cells #[a, b] 33))
  clear h hn hk hn'
  by_cases h3 : k < 1
  · clear hk'
    go_enter Try.func14, Try.ntmps14
    go_wp2
    refine bodyPost_ret (v := .tuple #[.agg #[.int .i64 cs, .slice ao L.length cap], .int .i64 3]) ?_ rfl ⟨rfl, ?_⟩
    · simp [results, Try.results14, go_sem]
    · exact unhide HBX _ _
  · have h4 : 250 < k := by omega
    clear hk'
    go_enter Try.func14, Try.ntmps14
    go_wp2
    refine bodyPost_ret (v := .tuple #[.agg #[.int .i64 cs, .slice ao L.length cap], .int .i64 3]) ?_ rfl ⟨rfl, ?_⟩
    · simp [results, Try.results14, go_sem]
    · exact unhide HBX _ _
set_option maxHeartbeats 4000000 in
theorem rdone_twice (h : OwnR w B 60 4 cellsE rv (plsL L)) (hlen : L.length ≤ 100000) (cs k : Int) (i : Nat) (e : En) (he : L[i]? = some e) (hk : wiB k 1 250 = true) (hh : 0 < e.how) :
    Calls Try.prog 14 #[.agg #[.int .i64 cs, rv], .int .i64 ((i : Int) + 1), .int .i64 k] w fun r w' => r = .returned (.tuple #[.agg #[.int .i64 cs, rv], .int .i64 6]) ∧ Below w.heap.size w w' := by
  have hi := (List.getElem?_eq_some_iff.1 he).1
  rcases h.form.2 with hn | ⟨g, cap, hv, hgB, hgl⟩
  · have := congrArg List.length hn
    rw [plsL_len, List.length_nil] at this
    omega
  have a2 : w.cell? ⟨g, i * 4 + 2, none⟩ = some (.int .i64 e.how) := by
    have h2 := h
    rw [hv] at h2
    exact h2.cell cellsE_len i _ (plsL_get he) 2 (by omega)
  rw [plsL_len] at hv
  subst hv
  have hk' : 1 ≤ k ∧ k ≤ 250 := of_decide_eq_true hk
  have h1 : ¬ (i : Int) + 1 < 1 := by omega
  have h2 : ¬ (L.length : Int) < (i : Int) + 1 := by omega
  have h3 : ¬ k < 1 := by omega
  have h4 : ¬ 250 < k := by omega
  have hsub2 : IntKind.i64.wrap (i : Int) = (i : Int) := by rw [IntKind.wrap_i64]; omega
  have hsub3 : IntKind.i64.wrap ((i : Int) + 1 - 1) = (i : Int) := by rw [IntKind.wrap_i64]; omega
  have hil : (i : Int) < (L.length : Int) := by omega
  have hii : (i : Int) ≤ 100000 := by omega
  have hgn : g ≠ w.heap.size := by omega
  have hgn1 : g ≠ w.heap.size + 1 := by omega
  obtain ⟨ao, hao⟩ : ∃ ao : Option Addr, ao = some ⟨g, 0, none⟩ := ⟨_, rfl⟩
  have HBX := hide (fun (a b : Value) => ((Below.refl w.heap.size w).alloc (Nat.le_refl _) (.cells #[.int .i64 cs, .slice (some ⟨g, 0, none⟩) L.length cap] 33)).alloc (by simp) (.cells #[a, b] 33))
  generalize e.how = hw at *
  clear h he hk hk' hi hlen hao
  go_enter Try.func14, Try.ntmps14
  go_wp2
  refine bodyPost_ret (v := .tuple #[.agg #[.int .i64 cs, .slice (some ⟨g, 0, none⟩) L.length cap], .int .i64 6]) ?_ rfl ⟨rfl, ?_⟩
  · simp [results, Try.results14, go_sem]
  · exact unhide HBX _ _
end
end Go.Proofs.Ytbiipeapcclbkaa
