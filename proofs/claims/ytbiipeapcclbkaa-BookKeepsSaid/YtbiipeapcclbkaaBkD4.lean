/- The document's book: what Put refuses at once. -/
import Derived.Test.YtbiipeapcclbkaaBkD1
namespace Go.Proofs.Ytbiipeapcclbkaa
open Go.RowKit Go.Shelf
set_option linter.unusedVariables false
set_option linter.unusedSimpArgs false
set_option maxRecDepth 100000

section
variable {w w' : World} {B : Nat} {rv : Value} {L : List En}
set_option maxHeartbeats 4000000 in
theorem rput_range (h : OwnR w B 60 4 cellsE rv (plsL L)) (cs k : Int) (t : ByteArray) (hk : wiB k 1 250 = false) :
    Calls Try.prog 12 #[.agg #[.int .i64 cs, rv], .int .i64 k, .string t] w fun r w' => r = .returned (.tuple #[.agg #[.int .i64 cs, rv], .int .i64 0, .int .i64 3]) ∧ Below w.heap.size w w' := by
  obtain ⟨⟨ao, cap, hv⟩, _⟩ := h.form
  rw [plsL_len] at hv
  subst hv
  have hk' := of_decide_eq_false hk
  have HBX := hide (fun (a b : Value) => ((Below.refl w.heap.size w).alloc (Nat.le_refl _) (.cells #[.int .i64 cs, .slice ao L.length cap] 33)).alloc (by simp) (.cells #[a, b] 33))
  clear h hk
  by_cases h3 : k < 1
  · clear hk'
    go_enter Try.func12, Try.ntmps12
    go_wp2
    refine bodyPost_ret (v := .tuple #[.agg #[.int .i64 cs, .slice ao L.length cap], .int .i64 0, .int .i64 3]) ?_ rfl ⟨rfl, ?_⟩
    · simp [results, Try.results12, go_sem]
    · exact unhide HBX _ _
  · have h4 : 250 < k := by omega
    clear hk'
    go_enter Try.func12, Try.ntmps12
    go_wp2
    refine bodyPost_ret (v := .tuple #[.agg #[.int .i64 cs, .slice ao L.length cap], .int .i64 0, .int .i64 3]) ?_ rfl ⟨rfl, ?_⟩
    · simp [results, Try.results12, go_sem]
    · exact unhide HBX _ _
set_option maxHeartbeats 4000000 in
theorem rput_long (h : OwnR w B 60 4 cellsE rv (plsL L)) (cs k : Int) (t : ByteArray) (hk : wiB k 1 250 = true) (ht : 20000 < t.size) :
    Calls Try.prog 12 #[.agg #[.int .i64 cs, rv], .int .i64 k, .string t] w fun r w' => r = .returned (.tuple #[.agg #[.int .i64 cs, rv], .int .i64 0, .int .i64 2]) ∧ Below w.heap.size w w' := by
  obtain ⟨⟨ao, cap, hv⟩, _⟩ := h.form
  rw [plsL_len] at hv
  subst hv
  have hk' : 1 ≤ k ∧ k ≤ 250 := of_decide_eq_true hk
  have h3 : ¬ k < 1 := by omega
  have h4 : ¬ 250 < k := by omega
  have h5 : (20000 : Int) < (t.size : Int) := by omega
  have HBX := hide (fun (a b : Value) => ((Below.refl w.heap.size w).alloc (Nat.le_refl _) (.cells #[.int .i64 cs, .slice ao L.length cap] 33)).alloc (by simp) (.cells #[a, b] 33))
  clear h hk hk' ht
  go_enter Try.func12, Try.ntmps12
  go_wp2
  refine bodyPost_ret (v := .tuple #[.agg #[.int .i64 cs, .slice ao L.length cap], .int .i64 0, .int .i64 2]) ?_ rfl ⟨rfl, ?_⟩
  · simp [results, Try.results12, go_sem]
  · exact unhide HBX _ _
end
end Go.Proofs.Ytbiipeapcclbkaa
