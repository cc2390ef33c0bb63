/- Division of the big numbers: the loop, and what is answered. (Made by wip/drafts/genKn.py.) -/
import Derived.Test.YtjipcmmaemokhaaDoorM40
import Derived.Deep.CutBlock
namespace Go.Proofs.YtjipcmmaemokhaaDoor
open Go.RowKit
set_option linter.unusedVariables false
set_option linter.unusedSimpArgs false
set_option maxRecDepth 1000000

theorem end_numsE {lu n m : Nat} (hm : m + n + 1 = lu) (hl : (lu : Int) ≤ 10000) (hn : 2 ≤ n) : ∃ x m1 n1 n2 : Nat, m1 = m + 1 ∧ n1 = n - 1 ∧ n2 = n - 2 ∧ wrap64 ((lu : Int) - (n : Int)) = (x : Int) ∧ wrap64 ((x : Int) - 1) = (m : Int) ∧ wrap64 ((m : Int) + 1) = (m1 : Int) ∧ (m1 : Int) ≤ 10000 ∧ IntKind.i64.wrap ((n : Int) - 1) = (n1 : Int) ∧ IntKind.i64.wrap ((n : Int) - 2) = (n2 : Int) ∧ (n1 : Int) < (n : Int) ∧ (n2 : Int) < (n : Int) := by
  refine ⟨m + 1, m + 1, n - 1, n - 2, rfl, rfl, rfl, by unfold wrap64; omega, by unfold wrap64; omega, by unfold wrap64; omega, by omega, ?_, ?_, by omega, by omega⟩
  · rw [IntKind.wrap_i64]; omega
  · rw [IntKind.wrap_i64]; omega
theorem step_down {j : Nat} (h : (j : Int) ≤ 10000) : ∃ z : Int, z = (j : Int) - 1 ∧ wrap64 ((j : Int) - 1) = z := ⟨_, rfl, by unfold wrap64; omega⟩
theorem jn_le {k m n lu j : Nat} (hk : j + 1 ≤ m + 1) (hm : m + n + 1 = lu) (hl : (lu : Int) ≤ 10000) : ((j + n : Nat) : Int) ≤ 100000 ∧ (j : Int) ≤ 10000 ∧ j < m + 1 ∧ j < lu := by omega
theorem lu_of {m n lu j : Nat} (hk : j + 1 ≤ m + 1) (hm : m + n + 1 = lu) : lu = j + n + 1 + (List.replicate (m + 1 - (j + 1)) 0).length := by rw [List.length_replicate]; omega
theorem win_lt {x Y V : Nat} (hx : x < B32) (hY : Y < V) : x + B32 * Y < V * B32 := by
  have : B32 * (Y + 1) ≤ B32 * V := Nat.mul_le_mul_left _ hY
  rw [Nat.mul_add, Nat.mul_one, Nat.mul_comm B32 V] at this
  omega
theorem div_mod_of {A V q y : Nat} (h : A = q * V + y) (hy : y < V) : q = A / V ∧ y = A % V := by
  have hV : 0 < V := by omega
  constructor
  · rw [h, Nat.add_comm, Nat.add_mul_div_right _ _ hV, Nat.div_eq_of_lt hy, Nat.zero_add]
  · rw [h, Nat.add_comm, Nat.add_mul_mod_self_right, Nat.mod_eq_of_lt hy]
end Go.Proofs.YtjipcmmaemokhaaDoor
namespace Go.Proofs.YtjipcmmaemokhaaDoor
open Go.RowKit
set_option linter.unusedVariables false
set_option linter.unusedSimpArgs false
set_option maxRecDepth 1000000

theorem addr_addK (g o j : Nat) : Addr.add ⟨g, o, none⟩ j = ⟨g, o + j, none⟩ := by
  by_cases h : j = 0
  · subst h; simp [Addr.add]
  · simp [Addr.add, h]
end Go.Proofs.YtjipcmmaemokhaaDoor
