/- The big numbers themselves: Mul. -/
import Derived.Test.YtjipcmmaemokhaaDoorM22
namespace Go.Proofs.YtjipcmmaemokhaaDoor
open Go.RowKit
set_option linter.unusedVariables false

theorem cell_heapB {w w' : World} {a : Addr} {v : Value} (h : w.cell? a = some v) (hh : w'.heap[a.block]? = w.heap[a.block]?) : w'.cell? a = some v := by
  unfold World.cell? at *
  rw [hh]
  exact h
end Go.Proofs.YtjipcmmaemokhaaDoor
namespace Go.Proofs.YtjipcmmaemokhaaDoor
open Go.RowKit
set_option linter.unusedVariables false

theorem slice_of {w : World} {v : Value} {n : Nat} (h : BigV w v n) : ∃ ao m cap, v = .slice ao m cap := by
  obtain ⟨ao, cap, hv, _⟩ := h
  exact ⟨_, _, _, hv⟩
end Go.Proofs.YtjipcmmaemokhaaDoor
namespace Go.Proofs.YtjipcmmaemokhaaDoor
open Go.RowKit
set_option linter.unusedVariables false

end Go.Proofs.YtjipcmmaemokhaaDoor
namespace Go.Proofs.YtjipcmmaemokhaaDoor
open Go.RowKit
set_option linter.unusedVariables false

theorem small_stepD {d : Nat} {Q D : List Nat} {x r r1 q : Nat} (hv : natV D = natV Q * d + r) (h1 : r1 = r * 4294967296 + x) (hq : q = r1 / d) : natV (x :: D) = natV (q :: Q) * d + r1 % d := by
  simp only [natV]
  rw [hv]
  have h2 : r1 = r * B32 + x := h1
  have h3 := Nat.div_add_mod r1 d
  rw [← hq] at h3
  have h4 : B32 * (natV Q * d + r) = B32 * natV Q * d + r * B32 := by grind
  have h5 : (q + B32 * natV Q) * d = d * q + B32 * natV Q * d := by grind
  omega
end Go.Proofs.YtjipcmmaemokhaaDoor
