/- The reference's Pack: a bad kind. -/
import Derived.Test.YtkmmgeoialdmlaaDoorWireZ
namespace Go.Proofs.YtkmmgeoialdmlaaDoor
open Go.RowKit
set_option linter.unusedVariables false

theorem rpack_bad (kind : Int) (l : List Prt) (pa : Option Addr) (c : Nat) (w : World) (hk : kind < 0 ∨ 99 < kind) :
    Calls Tryd.prog 6 #[.agg #[.int .i64 kind, .slice pa l.length c]] w fun e w' => e = .returned (.tuple #[.string (packS kind l), .int .i64 (packE kind l)]) ∧ Below w.heap.size w w' := by
  have hE : packE kind l = 4 := by rw [packE, if_pos hk]
  have hS : packS kind l = ⟨#[]⟩ := by rw [packS, hE]; rfl
  have HE := hide hE; have HS := hide hS
  have HB := hide ((Below.refl w.heap.size w).alloc (Nat.le_refl _) (.cells #[.int .i64 kind, .slice pa l.length c] 24))
  clear hE hS
  rcases hk with h | h
  · go_enter Tryd.func6, Tryd.ntmps6
    go_wp2
    go_ret2
    exact ⟨by rw [unhide HE, unhide HS]; rfl, unhide HB⟩
  · have h0 : ¬ kind < 0 := by omega
    go_enter Tryd.func6, Tryd.ntmps6
    go_wp2
    go_ret2
    exact ⟨by rw [unhide HE, unhide HS]; rfl, unhide HB⟩
end Go.Proofs.YtkmmgeoialdmlaaDoor
