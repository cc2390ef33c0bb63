/- The Builder's String: it leaves every block alone but its own bytes'. -/
import Derived.Test.YtkmmgeoialdmlaaDoorWireG
import Derived.BigRegion
namespace Go.Proofs.YtkmmgeoialdmlaaDoor
open Go.RowKit
set_option linter.unusedVariables false

theorem freeze_other (w : World) (g n q : Nat) (h : q ≠ g) : (w.freeze ⟨g, 0, none⟩ n).heap[q]? = w.heap[q]? := by
  unfold World.freeze
  split
  · rfl
  · simp [Array.getElem?_modify, Ne.symm h]
def StrQ (B b : Nat) (w w' : World) : Prop := Below B w w' ∧ ∀ q, (∀ v, w.cell? ⟨b, 1, none⟩ = some v → v.ownBlock ≠ some q) → w'.heap[q]? = w.heap[q]?
theorem stringFresh_any (B b : Nat) (p : Value) (w : World) (hbk : w.heap[b]? = some (.cells #[p, .slice none 0 0] 43 (0, 0))) :
    Calls Tryd.prog 19 #[.pointer (some ⟨b, 0, none⟩)] w fun e w' => e = .returned (.string ⟨#[]⟩) ∧ StrQ B b w w' := by
  have c1 : w.cell? ⟨b, 1, none⟩ = some (.slice none 0 0) := (cell_of_row _ _ 1 _ _ _ hbk).trans rfl
  have hSD : ∀ W : World, (Builtin.unsafeSliceData_ #[41] 78 #[.slice none 0 0]).run Tryd.prog W = .ok (.pointer none) W := fun W => rfl
  have hUS : ∀ W : World, (Builtin.unsafeString_ #[78, 3] 9 #[.pointer none, .int .i64 0]).run Tryd.prog W = .ok (.string ⟨#[]⟩) W := fun W => Lib.run_unsafeString_none W _ _ _ none
  clear hbk
  go_enter Tryd.func19, Tryd.ntmps19
  go_wp2_with fail
  go_region
  all_goals
    go_wp2
    go_ret
    exact ⟨rfl, ⟨rfl, rfl, rfl, Nat.le_refl _, fun _ _ => rfl⟩, fun q _ => rfl⟩
theorem stringSome_any (B b : Nat) (l : List UInt8) (w : World) (h : Lib.IsBuilder 43 5 B b (Lib.byteCells l) w) (h0 : l ≠ []) :
    Calls Tryd.prog 19 #[.pointer (some ⟨b, 0, none⟩)] w fun e w' => e = .returned (.string ⟨l.toArray⟩) ∧ StrQ B b w w' := by
  obtain ⟨p, hB, v, hbk, hown, hne⟩ : ∃ p, Lib.BuilderAt 43 5 B b p (Lib.byteCells l) w := by
    rcases h with h | h
    · exact ⟨_, h⟩
    · exact ⟨_, h⟩
  have hl0 : l.length ≠ 0 := by simpa using h0
  rw [Lib.byteCells_length] at hown
  obtain ⟨g, cap, cur, rfl, hbg, hg, hnc, hcm, hcs, _⟩ : ∃ g cap cur, v = .slice (some ⟨g, 0, none⟩) l.length cap ∧ B ≤ g ∧ w.heap[g]? = some (.cells cur 5 (0, 0)) ∧ l.length ≤ cap ∧ cap ≤ maxLen ∧ cur.size = cap * 1 ∧ cur.toList.take (l.length * 1) = Lib.byteCells l := by
    rcases hown.2 with ⟨_, hz⟩ | ⟨g, cap, cur, hv, r⟩
    · exact absurd hz hl0
    · exact ⟨g, cap, cur, hv, r⟩
  have c1 : w.cell? ⟨b, 1, none⟩ = some (.slice (some ⟨g, 0, none⟩) l.length cap) := (cell_of_row _ _ 1 _ _ _ hbk).trans rfl
  have hSD : (Builtin.unsafeSliceData_ #[41] 78 #[.slice (some ⟨g, 0, none⟩) l.length cap]).run Tryd.prog w.drew = .ok (.pointer (some ⟨g, 0, none⟩)) w.drew :=
    Lib.run_unsafeSliceData_row _ _ _ _ _ _ (by omega)
  have hUS : (Builtin.unsafeString_ #[78, 3] 9 #[.pointer (some ⟨g, 0, none⟩), .int .i64 l.length]).run Tryd.prog w.drew = .ok (.string ⟨l.toArray⟩) (w.drew.freeze ⟨g, 0, none⟩ l.length) := by
    refine Lib.run_unsafeString_row w.drew 78 3 9 5 Tryd.underlying78 Tryd.Builder_Extra_105.cellsByte g cur.size (by have hg' : w.drew.heap[g]? = some (.cells cur 5 (0, 0)) := hg; simp [World.shape?, hg']) l h0 (by omega) (by unfold maxLen at hcm; omega) ?_
    intro j x hx
    exact hown.cells (g := g) rfl j (.int .u8 x.toNat) (by simp [Lib.byteCells, hx])
  have HC := hide c1
  clear hbk hown hg hnc hcm hcs h
  go_enter Tryd.func19, Tryd.ntmps19
  go_wp2_with fail
  go_region
  all_goals
    go_wp2
    go_ret
    refine ⟨rfl, Lib.below_freeze (Below.drew (Below.refl B w)) (p := ⟨g, 0, none⟩) hbg _, fun q hq => ?_⟩
    exact freeze_other w.drew g l.length q (fun e => hq _ (unhide HC) (by rw [e]; rfl))
theorem body_ne {p : Prt} {r : List Prt} (h : goodP 0 (p :: r) = true) : bodyL (p :: r) ≠ [] := by
  obtain ⟨h1, h2, h3, _⟩ := good_cons h
  intro e
  have hl := congrArg List.length e
  have ht := (takes_ahead p.1.toNat (by omega) (by omega) p.2 h3).2
  have hm : fahead p.1.toNat ≠ 0 ∨ 1 ≤ fmost p.1.toNat := by
    have : ∀ m : Fin 17, m.val = 0 ∨ fahead m.val ≠ 0 ∨ 1 ≤ fmost m.val := by decide
    rcases this ⟨p.1.toNat, by omega⟩ with h | h
    · simp at h; omega
    · exact h
  simp only [bodyL, List.flatMap_cons, List.length_append, fieldL, aheadL, digs_length, Array.length_toList, List.length_nil] at hl
  have hz : p.2.data.size = p.2.size := rfl
  by_cases h0 : fahead p.1.toNat = 0
  · have := ht h0; omega
  · omega
end Go.Proofs.YtkmmgeoialdmlaaDoor
