/- Two masks that a call lays into memory. -/
import Derived.Test.YtklnbkfajjgkaagLow0
import Derived.Test.YtklnbkfajjgkaagShM
namespace Go.Proofs.Ytklnbkfajjgkaag
open Go.RowKit
set_option linter.unusedVariables false

def mboxes (c s : XMasks) (w : World) : World :=
  ((w.alloc (Obj.cells #[.int .i64 c.d, .int .i64 c.o, .int .i64 c.f] 23)).alloc (Obj.cells #[.int .i64 s.d, .int .i64 s.o, .int .i64 s.f] 23))
structure InM (c s : XMasks) (n : Nat) (w : World) : Prop where
  c0 : w.cell? ⟨n, 0, none⟩ = some (.int .i64 c.d)
  c1 : w.cell? ⟨n, 1, none⟩ = some (.int .i64 c.o)
  c2 : w.cell? ⟨n, 2, none⟩ = some (.int .i64 c.f)
  s0 : w.cell? ⟨n + 1, 0, none⟩ = some (.int .i64 s.d)
  s1 : w.cell? ⟨n + 1, 1, none⟩ = some (.int .i64 s.o)
  s2 : w.cell? ⟨n + 1, 2, none⟩ = some (.int .i64 s.f)
theorem inM {c s : XMasks} {w w' : World} (h : Below (mboxes c s w).heap.size (mboxes c s w) w') : InM c s w.heap.size w' := by
  have hz : (mboxes c s w).heap.size = w.heap.size + 2 := by simp [mboxes]
  refine ⟨?_, ?_, ?_, ?_, ?_, ?_⟩ <;> (refine (h.cell (by rw [hz]; simp)).trans ?_; unfold mboxes; first | (rw [World.cell?_alloc_at _ _ _ _ (by simp)]; rfl) | (rw [World.cell?_alloc_past _ _ _ (by simp), World.cell?_alloc_at _ _ _ _ (by simp)]; rfl))
theorem below_mboxes (c s : XMasks) (w : World) : Below w.heap.size w (mboxes c s w) := ((Below.refl _ _).alloc (Nat.le_refl _) _).alloc (by simp) _
end Go.Proofs.Ytklnbkfajjgkaag
