/- Walk of both, one contract each. -/
import Derived.Test.YtadjbojlojnadaaRWalk
namespace Go.Proofs.Ytadjbojlojnadaa
open Go.RowKit
set_option linter.unusedVariables false

theorem walk_any (v : XWays) (s : XScene) (w : World) (hr : RowWay w v.listo v.list) (hra : Rowint w s.ableo s.able) (hrw : Rowint w s.wello s.well) :
    Calls Try.prog 7 #[valWays v, valScene s] w fun e w' => e = .returned (.tuple #[valWalked (walkA v s), .int .i64 (walkE v s)]) ∧ Below w.heap.size w w' := by
  by_cases h : walkE v s = 0
  · rw [walkA, if_pos h, h]
    exact walk_yes v s w hr hra hrw h
  · rw [walkA, if_neg h]
    exact walk_no v s w hr h

/-- two new blocks -/
def lboxes (v : XWays) (s : XScene) (w : World) : World :=
  ((w.alloc (Obj.cells #[.int .i64 v.x, .int .i64 v.y, .slice v.listo v.list.length v.listc] 24)).alloc
    (Obj.cells #[.int .i64 s.amount, .bool s.cash, .slice s.ableo s.able.length s.ablec, .slice s.wello s.well.length s.wellc] 27))
theorem lboxes_at (v : XWays) (s : XScene) (w : World) : WsAt (lboxes v s w) w.heap.size v ∧ ScAt (lboxes v s w) (w.heap.size + 1) s := by
  unfold WsAt ScAt lboxes
  refine ⟨?_, ?_⟩
  · rw [heap_past _ _ _ (by simp), heap_at _ _ _ rfl]
  · rw [heap_at _ _ _ (by simp)]
theorem below_lboxes (v : XWays) (s : XScene) (w : World) : Below w.heap.size w (lboxes v s w) :=
  ((Below.refl _ _).alloc (Nat.le_refl _) _).alloc (by simp) _
end Go.Proofs.Ytadjbojlojnadaa
