/- clear: newPayment; a look at pay's last region. -/
import Derived.Test.YtadjbojlojnadaaClrF
import Derived.WideKeyEntry
namespace Go.Proofs.Ytadjbojlojnadaa
open Go.RowKit Go.WideMaps Go.Maps
set_option linter.unusedVariables false
set_option maxRecDepth 100000

def pstV (p : Pst) : Value := .agg #[.int .i64 p.frm, .int .i64 p.to, .int .i64 p.shop, .int .i64 p.trace, .int .i64 p.amt, .int .i64 p.day]
theorem newPayment_any (p : Pst) (w : World) :
    Calls Try.prog 37 #[pstV p] w fun e w' => e = .returned (.pointer (some ⟨w.heap.size + 1, 0, none⟩)) ∧ PayB w' (w.heap.size + 1) p ⟨1, p.day, 0, 0⟩ ∧ Below w.heap.size w w' := by
  obtain ⟨frm, to, shop, trace, amt, day⟩ := p
  unfold pstV
  dsimp only
  have HB := hide (((Below.refl w.heap.size w).alloc (Nat.le_refl _) (.cells #[.int .i64 frm, .int .i64 to, .int .i64 shop, .int .i64 trace, .int .i64 amt, .int .i64 day] 57)).alloc (by simp) (.cells #[.int .i64 frm, .int .i64 to, .int .i64 amt, .int .i64 1, .int .i64 day, .int .i64 0, .int .i64 0] 97))
  have HP : Hid (PayB ((w.alloc (.cells #[.int .i64 frm, .int .i64 to, .int .i64 shop, .int .i64 trace, .int .i64 amt, .int .i64 day] 57)).alloc (.cells #[.int .i64 frm, .int .i64 to, .int .i64 amt, .int .i64 1, .int .i64 day, .int .i64 0, .int .i64 0] 97)) (w.heap.size + 1) ⟨frm, to, shop, trace, amt, day⟩ ⟨1, day, 0, 0⟩) := hide (by
    have h := alloc_at (w.alloc (.cells #[.int .i64 frm, .int .i64 to, .int .i64 shop, .int .i64 trace, .int .i64 amt, .int .i64 day] 57)) (.cells #[.int .i64 frm, .int .i64 to, .int .i64 amt, .int .i64 1, .int .i64 day, .int .i64 0, .int .i64 0] 97)
    rw [show (w.alloc (.cells #[.int .i64 frm, .int .i64 to, .int .i64 shop, .int .i64 trace, .int .i64 amt, .int .i64 day] 57)).heap.size = w.heap.size + 1 by simp] at h
    exact h)
  go_enter Try.func37, Try.ntmps37
  go_wp2
  go_ret
  exact ⟨rfl, unhide HP, unhide HB⟩
end Go.Proofs.Ytadjbojlojnadaa
