/- clear: newPayment; a look at pay's last region. -/
import Derived.Test.YtdameincehiieaaClrF
import Derived.WideKeyEntry
namespace Go.Proofs.Ytdameincehiieaa
open Go.RowKit Go.WideMaps Go.Maps
set_option linter.unusedVariables false
set_option maxRecDepth 100000

def pstV (p : Pst) : Value := .agg #[.int .i64 p.frm, .int .i64 p.to, .int .i64 p.shop, .int .i64 p.trace, .int .i64 p.amt, .int .i64 p.day]
theorem newPayment_any (p : Pst) (w : World) :
    Calls Try.prog 24 #[pstV p] w fun e w' => e = .returned (.pointer (some ⟨w.heap.size + 1, 0, none⟩)) ∧ PayB w' (w.heap.size + 1) p ⟨1, p.day, 0, 0⟩ ∧ Below w.heap.size w w' := by
  obtain ⟨frm, to, shop, trace, amt, day⟩ := p
  unfold pstV
  dsimp only
  have HB := hide (((Below.refl w.heap.size w).alloc (Nat.le_refl _) (.cells #[.int .i64 frm, .int .i64 to, .int .i64 shop, .int .i64 trace, .int .i64 amt, .int .i64 day] 36)).alloc (by simp) (.cells #[.int .i64 frm, .int .i64 to, .int .i64 amt, .int .i64 1, .int .i64 day, .int .i64 0, .int .i64 0] 85))
  have HP : Hid (PayB ((w.alloc (.cells #[.int .i64 frm, .int .i64 to, .int .i64 shop, .int .i64 trace, .int .i64 amt, .int .i64 day] 36)).alloc (.cells #[.int .i64 frm, .int .i64 to, .int .i64 amt, .int .i64 1, .int .i64 day, .int .i64 0, .int .i64 0] 85)) (w.heap.size + 1) ⟨frm, to, shop, trace, amt, day⟩ ⟨1, day, 0, 0⟩) := hide (by
    have h := alloc_at (w.alloc (.cells #[.int .i64 frm, .int .i64 to, .int .i64 shop, .int .i64 trace, .int .i64 amt, .int .i64 day] 36)) (.cells #[.int .i64 frm, .int .i64 to, .int .i64 amt, .int .i64 1, .int .i64 day, .int .i64 0, .int .i64 0] 85)
    rw [show (w.alloc (.cells #[.int .i64 frm, .int .i64 to, .int .i64 shop, .int .i64 trace, .int .i64 amt, .int .i64 day] 36)).heap.size = w.heap.size + 1 by simp] at h
    exact h)
  go_enter Try.func24, Try.ntmps24
  go_wp2
  go_ret
  exact ⟨rfl, unhide HP, unhide HB⟩
end Go.Proofs.Ytdameincehiieaa
