/- clear: pay of nothing. -/
import Derived.Test.YtdameincehiieaaClrG
import Derived.Test.YtdameincehiieaaMapE
import Derived.Deep.RegionHeld3
namespace Go.Proofs.Ytdameincehiieaa
open Go.RowKit Go.WideMaps Go.Maps
set_option linter.unusedVariables false
set_option maxRecDepth 100000

theorem tnd_box (w : World) (q : Nat) (v : Value) (o : Obj) (hq : q < w.heap.size) : Tnd w ((w.setCell ⟨q, 6, none⟩ v).alloc o).drew q :=
  ((Tnd.set w q 6 v).trans (Tnd.of_below ((Below.refl (w.setCell ⟨q, 6, none⟩ v).heap.size _).alloc (Nat.le_refl _) o) (by simp [World.setCell]; exact hq))).drewN 1
set_option maxHeartbeats 1000000 in
theorem pay_none (b q m1 m2 : Nat) (D : Dys) (t : Int) (p : Pst) (c : Cse) (w : World) (h : ClrB w b D t m1 m2) (hP : PayB w q p c) (hqb : q ≠ b) (hpd : InR c.paid) :
    Calls Try.prog 25 #[.pointer (some ⟨b, 0, none⟩), .pointer (some ⟨q, 0, none⟩), .int .i64 0] w fun e w' => e = .returned (.tuple #[]) ∧ PayB w' q p c ∧ Tnd w w' q := by
  obtain ⟨d0, d1, _, _, _, _, d6⟩ := hP.cells
  have f6 := hP.frozen 6
  have hql := blk_lt hP
  have u3 : wrap64 c.paid = c.paid := by unfold wrap64 InR at *; omega
  have HP := hide (hP.paidTo c.paid)
  have HT := hide (tnd_box w q (.int .i64 c.paid) (.cells #[.int .i64 p.frm, .int .i64 p.to] 89) hql)
  have HQ : Hid (PayB ((w.setCell ⟨q, 6, none⟩ (.int .i64 c.paid)).alloc (.cells #[.int .i64 p.frm, .int .i64 p.to] 89)).drew q p c) := hide ((unhide HP).of_block (((Below.refl (w.setCell ⟨q, 6, none⟩ (.int .i64 c.paid)).heap.size _).alloc (Nat.le_refl _) _).block q (blk_lt (unhide HP))))
  clear h hP HP
  go_enter Try.func25, Try.ntmps25
  go_wp2_with fail
  go_region
  go_wp2
  go_end0
  exact ⟨rfl, unhide HQ, unhide HT⟩
end Go.Proofs.Ytdameincehiieaa
