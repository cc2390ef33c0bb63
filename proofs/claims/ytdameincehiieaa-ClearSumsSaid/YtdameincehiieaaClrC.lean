/- clear: on: how a case is on a day. -/
import Derived.Test.YtdameincehiieaaClrA
namespace Go.Proofs.Ytdameincehiieaa
open Go.RowKit
set_option linter.unusedVariables false

theorem ClrB.of_block {w w' : World} {b : Nat} {D : Dys} {t : Int} {m1 m2 : Nat} (h : ClrB w b D t m1 m2) (k : w'.heap[b]? = w.heap[b]?) : ClrB w' b D t m1 m2 := k.trans h
theorem PayB.of_block {w w' : World} {q : Nat} {p : Pst} {c : Cse} (h : PayB w q p c) (k : w'.heap[q]? = w.heap[q]?) : PayB w' q p c := k.trans h
theorem blk_lt {w : World} {g : Nat} {o : Obj} (h : w.heap[g]? = some o) : g < w.heap.size := by
  rcases Nat.lt_or_ge g w.heap.size with h' | h'
  · exact h'
  · rw [Array.getElem?_eq_none h'] at h; cases h
def caseV (c : Cse) : Value := .agg #[.int .i64 c.st, .int .i64 c.since, .int .i64 c.disp, .int .i64 c.paid]
set_option maxHeartbeats 2000000 in
theorem on_any (b q : Nat) (D : Dys) (t day : Int) (m1 m2 : Nat) (p : Pst) (c : Cse) (w : World) (h : ClrB w b D t m1 m2) (hp : PayB w q p c) (hs : 0 ≤ c.since ∧ c.since ≤ 65535) (hw : 0 ≤ waitC D c.st ∧ waitC D c.st ≤ 65535) :
    Calls Try.prog 33 #[.pointer (some ⟨b, 0, none⟩), .pointer (some ⟨q, 0, none⟩), .int .i64 day] w fun e w' => e = .returned (caseV (onC D c day)) ∧ Below w.heap.size w w' := by
  obtain ⟨_, _, _, c3, c4, c5, c6⟩ := hp.cells
  have hbl := blk_lt h
  have hql := blk_lt hp
  obtain ⟨st, since, disp, paid⟩ := c
  dsimp only at *
  have N1 := hide (fun n => wait_any b D t st m1 m2 (((w.alloc (.cells #[.int .i64 0, .int .i64 0, .int .i64 0, .int .i64 0] 47)).alloc (.cells #[.int .i64 st, .int .i64 since, .int .i64 disp, .int .i64 paid] 47)).drewN n)
    (h.of_block (((Below.refl w.heap.size w).alloc (Nat.le_refl _) _).alloc (by simp) _ |>.block b hbl)))
  have HB : Hid (∀ n, Below w.heap.size w (((w.alloc (.cells #[.int .i64 0, .int .i64 0, .int .i64 0, .int .i64 0] 47)).alloc (.cells #[.int .i64 st, .int .i64 since, .int .i64 disp, .int .i64 paid] 47)).drewN n)) := hide (fun n => below_drewN (((Below.refl w.heap.size w).alloc (Nat.le_refl _) _).alloc (by simp) _) n)
  obtain ⟨wt, hwt⟩ : ∃ wt, wt = waitC D st := ⟨_, rfl⟩
  have HON : Hid (onC D ⟨st, since, disp, paid⟩ day = if since + wt < day then ⟨6, since + wt + 1, disp, paid⟩ else ⟨st, since, disp, paid⟩) := hide (by unfold onC; rw [hwt])
  rw [← hwt] at hw N1
  have u1 : IntKind.i64.wrap (since + wt) = since + wt := by rw [IntKind.wrap_i64]; omega
  have u2 : IntKind.i64.wrap (since + wt + 1) = since + wt + 1 := by rw [IntKind.wrap_i64]; omega
  rw [unhide HON]
  clear HON hwt h hp
  by_cases hlt : since + wt < day
  · rw [if_pos hlt]
    unfold caseV
    go_enter Try.func33, Try.ntmps33
    go_wp2_with fail
    go_quiet ((go_at_call 38; exact Calls.quiet_of_same (unhide N1 _)))
    go_wp2
    exact bodyPost_ret (v := .agg #[.int .i64 6, .int .i64 (since + wt + 1), .int .i64 disp, .int .i64 paid]) (by simp [results, Try.results33, go_sem]) rfl ⟨rfl, (((((((unhide HB nq).setCell (Nat.le_succ _) _).setCell (Nat.le_succ _) _).setCell (Nat.le_refl _) _).setCell (Nat.le_refl _) _).setCell (Nat.le_refl _) _).setCell (Nat.le_refl _) _)⟩
  · rw [if_neg hlt]
    unfold caseV
    go_enter Try.func33, Try.ntmps33
    go_wp2_with fail
    go_quiet ((go_at_call 38; exact Calls.quiet_of_same (unhide N1 _)))
    go_wp2
    exact bodyPost_ret (v := .agg #[.int .i64 st, .int .i64 since, .int .i64 disp, .int .i64 paid]) (by simp [results, Try.results33, go_sem]) rfl ⟨rfl, (((((unhide HB nq).setCell (Nat.le_refl _) _).setCell (Nat.le_refl _) _).setCell (Nat.le_refl _) _).setCell (Nat.le_refl _) _)⟩
end Go.Proofs.Ytdameincehiieaa
