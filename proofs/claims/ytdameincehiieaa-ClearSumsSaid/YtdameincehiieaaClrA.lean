/- clear: what only reads: within, checkDay, wait, on; tell. -/
import Derived.Test.YtdameincehiieaaClrQ
import Derived.Test.YtdameincehiieaaMapN
import Derived.WalkKit
import Derived.ProofKit
import Derived.Below
import Derived.BigQuiet
import Derived.Deep.QuietTactic
namespace Go.Proofs.Ytdameincehiieaa
open Go.RowKit
set_option linter.unusedVariables false

/-- the block of a Clear -/
def ClrB (w : World) (b : Nat) (D : Dys) (t : Int) (m1 m2 : Nat) : Prop := w.heap[b]? = some (.cells #[.int .i64 D.di, .int .i64 D.an, .int .i64 D.ins, .int .i64 D.fee, .int .i64 t, .map (some m1), .map (some m2)] 67 (0, 0))
/-- the block of a payment -/
def PayB (w : World) (q : Nat) (p : Pst) (c : Cse) : Prop := w.heap[q]? = some (.cells #[.int .i64 p.frm, .int .i64 p.to, .int .i64 p.amt, .int .i64 c.st, .int .i64 c.since, .int .i64 c.disp, .int .i64 c.paid] 85 (0, 0))
theorem ClrB.cells {w : World} {b : Nat} {D : Dys} {t : Int} {m1 m2 : Nat} (h : ClrB w b D t m1 m2) :
    w.cell? ⟨b, 0, none⟩ = some (.int .i64 D.di) ∧ w.cell? ⟨b, 1, none⟩ = some (.int .i64 D.an) ∧ w.cell? ⟨b, 2, none⟩ = some (.int .i64 D.ins) ∧ w.cell? ⟨b, 3, none⟩ = some (.int .i64 D.fee) ∧ w.cell? ⟨b, 4, none⟩ = some (.int .i64 t) ∧ w.cell? ⟨b, 5, none⟩ = some (.map (some m1)) ∧ w.cell? ⟨b, 6, none⟩ = some (.map (some m2)) := by
  unfold ClrB at h
  refine ⟨?_, ?_, ?_, ?_, ?_, ?_, ?_⟩ <;> simp [World.cell?, h]
theorem PayB.cells {w : World} {q : Nat} {p : Pst} {c : Cse} (h : PayB w q p c) :
    w.cell? ⟨q, 0, none⟩ = some (.int .i64 p.frm) ∧ w.cell? ⟨q, 1, none⟩ = some (.int .i64 p.to) ∧ w.cell? ⟨q, 2, none⟩ = some (.int .i64 p.amt) ∧ w.cell? ⟨q, 3, none⟩ = some (.int .i64 c.st) ∧ w.cell? ⟨q, 4, none⟩ = some (.int .i64 c.since) ∧ w.cell? ⟨q, 5, none⟩ = some (.int .i64 c.disp) ∧ w.cell? ⟨q, 6, none⟩ = some (.int .i64 c.paid) := by
  unfold PayB at h
  refine ⟨?_, ?_, ?_, ?_, ?_, ?_, ?_⟩ <;> simp [World.cell?, h]
def inB (lo n hi : Int) : Bool := decide (lo ≤ n ∧ n ≤ hi)
theorem cwithin_any (n lo hi : Int) (w : World) : Calls Try.prog 19 #[.int .i64 n, .int .i64 lo, .int .i64 hi] w fun e w' => e = .returned (.bool (inB lo n hi)) ∧ w' = w := by
  by_cases h1 : lo ≤ n
  · by_cases h2 : n ≤ hi
    · have HM : Hid (inB lo n hi = true) := hide (decide_eq_true ⟨h1, h2⟩)
      go_enter Try.func19, Try.ntmps19
      go_wp2
      go_ret
      exact ⟨ret_bool (unhide HM).symm, rfl⟩
    · have HM : Hid (inB lo n hi = false) := hide (decide_eq_false (by omega))
      go_enter Try.func19, Try.ntmps19
      go_wp2
      go_ret
      exact ⟨ret_bool (unhide HM).symm, rfl⟩
  · have HM : Hid (inB lo n hi = false) := hide (decide_eq_false (by omega))
    go_enter Try.func19, Try.ntmps19
    go_wp2
    go_ret
    exact ⟨ret_bool (unhide HM).symm, rfl⟩
theorem checkDay_any (b : Nat) (D : Dys) (t d : Int) (m1 m2 : Nat) (w : World) (h : ClrB w b D t m1 m2) :
    Calls Try.prog 32 #[.pointer (some ⟨b, 0, none⟩), .int .i64 d] w fun e w' => e = .returned (.int .i64 (dayE t d)) ∧ w' = w := by
  obtain ⟨_, _, _, _, c4, _, _⟩ := h.cells
  have N1 := hide (cwithin_any d 0 65535 w)
  clear h
  by_cases h1 : d < 0 ∨ 65535 < d
  · have HM : Hid (dayE t d = 3) := hide (by unfold dayE; rw [if_pos h1])
    rw [show inB 0 d 65535 = false from decide_eq_false (by omega)] at N1
    clear h1
    go_enter Try.func32, Try.ntmps32
    go_wp2_with fail
    refine (unhide N1).mono ?_
    rintro e w1 ⟨rfl, hw1⟩
    rw [hw1]
    clear hw1
    go_wp2
    go_ret
    exact ⟨ret_int (unhide HM).symm, rfl⟩
  · rw [show inB 0 d 65535 = true from decide_eq_true (by omega)] at N1
    by_cases h2 : d < t
    · have HM : Hid (dayE t d = 11) := hide (by unfold dayE; rw [if_neg h1, if_pos h2])
      clear h1
      go_enter Try.func32, Try.ntmps32
      go_wp2_with fail
      refine (unhide N1).mono ?_
      rintro e w1 ⟨rfl, hw1⟩
      rw [hw1]
      clear hw1
      go_wp2
      go_ret
      exact ⟨ret_int (unhide HM).symm, rfl⟩
    · have HM : Hid (dayE t d = 0) := hide (by unfold dayE; rw [if_neg h1, if_neg h2])
      clear h1
      go_enter Try.func32, Try.ntmps32
      go_wp2_with fail
      refine (unhide N1).mono ?_
      rintro e w1 ⟨rfl, hw1⟩
      rw [hw1]
      clear hw1
      go_wp2
      go_ret
      exact ⟨ret_int (unhide HM).symm, rfl⟩
theorem wait_any (b : Nat) (D : Dys) (t st : Int) (m1 m2 : Nat) (w : World) (h : ClrB w b D t m1 m2) :
    Calls Try.prog 38 #[.pointer (some ⟨b, 0, none⟩), .int .i64 st] w fun e w' => e = .returned (.int .i64 (waitC D st)) ∧ w' = w := by
  obtain ⟨c0, c1, c2, _, _, _, _⟩ := h.cells
  clear h
  by_cases h1 : st = 1
  · subst h1
    go_enter Try.func38, Try.ntmps38
    go_wp2
    go_ret
    exact ⟨rfl, rfl⟩
  by_cases h2 : st = 2
  · subst h2
    go_enter Try.func38, Try.ntmps38
    go_wp2
    go_ret
    exact ⟨rfl, rfl⟩
  by_cases h3 : st = 3
  · subst h3
    go_enter Try.func38, Try.ntmps38
    go_wp2
    go_ret
    exact ⟨rfl, rfl⟩
  have HM : Hid (waitC D st = 65535) := hide (by unfold waitC; rw [if_neg h1, if_neg h2, if_neg h3])
  go_enter Try.func38, Try.ntmps38
  go_wp2
  go_ret
  exact ⟨ret_int (unhide HM).symm, rfl⟩
theorem ClrB.tell {w : World} {b : Nat} {D : Dys} {t : Int} {m1 m2 : Nat} (h : ClrB w b D t m1 m2) (d : Int) : ClrB (w.setCell ⟨b, 4, none⟩ (.int .i64 d)) b D d m1 m2 := by
  unfold ClrB at *
  simp [World.setCell, Array.getElem?_modify, h]
theorem tell_any (b : Nat) (D : Dys) (t d : Int) (m1 m2 : Nat) (w : World) (h : ClrB w b D t m1 m2) :
    Calls Try.prog 23 #[.pointer (some ⟨b, 0, none⟩), .int .i64 d] w fun e w' => e = .returned (.int .i64 (dayE t d)) ∧ w' = (if dayE t d = 0 then w.setCell ⟨b, 4, none⟩ (.int .i64 d) else w) := by
  obtain ⟨_, _, _, _, c4, _, _⟩ := h.cells
  have N1 := hide (checkDay_any b D t d m1 m2 w h)
  have hfz : w.frozen? ⟨b, 4, none⟩ = false := by unfold ClrB at h; simp [World.frozen?, h]
  clear h
  by_cases h0 : dayE t d = 0
  · have HI : Hid ((if dayE t d = 0 then w.setCell ⟨b, 4, none⟩ (.int .i64 d) else w) = w.setCell ⟨b, 4, none⟩ (.int .i64 d)) := hide (if_pos h0)
    rw [h0] at N1 HI ⊢
    clear h0
    rw [unhide HI]
    clear HI
    go_enter Try.func23, Try.ntmps23
    go_wp2_with fail
    refine (unhide N1).mono ?_
    rintro e w1 ⟨rfl, hw1⟩
    rw [hw1]
    clear hw1
    go_wp2
    go_ret
    exact ⟨rfl, rfl⟩
  · have HI : Hid ((if dayE t d = 0 then w.setCell ⟨b, 4, none⟩ (.int .i64 d) else w) = w) := hide (if_neg h0)
    rw [unhide HI]
    have hne : (dayE t d != 0) = true := by simpa using h0
    generalize dayE t d = x at *
    clear HI h0
    go_enter Try.func23, Try.ntmps23
    go_wp2_with fail
    refine (unhide N1).mono ?_
    rintro e w1 ⟨rfl, hw1⟩
    rw [hw1]
    clear hw1
    go_wp2
    go_ret
    exact ⟨rfl, rfl⟩
end Go.Proofs.Ytdameincehiieaa
