/- own, isDo of the program's talk. -/
import Derived.Test.YtfpglpefofcdeaaDoorM01
import Derived.Test.YtfpglpefofcdeaaDoorM31
import Derived.Laws.StructEq
namespace Go.Proofs.YtfpglpefofcdeaaDoor
open Go.RowKit
set_option linter.unusedVariables false

def inT (n a b : Int) : Bool := decide (a ≤ n ∧ n ≤ b)
theorem inT_true {n a b : Int} : inT n a b = true ↔ a ≤ n ∧ n ≤ b := by unfold inT; simp
theorem inT_false {n a b : Int} (h : ¬ (a ≤ n ∧ n ≤ b)) : inT n a b = false := decide_eq_false h
theorem ret_boolQ {a b : Bool} (h : a = b) : Ending.returned (.bool a) = .returned (.bool b) := by rw [h]
theorem twithin_any (n a b : Int) (w : World) :
    Calls Tryd.prog 62 #[.int .i64 n, .int .i64 a, .int .i64 b] w fun e w' => e = .returned (.bool (inT n a b)) ∧ w' = w := by
  by_cases h1 : a ≤ n
  · by_cases h2 : n ≤ b
    · have HD : Hid (inT n a b = true) := hide (decide_eq_true ⟨h1, h2⟩)
      generalize inT n a b = r at *
      go_enter Tryd.func62, Tryd.ntmps62
      go_wp2
      go_ret
      exact ⟨ret_boolQ (unhide HD).symm, rfl⟩
    · have HD : Hid (inT n a b = false) := hide (decide_eq_false (fun h => h2 h.2))
      generalize inT n a b = r at *
      go_enter Tryd.func62, Tryd.ntmps62
      go_wp2
      go_ret
      exact ⟨ret_boolQ (unhide HD).symm, rfl⟩
  · have HD : Hid (inT n a b = false) := hide (decide_eq_false (fun h => h1 h.1))
    generalize inT n a b = r at *
    go_enter Tryd.func62, Tryd.ntmps62
    go_wp2
    go_ret
    exact ⟨ret_boolQ (unhide HD).symm, rfl⟩
theorem isDo_any (n : Int) (w : World) :
    Calls Tryd.prog 40 #[.int .i64 n] w fun e w' => e = .returned (.bool (inT n 1 7)) ∧ w' = w := by
  have N1 := hide (fun w => twithin_any n 1 7 w)
  generalize inT n 1 7 = b at *
  go_enter Tryd.func40, Tryd.ntmps40
  go_wp2_with fail
  refine (unhide N1 _).mono ?_
  rintro e w1 ⟨rfl, rfl⟩
  go_wp2
  go_ret
  exact ⟨rfl, rfl⟩
def zeroD : XDeal := ⟨0, 0, 0, false, 0, 0, ⟨#[]⟩⟩
/-- a command with nothing but what belongs to it -/
def ownC (c : XCommand) : XCommand :=
  if c.dO = 2 then ⟨c.dO, c.name, ⟨#[]⟩, 0, zeroD, ⟨#[]⟩, ⟨#[]⟩, ⟨#[]⟩⟩
  else if c.dO = 4 then ⟨c.dO, ⟨#[]⟩, c.digits, 0, zeroD, ⟨#[]⟩, ⟨#[]⟩, ⟨#[]⟩⟩
  else if c.dO = 5 then ⟨c.dO, ⟨#[]⟩, ⟨#[]⟩, c.want, c.deal, c.extra, ⟨#[]⟩, ⟨#[]⟩⟩
  else if c.dO = 6 then ⟨c.dO, ⟨#[]⟩, ⟨#[]⟩, c.want, zeroD, ⟨#[]⟩, c.answer, ⟨#[]⟩⟩
  else if c.dO = 7 then ⟨c.dO, ⟨#[]⟩, ⟨#[]⟩, 0, zeroD, ⟨#[]⟩, ⟨#[]⟩, c.orders⟩
  else ⟨c.dO, ⟨#[]⟩, ⟨#[]⟩, 0, zeroD, ⟨#[]⟩, ⟨#[]⟩, ⟨#[]⟩⟩
set_option maxRecDepth 100000 in
set_option maxHeartbeats 2000000 in
theorem own_any (c : XCommand) (w : World) :
    Calls Tryd.prog 41 #[valCommand c] w fun e w' => e = .returned (valCommand (ownC c)) ∧ Below w.heap.size w w' := by
  obtain ⟨dO, nm, dg, wt, ⟨sh, tr, am, ca, dy, bt, no⟩, ex, an, od⟩ := c
  have HB := hide (fun o o' => ((Below.refl w.heap.size w).alloc (Nat.le_refl _) o).alloc (by simp) o')
  obtain ⟨R, hR⟩ : ∃ R, R = ownC ⟨dO, nm, dg, wt, ⟨sh, tr, am, ca, dy, bt, no⟩, ex, an, od⟩ := ⟨_, rfl⟩
  rw [← hR]
  unfold ownC zeroD at hR
  simp only at hR
  unfold valCommand
  simp only
  by_cases h2 : dO = 2
  · rw [if_pos h2] at hR
    subst h2
    subst hR
    simp only
    go_enter Tryd.func41, Tryd.ntmps41
    go_wp2
    exact bodyPost_ret (v := .agg #[.int .i64 2, .string nm, .string ⟨#[]⟩, .int .i64 0, .int .i64 0, .int .i64 0, .int .i64 0, .bool false, .int .i64 0, .int .i64 0, .string ⟨#[]⟩, .string ⟨#[]⟩, .string ⟨#[]⟩, .string ⟨#[]⟩]) (by simp [results, Tryd.results41, go_sem]) rfl ⟨rfl, unhide HB _ _⟩
  rw [if_neg h2] at hR
  have t2 : (dO == 2) = false := by simpa using h2
  clear h2
  by_cases h4 : dO = 4
  · rw [if_pos h4] at hR
    subst h4
    subst hR
    simp only
    go_enter Tryd.func41, Tryd.ntmps41
    go_wp2
    exact bodyPost_ret (v := .agg #[.int .i64 4, .string ⟨#[]⟩, .string dg, .int .i64 0, .int .i64 0, .int .i64 0, .int .i64 0, .bool false, .int .i64 0, .int .i64 0, .string ⟨#[]⟩, .string ⟨#[]⟩, .string ⟨#[]⟩, .string ⟨#[]⟩]) (by simp [results, Tryd.results41, go_sem]) rfl ⟨rfl, unhide HB _ _⟩
  rw [if_neg h4] at hR
  have t4 : (dO == 4) = false := by simpa using h4
  clear h4
  by_cases h5 : dO = 5
  · rw [if_pos h5] at hR
    subst h5
    subst hR
    simp only
    go_enter Tryd.func41, Tryd.ntmps41
    go_wp2
    exact bodyPost_ret (v := .agg #[.int .i64 5, .string ⟨#[]⟩, .string ⟨#[]⟩, .int .i64 wt, .int .i64 sh, .int .i64 tr, .int .i64 am, .bool ca, .int .i64 dy, .int .i64 bt, .string no, .string ex, .string ⟨#[]⟩, .string ⟨#[]⟩]) (by simp [results, Tryd.results41, go_sem]) rfl ⟨rfl, unhide HB _ _⟩
  rw [if_neg h5] at hR
  have t5 : (dO == 5) = false := by simpa using h5
  clear h5
  by_cases h6 : dO = 6
  · rw [if_pos h6] at hR
    subst h6
    subst hR
    simp only
    go_enter Tryd.func41, Tryd.ntmps41
    go_wp2
    exact bodyPost_ret (v := .agg #[.int .i64 6, .string ⟨#[]⟩, .string ⟨#[]⟩, .int .i64 wt, .int .i64 0, .int .i64 0, .int .i64 0, .bool false, .int .i64 0, .int .i64 0, .string ⟨#[]⟩, .string ⟨#[]⟩, .string an, .string ⟨#[]⟩]) (by simp [results, Tryd.results41, go_sem]) rfl ⟨rfl, unhide HB _ _⟩
  rw [if_neg h6] at hR
  have t6 : (dO == 6) = false := by simpa using h6
  clear h6
  by_cases h7 : dO = 7
  · rw [if_pos h7] at hR
    subst h7
    subst hR
    simp only
    go_enter Tryd.func41, Tryd.ntmps41
    go_wp2
    exact bodyPost_ret (v := .agg #[.int .i64 7, .string ⟨#[]⟩, .string ⟨#[]⟩, .int .i64 0, .int .i64 0, .int .i64 0, .int .i64 0, .bool false, .int .i64 0, .int .i64 0, .string ⟨#[]⟩, .string ⟨#[]⟩, .string ⟨#[]⟩, .string od]) (by simp [results, Tryd.results41, go_sem]) rfl ⟨rfl, unhide HB _ _⟩
  rw [if_neg h7] at hR
  have t7 : (dO == 7) = false := by simpa using h7
  clear h7
  subst hR
  simp only
  go_enter Tryd.func41, Tryd.ntmps41
  go_wp2
  exact bodyPost_ret (v := .agg #[.int .i64 dO, .string ⟨#[]⟩, .string ⟨#[]⟩, .int .i64 0, .int .i64 0, .int .i64 0, .int .i64 0, .bool false, .int .i64 0, .int .i64 0, .string ⟨#[]⟩, .string ⟨#[]⟩, .string ⟨#[]⟩, .string ⟨#[]⟩]) (by simp [results, Tryd.results41, go_sem]) rfl ⟨rfl, unhide HB _ _⟩
theorem toList_injQ {x y : ByteArray} (h : x.toList = y.toList) : x = y := by
  rw [Lib.toList_data, Lib.toList_data] at h
  apply ByteArray.ext
  exact Array.toList_inj.1 h
instance : DecidableEq XDeal := fun a b => by
  obtain ⟨a1, a2, a3, a4, a5, a6, a7⟩ := a
  obtain ⟨b1, b2, b3, b4, b5, b6, b7⟩ := b
  exact decidable_of_iff (a1 = b1 ∧ a2 = b2 ∧ a3 = b3 ∧ a4 = b4 ∧ a5 = b5 ∧ a6 = b6 ∧ a7 = b7) (by simp)
instance : DecidableEq XCommand := fun a b => by
  obtain ⟨a1, a2, a3, a4, a5, a6, a7, a8⟩ := a
  obtain ⟨b1, b2, b3, b4, b5, b6, b7, b8⟩ := b
  exact decidable_of_iff (a1 = b1 ∧ a2 = b2 ∧ a3 = b3 ∧ a4 = b4 ∧ a5 = b5 ∧ a6 = b6 ∧ a7 = b7 ∧ a8 = b8) (by simp)
set_option maxHeartbeats 2000000 in
theorem neq_command (a b : XCommand) (w : World) : (binOp .neq 80 (valCommand a) (valCommand b)).run Tryd.prog w = .ok (.bool (!decide (a = b))) w := by
  unfold valCommand
  go_simp
  by_cases h : a = b
  · subst h; simp
  · rw [decide_eq_false h]
    obtain ⟨a1, a2, a3, a4, ⟨d1, d2, d3, d4, d5, d6, d7⟩, a6, a7, a8⟩ := a
    obtain ⟨b1, b2, b3, b4, ⟨e1, e2, e3, e4, e5, e6, e7⟩, b6, b7, b8⟩ := b
    simp only
    by_cases g0 : a1 = b1
    case neg => first | (rw [if_neg g0]; done) | (rw [if_neg g0]; rfl)
    rw [if_pos g0]
    by_cases g1 : a2.toList = b2.toList
    case neg => first | (rw [if_neg g1]; done) | (rw [if_neg g1]; rfl)
    rw [if_pos g1]
    by_cases g2 : a3.toList = b3.toList
    case neg => first | (rw [if_neg g2]; done) | (rw [if_neg g2]; rfl)
    rw [if_pos g2]
    by_cases g3 : a4 = b4
    case neg => first | (rw [if_neg g3]; done) | (rw [if_neg g3]; rfl)
    rw [if_pos g3]
    by_cases g4 : d1 = e1
    case neg => first | (rw [if_neg g4]; done) | (rw [if_neg g4]; rfl)
    rw [if_pos g4]
    by_cases g5 : d2 = e2
    case neg => first | (rw [if_neg g5]; done) | (rw [if_neg g5]; rfl)
    rw [if_pos g5]
    by_cases g6 : d3 = e3
    case neg => first | (rw [if_neg g6]; done) | (rw [if_neg g6]; rfl)
    rw [if_pos g6]
    by_cases g7 : d4 = e4
    case neg => first | (rw [if_neg g7]; done) | (rw [if_neg g7]; rfl)
    rw [if_pos g7]
    by_cases g8 : d5 = e5
    case neg => first | (rw [if_neg g8]; done) | (rw [if_neg g8]; rfl)
    rw [if_pos g8]
    by_cases g9 : d6 = e6
    case neg => first | (rw [if_neg g9]; done) | (rw [if_neg g9]; rfl)
    rw [if_pos g9]
    by_cases g10 : d7.toList = e7.toList
    case neg => first | (rw [if_neg g10]; done) | (rw [if_neg g10]; rfl)
    rw [if_pos g10]
    by_cases g11 : a6.toList = b6.toList
    case neg => first | (rw [if_neg g11]; done) | (rw [if_neg g11]; rfl)
    rw [if_pos g11]
    by_cases g12 : a7.toList = b7.toList
    case neg => first | (rw [if_neg g12]; done) | (rw [if_neg g12]; rfl)
    rw [if_pos g12]
    by_cases g13 : a8.toList = b8.toList
    case neg => first | (rw [if_neg g13]; done) | (rw [if_neg g13]; rfl)
    rw [if_pos g13]
    exact absurd (by rw [g0, toList_injQ g1, toList_injQ g2, g3, g4, g5, g6, g7, g8, g9, toList_injQ g10, toList_injQ g11, toList_injQ g12, toList_injQ g13]) h
set_option maxHeartbeats 2000000 in
theorem eql_command (a b : XCommand) (w : World) : (binOp .eql 80 (valCommand a) (valCommand b)).run Tryd.prog w = .ok (.bool (decide (a = b))) w := by
  unfold valCommand
  go_simp
  by_cases h : a = b
  · subst h; simp
  · rw [decide_eq_false h]
    obtain ⟨a1, a2, a3, a4, ⟨d1, d2, d3, d4, d5, d6, d7⟩, a6, a7, a8⟩ := a
    obtain ⟨b1, b2, b3, b4, ⟨e1, e2, e3, e4, e5, e6, e7⟩, b6, b7, b8⟩ := b
    simp only
    by_cases g0 : a1 = b1
    case neg => first | (rw [if_neg g0]; done) | (rw [if_neg g0]; rfl)
    rw [if_pos g0]
    by_cases g1 : a2.toList = b2.toList
    case neg => first | (rw [if_neg g1]; done) | (rw [if_neg g1]; rfl)
    rw [if_pos g1]
    by_cases g2 : a3.toList = b3.toList
    case neg => first | (rw [if_neg g2]; done) | (rw [if_neg g2]; rfl)
    rw [if_pos g2]
    by_cases g3 : a4 = b4
    case neg => first | (rw [if_neg g3]; done) | (rw [if_neg g3]; rfl)
    rw [if_pos g3]
    by_cases g4 : d1 = e1
    case neg => first | (rw [if_neg g4]; done) | (rw [if_neg g4]; rfl)
    rw [if_pos g4]
    by_cases g5 : d2 = e2
    case neg => first | (rw [if_neg g5]; done) | (rw [if_neg g5]; rfl)
    rw [if_pos g5]
    by_cases g6 : d3 = e3
    case neg => first | (rw [if_neg g6]; done) | (rw [if_neg g6]; rfl)
    rw [if_pos g6]
    by_cases g7 : d4 = e4
    case neg => first | (rw [if_neg g7]; done) | (rw [if_neg g7]; rfl)
    rw [if_pos g7]
    by_cases g8 : d5 = e5
    case neg => first | (rw [if_neg g8]; done) | (rw [if_neg g8]; rfl)
    rw [if_pos g8]
    by_cases g9 : d6 = e6
    case neg => first | (rw [if_neg g9]; done) | (rw [if_neg g9]; rfl)
    rw [if_pos g9]
    by_cases g10 : d7.toList = e7.toList
    case neg => first | (rw [if_neg g10]; done) | (rw [if_neg g10]; rfl)
    rw [if_pos g10]
    by_cases g11 : a6.toList = b6.toList
    case neg => first | (rw [if_neg g11]; done) | (rw [if_neg g11]; rfl)
    rw [if_pos g11]
    by_cases g12 : a7.toList = b7.toList
    case neg => first | (rw [if_neg g12]; done) | (rw [if_neg g12]; rfl)
    rw [if_pos g12]
    by_cases g13 : a8.toList = b8.toList
    case neg => first | (rw [if_neg g13]; done) | (rw [if_neg g13]; rfl)
    rw [if_pos g13]
    exact absurd (by rw [g0, toList_injQ g1, toList_injQ g2, g3, g4, g5, g6, g7, g8, g9, toList_injQ g10, toList_injQ g11, toList_injQ g12, toList_injQ g13]) h
end Go.Proofs.YtfpglpefofcdeaaDoor
