/- wire's table of forms, and what asks it. -/
import Derived.Test.YtkmmgeoialdmlaaDoorWireQ
import Derived.BigQuiet
namespace Go.Proofs.YtkmmgeoialdmlaaDoor
open Go.RowKit
set_option linter.unusedVariables false

/-- the table lies in memory -/
def Forms (w : World) : Prop := ∀ n, 1 ≤ n → n ≤ 16 → w.cell? ⟨0, 3 * (n - 1), none⟩ = some (.int .i64 (fmost n : Int)) ∧ w.cell? ⟨0, 3 * (n - 1) + 1, none⟩ = some (.int .i64 (fahead n : Int)) ∧ w.cell? ⟨0, 3 * (n - 1) + 2, none⟩ = some (.bool (fdig n))
theorem Forms.below {w w' : World} {B : Nat} (h : Forms w) (hb : Below B w w') (hB : 0 < B) : Forms w' := fun n h1 h2 =>
  ⟨(hb.cell (p := ⟨0, _, none⟩) hB).trans (h n h1 h2).1, (hb.cell (p := ⟨0, _, none⟩) hB).trans (h n h1 h2).2.1, (hb.cell (p := ⟨0, _, none⟩) hB).trans (h n h1 h2).2.2⟩
def formV (n : Nat) : Value := .agg #[.int .i64 (fmost n : Int), .int .i64 (fahead n : Int), .bool (fdig n)]
theorem one_to_16 {n : Nat} (h1 : 1 ≤ n) (h2 : n ≤ 16) : n = 1 ∨ n = 2 ∨ n = 3 ∨ n = 4 ∨ n = 5 ∨ n = 6 ∨ n = 7 ∨ n = 8 ∨ n = 9 ∨ n = 10 ∨ n = 11 ∨ n = 12 ∨ n = 13 ∨ n = 14 ∨ n = 15 ∨ n = 16 := by omega
set_option maxRecDepth 100000 in
set_option maxHeartbeats 4000000 in
theorem formOf_any (n : Nat) (h1 : 1 ≤ n) (h2 : n ≤ 16) (w : World) (hf : Forms w) :
    Calls Tryd.prog 14 #[.int .i64 (n : Int)] w fun e w' => e = .returned (formV n) ∧ Below w.heap.size w w' := by
  rcases one_to_16 h1 h2 with rfl | rfl | rfl | rfl | rfl | rfl | rfl | rfl | rfl | rfl | rfl | rfl | rfl | rfl | rfl | rfl
  · have c0 : w.cell? ⟨0, 0, none⟩ = some (.int .i64 19) := (hf 1 (by decide) (by decide)).1
    have c1 : w.cell? ⟨0, 1, none⟩ = some (.int .i64 2) := (hf 1 (by decide) (by decide)).2.1
    have c2 : w.cell? ⟨0, 2, none⟩ = some (.bool true) := (hf 1 (by decide) (by decide)).2.2
    have hw0 : 0 < w.heap.size := World.block_lt_of_cell? _ _ c0
    clear hf h1 h2
    go_enter Tryd.func14, Tryd.ntmps14
    go_wp2
    refine bodyPost_ret (v := formV 1) (by simp [results, Tryd.results14, go_sem, formV, fmost, fahead, fdig]) rfl ⟨rfl, ?_⟩
    have hB : w.heap.size ≤ w.heap.size := Nat.le_refl _
    first | exact (Below.refl _ _).alloc hB _ | exact ((Below.refl _ _).alloc hB _).setCell hB _ | exact ((((Below.refl _ _).alloc hB _).setCell hB _).setCell hB _).setCell hB _
  · have c0 : w.cell? ⟨0, 3, none⟩ = some (.int .i64 12) := (hf 2 (by decide) (by decide)).1
    have c1 : w.cell? ⟨0, 4, none⟩ = some (.int .i64 0) := (hf 2 (by decide) (by decide)).2.1
    have c2 : w.cell? ⟨0, 5, none⟩ = some (.bool true) := (hf 2 (by decide) (by decide)).2.2
    have hw0 : 0 < w.heap.size := World.block_lt_of_cell? _ _ c0
    clear hf h1 h2
    go_enter Tryd.func14, Tryd.ntmps14
    go_wp2
    refine bodyPost_ret (v := formV 2) (by simp [results, Tryd.results14, go_sem, formV, fmost, fahead, fdig]) rfl ⟨rfl, ?_⟩
    have hB : w.heap.size ≤ w.heap.size := Nat.le_refl _
    first | exact (Below.refl _ _).alloc hB _ | exact ((Below.refl _ _).alloc hB _).setCell hB _ | exact ((((Below.refl _ _).alloc hB _).setCell hB _).setCell hB _).setCell hB _
  · have c0 : w.cell? ⟨0, 6, none⟩ = some (.int .i64 1) := (hf 3 (by decide) (by decide)).1
    have c1 : w.cell? ⟨0, 7, none⟩ = some (.int .i64 0) := (hf 3 (by decide) (by decide)).2.1
    have c2 : w.cell? ⟨0, 8, none⟩ = some (.bool true) := (hf 3 (by decide) (by decide)).2.2
    have hw0 : 0 < w.heap.size := World.block_lt_of_cell? _ _ c0
    clear hf h1 h2
    go_enter Tryd.func14, Tryd.ntmps14
    go_wp2
    refine bodyPost_ret (v := formV 3) (by simp [results, Tryd.results14, go_sem, formV, fmost, fahead, fdig]) rfl ⟨rfl, ?_⟩
    have hB : w.heap.size ≤ w.heap.size := Nat.le_refl _
    first | exact (Below.refl _ _).alloc hB _ | exact ((Below.refl _ _).alloc hB _).setCell hB _ | exact ((((Below.refl _ _).alloc hB _).setCell hB _).setCell hB _).setCell hB _
  · have c0 : w.cell? ⟨0, 9, none⟩ = some (.int .i64 5) := (hf 4 (by decide) (by decide)).1
    have c1 : w.cell? ⟨0, 10, none⟩ = some (.int .i64 0) := (hf 4 (by decide) (by decide)).2.1
    have c2 : w.cell? ⟨0, 11, none⟩ = some (.bool true) := (hf 4 (by decide) (by decide)).2.2
    have hw0 : 0 < w.heap.size := World.block_lt_of_cell? _ _ c0
    clear hf h1 h2
    go_enter Tryd.func14, Tryd.ntmps14
    go_wp2
    refine bodyPost_ret (v := formV 4) (by simp [results, Tryd.results14, go_sem, formV, fmost, fahead, fdig]) rfl ⟨rfl, ?_⟩
    have hB : w.heap.size ≤ w.heap.size := Nat.le_refl _
    first | exact (Below.refl _ _).alloc hB _ | exact ((Below.refl _ _).alloc hB _).setCell hB _ | exact ((((Below.refl _ _).alloc hB _).setCell hB _).setCell hB _).setCell hB _
  · have c0 : w.cell? ⟨0, 12, none⟩ = some (.int .i64 10) := (hf 5 (by decide) (by decide)).1
    have c1 : w.cell? ⟨0, 13, none⟩ = some (.int .i64 0) := (hf 5 (by decide) (by decide)).2.1
    have c2 : w.cell? ⟨0, 14, none⟩ = some (.bool true) := (hf 5 (by decide) (by decide)).2.2
    have hw0 : 0 < w.heap.size := World.block_lt_of_cell? _ _ c0
    clear hf h1 h2
    go_enter Tryd.func14, Tryd.ntmps14
    go_wp2
    refine bodyPost_ret (v := formV 5) (by simp [results, Tryd.results14, go_sem, formV, fmost, fahead, fdig]) rfl ⟨rfl, ?_⟩
    have hB : w.heap.size ≤ w.heap.size := Nat.le_refl _
    first | exact (Below.refl _ _).alloc hB _ | exact ((Below.refl _ _).alloc hB _).setCell hB _ | exact ((((Below.refl _ _).alloc hB _).setCell hB _).setCell hB _).setCell hB _
  · have c0 : w.cell? ⟨0, 15, none⟩ = some (.int .i64 10) := (hf 6 (by decide) (by decide)).1
    have c1 : w.cell? ⟨0, 16, none⟩ = some (.int .i64 0) := (hf 6 (by decide) (by decide)).2.1
    have c2 : w.cell? ⟨0, 17, none⟩ = some (.bool true) := (hf 6 (by decide) (by decide)).2.2
    have hw0 : 0 < w.heap.size := World.block_lt_of_cell? _ _ c0
    clear hf h1 h2
    go_enter Tryd.func14, Tryd.ntmps14
    go_wp2
    refine bodyPost_ret (v := formV 6) (by simp [results, Tryd.results14, go_sem, formV, fmost, fahead, fdig]) rfl ⟨rfl, ?_⟩
    have hB : w.heap.size ≤ w.heap.size := Nat.le_refl _
    first | exact (Below.refl _ _).alloc hB _ | exact ((Below.refl _ _).alloc hB _).setCell hB _ | exact ((((Below.refl _ _).alloc hB _).setCell hB _).setCell hB _).setCell hB _
  · have c0 : w.cell? ⟨0, 18, none⟩ = some (.int .i64 4) := (hf 7 (by decide) (by decide)).1
    have c1 : w.cell? ⟨0, 19, none⟩ = some (.int .i64 0) := (hf 7 (by decide) (by decide)).2.1
    have c2 : w.cell? ⟨0, 20, none⟩ = some (.bool true) := (hf 7 (by decide) (by decide)).2.2
    have hw0 : 0 < w.heap.size := World.block_lt_of_cell? _ _ c0
    clear hf h1 h2
    go_enter Tryd.func14, Tryd.ntmps14
    go_wp2
    refine bodyPost_ret (v := formV 7) (by simp [results, Tryd.results14, go_sem, formV, fmost, fahead, fdig]) rfl ⟨rfl, ?_⟩
    have hB : w.heap.size ≤ w.heap.size := Nat.le_refl _
    first | exact (Below.refl _ _).alloc hB _ | exact ((Below.refl _ _).alloc hB _).setCell hB _ | exact ((((Below.refl _ _).alloc hB _).setCell hB _).setCell hB _).setCell hB _
  · have c0 : w.cell? ⟨0, 21, none⟩ = some (.int .i64 8) := (hf 8 (by decide) (by decide)).1
    have c1 : w.cell? ⟨0, 22, none⟩ = some (.int .i64 0) := (hf 8 (by decide) (by decide)).2.1
    have c2 : w.cell? ⟨0, 23, none⟩ = some (.bool false) := (hf 8 (by decide) (by decide)).2.2
    have hw0 : 0 < w.heap.size := World.block_lt_of_cell? _ _ c0
    clear hf h1 h2
    go_enter Tryd.func14, Tryd.ntmps14
    go_wp2
    refine bodyPost_ret (v := formV 8) (by simp [results, Tryd.results14, go_sem, formV, fmost, fahead, fdig]) rfl ⟨rfl, ?_⟩
    have hB : w.heap.size ≤ w.heap.size := Nat.le_refl _
    first | exact (Below.refl _ _).alloc hB _ | exact ((Below.refl _ _).alloc hB _).setCell hB _ | exact ((((Below.refl _ _).alloc hB _).setCell hB _).setCell hB _).setCell hB _
  · have c0 : w.cell? ⟨0, 24, none⟩ = some (.int .i64 9999) := (hf 9 (by decide) (by decide)).1
    have c1 : w.cell? ⟨0, 25, none⟩ = some (.int .i64 4) := (hf 9 (by decide) (by decide)).2.1
    have c2 : w.cell? ⟨0, 26, none⟩ = some (.bool false) := (hf 9 (by decide) (by decide)).2.2
    have hw0 : 0 < w.heap.size := World.block_lt_of_cell? _ _ c0
    clear hf h1 h2
    go_enter Tryd.func14, Tryd.ntmps14
    go_wp2
    refine bodyPost_ret (v := formV 9) (by simp [results, Tryd.results14, go_sem, formV, fmost, fahead, fdig]) rfl ⟨rfl, ?_⟩
    have hB : w.heap.size ≤ w.heap.size := Nat.le_refl _
    first | exact (Below.refl _ _).alloc hB _ | exact ((Below.refl _ _).alloc hB _).setCell hB _ | exact ((((Below.refl _ _).alloc hB _).setCell hB _).setCell hB _).setCell hB _
  · have c0 : w.cell? ⟨0, 27, none⟩ = some (.int .i64 5) := (hf 10 (by decide) (by decide)).1
    have c1 : w.cell? ⟨0, 28, none⟩ = some (.int .i64 0) := (hf 10 (by decide) (by decide)).2.1
    have c2 : w.cell? ⟨0, 29, none⟩ = some (.bool true) := (hf 10 (by decide) (by decide)).2.2
    have hw0 : 0 < w.heap.size := World.block_lt_of_cell? _ _ c0
    clear hf h1 h2
    go_enter Tryd.func14, Tryd.ntmps14
    go_wp2
    refine bodyPost_ret (v := formV 10) (by simp [results, Tryd.results14, go_sem, formV, fmost, fahead, fdig]) rfl ⟨rfl, ?_⟩
    have hB : w.heap.size ≤ w.heap.size := Nat.le_refl _
    first | exact (Below.refl _ _).alloc hB _ | exact ((Below.refl _ _).alloc hB _).setCell hB _ | exact ((((Below.refl _ _).alloc hB _).setCell hB _).setCell hB _).setCell hB _
  · have c0 : w.cell? ⟨0, 30, none⟩ = some (.int .i64 8) := (hf 11 (by decide) (by decide)).1
    have c1 : w.cell? ⟨0, 31, none⟩ = some (.int .i64 0) := (hf 11 (by decide) (by decide)).2.1
    have c2 : w.cell? ⟨0, 32, none⟩ = some (.bool false) := (hf 11 (by decide) (by decide)).2.2
    have hw0 : 0 < w.heap.size := World.block_lt_of_cell? _ _ c0
    clear hf h1 h2
    go_enter Tryd.func14, Tryd.ntmps14
    go_wp2
    refine bodyPost_ret (v := formV 11) (by simp [results, Tryd.results14, go_sem, formV, fmost, fahead, fdig]) rfl ⟨rfl, ?_⟩
    have hB : w.heap.size ≤ w.heap.size := Nat.le_refl _
    first | exact (Below.refl _ _).alloc hB _ | exact ((Below.refl _ _).alloc hB _).setCell hB _ | exact ((((Below.refl _ _).alloc hB _).setCell hB _).setCell hB _).setCell hB _
  · have c0 : w.cell? ⟨0, 33, none⟩ = some (.int .i64 1) := (hf 12 (by decide) (by decide)).1
    have c1 : w.cell? ⟨0, 34, none⟩ = some (.int .i64 0) := (hf 12 (by decide) (by decide)).2.1
    have c2 : w.cell? ⟨0, 35, none⟩ = some (.bool true) := (hf 12 (by decide) (by decide)).2.2
    have hw0 : 0 < w.heap.size := World.block_lt_of_cell? _ _ c0
    clear hf h1 h2
    go_enter Tryd.func14, Tryd.ntmps14
    go_wp2
    refine bodyPost_ret (v := formV 12) (by simp [results, Tryd.results14, go_sem, formV, fmost, fahead, fdig]) rfl ⟨rfl, ?_⟩
    have hB : w.heap.size ≤ w.heap.size := Nat.le_refl _
    first | exact (Below.refl _ _).alloc hB _ | exact ((Below.refl _ _).alloc hB _).setCell hB _ | exact ((((Below.refl _ _).alloc hB _).setCell hB _).setCell hB _).setCell hB _
  · have c0 : w.cell? ⟨0, 36, none⟩ = some (.int .i64 1) := (hf 13 (by decide) (by decide)).1
    have c1 : w.cell? ⟨0, 37, none⟩ = some (.int .i64 0) := (hf 13 (by decide) (by decide)).2.1
    have c2 : w.cell? ⟨0, 38, none⟩ = some (.bool true) := (hf 13 (by decide) (by decide)).2.2
    have hw0 : 0 < w.heap.size := World.block_lt_of_cell? _ _ c0
    clear hf h1 h2
    go_enter Tryd.func14, Tryd.ntmps14
    go_wp2
    refine bodyPost_ret (v := formV 13) (by simp [results, Tryd.results14, go_sem, formV, fmost, fahead, fdig]) rfl ⟨rfl, ?_⟩
    have hB : w.heap.size ≤ w.heap.size := Nat.le_refl _
    first | exact (Below.refl _ _).alloc hB _ | exact ((Below.refl _ _).alloc hB _).setCell hB _ | exact ((((Below.refl _ _).alloc hB _).setCell hB _).setCell hB _).setCell hB _
  · have c0 : w.cell? ⟨0, 39, none⟩ = some (.int .i64 9) := (hf 14 (by decide) (by decide)).1
    have c1 : w.cell? ⟨0, 40, none⟩ = some (.int .i64 0) := (hf 14 (by decide) (by decide)).2.1
    have c2 : w.cell? ⟨0, 41, none⟩ = some (.bool false) := (hf 14 (by decide) (by decide)).2.2
    have hw0 : 0 < w.heap.size := World.block_lt_of_cell? _ _ c0
    clear hf h1 h2
    go_enter Tryd.func14, Tryd.ntmps14
    go_wp2
    refine bodyPost_ret (v := formV 14) (by simp [results, Tryd.results14, go_sem, formV, fmost, fahead, fdig]) rfl ⟨rfl, ?_⟩
    have hB : w.heap.size ≤ w.heap.size := Nat.le_refl _
    first | exact (Below.refl _ _).alloc hB _ | exact ((Below.refl _ _).alloc hB _).setCell hB _ | exact ((((Below.refl _ _).alloc hB _).setCell hB _).setCell hB _).setCell hB _
  · have c0 : w.cell? ⟨0, 42, none⟩ = some (.int .i64 999) := (hf 15 (by decide) (by decide)).1
    have c1 : w.cell? ⟨0, 43, none⟩ = some (.int .i64 3) := (hf 15 (by decide) (by decide)).2.1
    have c2 : w.cell? ⟨0, 44, none⟩ = some (.bool false) := (hf 15 (by decide) (by decide)).2.2
    have hw0 : 0 < w.heap.size := World.block_lt_of_cell? _ _ c0
    clear hf h1 h2
    go_enter Tryd.func14, Tryd.ntmps14
    go_wp2
    refine bodyPost_ret (v := formV 15) (by simp [results, Tryd.results14, go_sem, formV, fmost, fahead, fdig]) rfl ⟨rfl, ?_⟩
    have hB : w.heap.size ≤ w.heap.size := Nat.le_refl _
    first | exact (Below.refl _ _).alloc hB _ | exact ((Below.refl _ _).alloc hB _).setCell hB _ | exact ((((Below.refl _ _).alloc hB _).setCell hB _).setCell hB _).setCell hB _
  · have c0 : w.cell? ⟨0, 45, none⟩ = some (.int .i64 12) := (hf 16 (by decide) (by decide)).1
    have c1 : w.cell? ⟨0, 46, none⟩ = some (.int .i64 2) := (hf 16 (by decide) (by decide)).2.1
    have c2 : w.cell? ⟨0, 47, none⟩ = some (.bool true) := (hf 16 (by decide) (by decide)).2.2
    have hw0 : 0 < w.heap.size := World.block_lt_of_cell? _ _ c0
    clear hf h1 h2
    go_enter Tryd.func14, Tryd.ntmps14
    go_wp2
    refine bodyPost_ret (v := formV 16) (by simp [results, Tryd.results14, go_sem, formV, fmost, fahead, fdig]) rfl ⟨rfl, ?_⟩
    have hB : w.heap.size ≤ w.heap.size := Nat.le_refl _
    first | exact (Below.refl _ _).alloc hB _ | exact ((Below.refl _ _).alloc hB _).setCell hB _ | exact ((((Below.refl _ _).alloc hB _).setCell hB _).setCell hB _).setCell hB _
theorem isDigits_any (s : ByteArray) (hs : s.size ≤ maxLen) (w : World) :
    Calls Tryd.prog 33 #[.string s] w fun e w' => e = .returned (.bool (allDig s)) ∧ Below w.heap.size w w' := by
  have N1 := hide (trim_any s w (by unfold maxLen at hs; omega))
  clear hs
  unfold digitsT at N1
  go_enter Tryd.func33, Tryd.ntmps33
  go_wp2_with fail
  refine (unhide N1).mono ?_
  rintro e w1 ⟨hb1, t, rfl, ht⟩
  have HE := hide ht
  clear ht
  go_wp2
  go_ret
  exact ⟨ret_bool (unhide HE), hb1⟩
/-- whether a text is a form's -/
def tkB (m a : Nat) (d : Bool) (s : ByteArray) : Bool := (decide (s.size = m) || (decide (s.size < m) && decide (0 < a))) && (allDig s || !d)
theorem takesB_tk (n : Nat) (s : ByteArray) : takesB n s = tkB (fmost n) (fahead n) (fdig n) s := rfl
set_option maxRecDepth 100000 in
set_option maxHeartbeats 4000000 in
theorem takes_val (m a : Nat) (d : Bool) (s : ByteArray) (hs : s.size ≤ maxLen) (w : World) :
    Calls Tryd.prog 15 #[.agg #[.int .i64 (m : Int), .int .i64 (a : Int), .bool d], .string s] w fun e w' => e = .returned (.bool (tkB m a d s)) ∧ Below w.heap.size w w' := by
  have N1 := hide (fun w => isDigits_any s hs w)
  clear hs
  unfold tkB
  have hB0 := hide ((Below.refl w.heap.size w).alloc (Nat.le_refl _) (.cells #[.int .i64 (m : Int), .int .i64 (a : Int), .bool d] 47))
  generalize allDig s = q at *
  by_cases h1 : s.size = m
  · have t1 : ((s.size : Int) == (m : Int)) = true := by rw [beq_iff_eq]; omega
    rw [decide_eq_true h1, Bool.true_or, Bool.true_and]
    clear h1
    go_enter Tryd.func15, Tryd.ntmps15
    go_wp2_with fail
    refine (unhide N1 _).mono ?_
    rintro e w1 ⟨rfl, b1⟩
    have HB := hide ((unhide hB0).trans (b1.mono (unhide hB0).size))
    have c2 : w1.cell? ⟨w.heap.size, 2, none⟩ = some (.bool d) := (b1.cell (p := ⟨w.heap.size, 2, none⟩) (by simp)).trans (by simp)
    clear b1
    cases q
    all_goals
      go_wp2
      go_ret
      exact ⟨ret_bool (by simp), unhide HB⟩
  · have t1 : ((s.size : Int) == (m : Int)) = false := by rw [beq_eq_false_iff_ne]; omega
    rw [decide_eq_false h1, Bool.false_or]
    clear h1
    by_cases h2 : s.size < m
    · have t2 : (s.size : Int) < (m : Int) := by omega
      rw [decide_eq_true h2, Bool.true_and]
      clear h2
      by_cases h3 : 0 < a
      · have t3 : (0 : Int) < (a : Int) := by omega
        rw [decide_eq_true h3, Bool.true_and]
        clear h3
        go_enter Tryd.func15, Tryd.ntmps15
        go_wp2_with fail
        refine (unhide N1 _).mono ?_
        rintro e w1 ⟨rfl, b1⟩
        have HB := hide ((unhide hB0).trans (b1.mono (unhide hB0).size))
        have c2 : w1.cell? ⟨w.heap.size, 2, none⟩ = some (.bool d) := (b1.cell (p := ⟨w.heap.size, 2, none⟩) (by simp)).trans (by simp)
        clear b1
        cases q
        all_goals
          go_wp2
          go_ret
          exact ⟨ret_bool (by simp), unhide HB⟩
      · have t3 : ¬ (0 : Int) < (a : Int) := by omega
        rw [decide_eq_false h3, Bool.false_and]
        clear h3
        go_enter Tryd.func15, Tryd.ntmps15
        go_wp2
        go_ret
        exact ⟨ret_bool (by simp), unhide hB0⟩
    · have t2 : ¬ (s.size : Int) < (m : Int) := by omega
      rw [decide_eq_false h2, Bool.false_and, Bool.false_and]
      clear h2
      go_enter Tryd.func15, Tryd.ntmps15
      go_wp2
      go_ret
      exact ⟨ret_bool (by simp), unhide hB0⟩
theorem takes_any (n : Nat) (s : ByteArray) (hs : s.size ≤ maxLen) (w : World) :
    Calls Tryd.prog 15 #[formV n, .string s] w fun e w' => e = .returned (.bool (takesB n s)) ∧ Below w.heap.size w w' := takes_val (fmost n) (fahead n) (fdig n) s hs w
set_option maxHeartbeats 2000000 in
theorem bit_any (n : Nat) (h1 : 1 ≤ n) (h2 : n ≤ 16) (w : World) :
    Calls Tryd.prog 16 #[.int .i64 (n : Int)] w fun e w' => e = .returned (.int .i64 ((bitN n : Nat) : Int)) ∧ w' = w := by
  rcases one_to_16 h1 h2 with rfl | rfl | rfl | rfl | rfl | rfl | rfl | rfl | rfl | rfl | rfl | rfl | rfl | rfl | rfl | rfl
  all_goals
    clear h1 h2
    go_enter Tryd.func16, Tryd.ntmps16
    go_wp2
    go_ret
    exact ⟨rfl, rfl⟩
end Go.Proofs.YtkmmgeoialdmlaaDoor
