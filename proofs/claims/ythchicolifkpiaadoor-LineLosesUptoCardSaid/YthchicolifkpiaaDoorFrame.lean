/- A frame is made (A1): check, head and Frame of the program; Frame of the reference. -/
import Derived.Test.YthchicolifkpiaaDoorSum
import Derived.Deep.QuietTactic
import Derived.BigQuiet
namespace Go.Proofs.YthchicolifkpiaaDoor
open Go.RowKit
set_option linter.unusedVariables false

theorem bcell {W w1 : World} (hb : Below W.heap.size W w1) : (∀ b o, b < W.heap.size → w1.cell? ⟨b, o, none⟩ = W.cell? ⟨b, o, none⟩) ∧ (∀ b o, b < W.heap.size → w1.frozen? ⟨b, o, none⟩ = W.frozen? ⟨b, o, none⟩) :=
  ⟨fun b o h => hb.cell (p := ⟨b, o, none⟩) h, fun b o h => hb.frozen (p := ⟨b, o, none⟩) h⟩

/-- is it 0 or 1? -/
def turnB (n : Int) : Bool := n == 0 || n == 1
theorem turnB_iff (n : Int) : turnB n = true ↔ n = 0 ∨ n = 1 := by simp [turnB]
theorem isTurn_any (n : Int) (w : World) :
    Calls Tryd.prog 40 #[.int .i64 n] w fun e w' => e = .returned (.bool (turnB n)) ∧ w' = w := by
  by_cases h0 : n = 0
  · subst h0
    go_enter Tryd.func40, Tryd.ntmps40
    go_wp2
    go_ret
    exact ⟨rfl, rfl⟩
  · have hb : (n == 0) = false := by simpa using h0
    have HB := hide hb
    go_enter Tryd.func40, Tryd.ntmps40
    go_wp2
    go_ret
    exact ⟨ret_bool (by unfold turnB; rw [unhide HB, Bool.false_or]), rfl⟩

/-- a block as a value -/
abbrev blk (t n : Int) (m h : Bool) (b : ByteArray) : Value := .agg #[.int .i64 t, .int .i64 n, .bool m, .bool h, .string b]

/-- what is wrong with a block -/
def checkE (t n : Int) (m h : Bool) (b : ByteArray) : Int :=
  if (turnB t && turnB n) = false then 3 else if 32 < b.size then 2 else if (!h && (t != 0 || m || !b.toList.isEmpty)) = true then 1 else 0
theorem checkE_range {t n : Int} (m h : Bool) (b : ByteArray) (ht : (turnB t && turnB n) = false) : checkE t n m h b = 3 := by rw [checkE, if_pos ht]
theorem checkE_long {t n : Int} (m h : Bool) {b : ByteArray} (ht : turnB t = true) (hn : turnB n = true) (hl : 32 < b.size) : checkE t n m h b = 2 := by
  rw [checkE, if_neg (by rw [ht, hn]; decide), if_pos hl]
theorem checkE_rest {t n : Int} (m h : Bool) {b : ByteArray} (ht : turnB t = true) (hn : turnB n = true) (hl : ¬ 32 < b.size) : checkE t n m h b = if (!h && (t != 0 || m || !b.toList.isEmpty)) = true then 1 else 0 := by
  rw [checkE, if_neg (by rw [ht, hn]; decide), if_neg hl]

theorem ret_num {a b : Int} (h : a = b) : Ending.returned (.int .i64 a) = .returned (.int .i64 b) := by rw [h]

set_option maxRecDepth 100000 in
set_option maxHeartbeats 2000000 in
theorem check_any (t n : Int) (m h : Bool) (b : ByteArray) (w : World) (hb : b.size ≤ maxLen) :
    Calls Tryd.prog 35 #[blk t n m h b] w fun e w' => e = .returned (.int .i64 (checkE t n m h b)) ∧ Below w.heap.size w w' := by
  unfold maxLen at hb
  by_cases ht : turnB t = true
  · by_cases hn : turnB n = true
    · by_cases hl : 32 < b.size
      · have HE := hide (checkE_long m h ht hn hl)
        go_enter Tryd.func35, Tryd.ntmps35
        go_wp2_with (go_at_call 40; refine (isTurn_any _ _).mono ?_; rintro e w1 ⟨rfl, hw1⟩; subst hw1)
        go_ret
        exact ⟨ret_num (unhide HE).symm, (Below.refl _ _).alloc (Nat.le_refl _) _⟩
      · have HE := hide (checkE_rest m h ht hn hl)
        cases h with
        | true =>
          go_enter Tryd.func35, Tryd.ntmps35
          go_wp2_with (go_at_call 40; refine (isTurn_any _ _).mono ?_; rintro e w1 ⟨rfl, hw1⟩; subst hw1)
          go_ret
          exact ⟨ret_num (by rw [unhide HE]; rfl), (Below.refl _ _).alloc (Nat.le_refl _) _⟩
        | false =>
          by_cases h0 : t = 0
          · have t0 : (t != 0) = false := by rw [h0]; rfl
            have T0 := hide t0
            clear h0
            cases m with
            | true =>
              go_enter Tryd.func35, Tryd.ntmps35
              go_wp2_with (go_at_call 40; refine (isTurn_any _ _).mono ?_; rintro e w1 ⟨rfl, hw1⟩; subst hw1)
              go_ret
              exact ⟨ret_num (by rw [unhide HE, unhide T0]; rfl), (Below.refl _ _).alloc (Nat.le_refl _) _⟩
            | false =>
              by_cases he : b.toList.isEmpty = true
              · have E0 := hide he
                go_enter Tryd.func35, Tryd.ntmps35
                go_wp2_with (go_at_call 40; refine (isTurn_any _ _).mono ?_; rintro e w1 ⟨rfl, hw1⟩; subst hw1)
                go_ret
                exact ⟨ret_num (by rw [unhide HE, unhide T0, unhide E0]; rfl), (Below.refl _ _).alloc (Nat.le_refl _) _⟩
              · have he' : b.toList.isEmpty = false := by simpa using he
                have E0 := hide he'
                clear he
                go_enter Tryd.func35, Tryd.ntmps35
                go_wp2_with (go_at_call 40; refine (isTurn_any _ _).mono ?_; rintro e w1 ⟨rfl, hw1⟩; subst hw1)
                go_ret
                exact ⟨ret_num (by rw [unhide HE, unhide T0, unhide E0]; rfl), (Below.refl _ _).alloc (Nat.le_refl _) _⟩
          · have t0 : (t != 0) = true := by simpa using h0
            have T0 := hide t0
            clear h0
            go_enter Tryd.func35, Tryd.ntmps35
            go_wp2_with (go_at_call 40; refine (isTurn_any _ _).mono ?_; rintro e w1 ⟨rfl, hw1⟩; subst hw1)
            go_ret
            exact ⟨ret_num (by rw [unhide HE, unhide T0]; rfl), (Below.refl _ _).alloc (Nat.le_refl _) _⟩
    · have hn' : turnB n = false := by simpa using hn
      have HE := hide (checkE_range m h b (show (turnB t && turnB n) = false by rw [hn']; simp))
      clear hn
      go_enter Tryd.func35, Tryd.ntmps35
      go_wp2_with (go_at_call 40; refine (isTurn_any _ _).mono ?_; rintro e w1 ⟨rfl, hw1⟩; subst hw1)
      go_ret
      exact ⟨ret_num (unhide HE).symm, (Below.refl _ _).alloc (Nat.le_refl _) _⟩
  · have ht' : turnB t = false := by simpa using ht
    have HE := hide (checkE_range m h b (show (turnB t && turnB n) = false by rw [ht']; simp))
    clear ht
    go_enter Tryd.func35, Tryd.ntmps35
    go_wp2_with (go_at_call 40; refine (isTurn_any _ _).mono ?_; rintro e w1 ⟨rfl, hw1⟩; subst hw1)
    go_ret
    exact ⟨ret_num (unhide HE).symm, (Below.refl _ _).alloc (Nat.le_refl _) _⟩

/-- the first byte of a frame -/
def headN (t n : Int) (m h : Bool) : Int := t + 2 * n + (if m then 4 else 0) + (if h then 8 else 0)
set_option maxRecDepth 100000 in
set_option maxHeartbeats 1000000 in
theorem head_any (t n : Int) (m h : Bool) (b : ByteArray) (w : World) (t0 : 0 ≤ t) (t1 : t ≤ 1) (n0 : 0 ≤ n) (n1 : n ≤ 1) :
    Calls Tryd.prog 38 #[blk t n m h b] w fun e w' => e = .returned (.int .u8 (headN t n m h)) ∧ Below w.heap.size w w' := by
  cases m <;> cases h
  all_goals
    go_enter Tryd.func38, Tryd.ntmps38
    go_wp2
    go_ret
    refine ⟨ret_int ?_, (Below.refl _ _).alloc (Nat.le_refl _) _⟩
    simp [headN]
    omega
end Go.Proofs.YthchicolifkpiaaDoor
