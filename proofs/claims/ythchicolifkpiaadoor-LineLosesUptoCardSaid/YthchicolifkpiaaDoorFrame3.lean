/- Frame of the reference (A1); and of the program where the block is none. -/
import Derived.Test.YthchicolifkpiaaDoorFrame2
namespace Go.Proofs.YthchicolifkpiaaDoor
open Go.RowKit
set_option linter.unusedVariables false
attribute [local go_sem ↓] Go.wp_at_zero Go.wp_at_succ

set_option maxRecDepth 100000 in
set_option maxHeartbeats 2000000 in
theorem frame_no (t n : Int) (m h : Bool) (b : ByteArray) (w : World) (he : checkE t n m h b ≠ 0) (hb : b.size ≤ maxLen) :
    Calls Tryd.prog 31 #[blk t n m h b] w fun e w' => e = .returned (.tuple #[.string ⟨#[]⟩, .int .i64 (checkE t n m h b)]) ∧ Below w.heap.size w w' := by
  have hc := fun w => check_any t n m h b w hb
  generalize checkE t n m h b = er at *
  have he' : (er != 0) = true := by simpa using he
  have HC := hide hc
  clear hc he
  go_enter Tryd.func31, Tryd.ntmps31
  go_wp2_with fail
  refine (unhide HC _).mono ?_
  rintro e w1 ⟨rfl, hb1⟩
  have hbw : Below w.heap.size w w1 := ((Below.refl _ _).alloc (Nat.le_refl _) _).trans (hb1.mono (by simp))
  clear hb1
  go_wp2
  go_ret2
  exact ⟨rfl, hbw⟩

theorem turn_half (t : Int) : turnB t = true ↔ (t.tdiv 2 != 0) = false ∧ ¬ t < 0 := by
  rw [turnB_iff]
  constructor
  · rintro (rfl | rfl) <;> decide
  · rintro ⟨a, b⟩
    have a' : t.tdiv 2 = 0 := by simpa using a
    rw [Int.tdiv_eq_ediv_of_nonneg (by omega)] at a'
    omega

set_option maxRecDepth 100000 in
set_option maxHeartbeats 2000000 in
theorem rframe_range (t n : Int) (m h : Bool) (b : ByteArray) (w : World) (ht : (turnB t && turnB n) = false) (p0 : -9223372036854775808 ≤ t) (p1 : t ≤ 9223372036854775807) (q0 : -9223372036854775808 ≤ n) (q1 : n ≤ 9223372036854775807) :
    Calls Tryd.prog 29 #[blk t n m h b] w fun e w' => e = .returned (.tuple #[.string ⟨#[]⟩, .int .i64 3]) ∧ Below w.heap.size w w' := by
  have k1 := turn_half t
  have k2 := turn_half n
  cases c1 : (t.tdiv 2 != 0) with
  | true =>
    clear k1 k2 ht
    go_enter Tryd.func29, Tryd.ntmps29
    go_wp2
    go_ret2
    exact ⟨rfl, (Below.refl _ _).alloc (Nat.le_refl _) _⟩
  | false =>
    cases c2 : (n.tdiv 2 != 0) with
    | true =>
      clear k1 k2 ht
      go_enter Tryd.func29, Tryd.ntmps29
      go_wp2
      go_ret2
      exact ⟨rfl, (Below.refl _ _).alloc (Nat.le_refl _) _⟩
    | false =>
      by_cases c3 : t < 0
      · have b3 : decide (t < 0) = true := decide_eq_true c3
        clear k1 k2 ht
        go_enter Tryd.func29, Tryd.ntmps29
        go_wp2
        go_ret2
        exact ⟨rfl, (Below.refl _ _).alloc (Nat.le_refl _) _⟩
      · have c4 : n < 0 := by
          rcases Int.lt_or_le n 0 with h | h
          · exact h
          · rw [k1.2 ⟨c1, c3⟩, k2.2 ⟨c2, by omega⟩] at ht
            simp at ht
        have c3' : 0 ≤ t := by omega
        have c5 : t ≤ 1 := by have := (turnB_iff t).1 (k1.2 ⟨c1, c3⟩); omega
        clear k1 k2 ht c3 c1
        go_enter Tryd.func29, Tryd.ntmps29
        go_wp2
        go_ret2
        exact ⟨rfl, (Below.refl _ _).alloc (Nat.le_refl _) _⟩

set_option maxRecDepth 100000 in
set_option maxHeartbeats 2000000 in
theorem rframe_long (t n : Int) (m h : Bool) (b : ByteArray) (w : World) (t0 : 0 ≤ t) (t1 : t ≤ 1) (n0 : 0 ≤ n) (n1 : n ≤ 1) (hb : 32 < b.size) (hm : b.size ≤ 9223372036854775807) :
    Calls Tryd.prog 29 #[blk t n m h b] w fun e w' => e = .returned (.tuple #[.string ⟨#[]⟩, .int .i64 2]) ∧ Below w.heap.size w w' := by
  go_enter Tryd.func29, Tryd.ntmps29
  go_wp2
  go_ret2
  exact ⟨rfl, (Below.refl _ _).alloc (Nat.le_refl _) _⟩

set_option maxRecDepth 100000 in
set_option maxHeartbeats 2000000 in
theorem rframe_form (t n : Int) (m : Bool) (b : ByteArray) (w : World) (t0 : 0 ≤ t) (t1 : t ≤ 1) (n0 : 0 ≤ n) (n1 : n ≤ 1) (hb : b.size ≤ 32) (hf : (t != 0 || m || !b.toList.isEmpty) = true) :
    Calls Tryd.prog 29 #[blk t n m false b] w fun e w' => e = .returned (.tuple #[.string ⟨#[]⟩, .int .i64 1]) ∧ Below w.heap.size w w' := by
  by_cases c0 : t = 0
  · have c0' : t ≤ 0 := by omega
    cases m with
    | true =>
      clear hf c0
      go_enter Tryd.func29, Tryd.ntmps29
      go_wp2
      go_ret2
      exact ⟨rfl, (Below.refl _ _).alloc (Nat.le_refl _) _⟩
    | false =>
      have he : ¬ b.toList = [] := by
        intro h
        rw [c0, h] at hf
        simp at hf
      have he' : b.toList.isEmpty = false := by simpa using he
      clear hf c0
      go_enter Tryd.func29, Tryd.ntmps29
      go_wp2
      all_goals
        go_ret2
        exact ⟨rfl, (Below.refl _ _).alloc (Nat.le_refl _) _⟩
  · have c0' : 1 ≤ t := by omega
    clear hf
    go_enter Tryd.func29, Tryd.ntmps29
    go_wp2
    all_goals
      go_ret2
      exact ⟨rfl, (Below.refl _ _).alloc (Nat.le_refl _) _⟩

theorem bytes_two (x y : Int) (b off cap : Nat) (w : World) (hbB : b < w.heap.size) (hc : w.cell? ⟨b, off, none⟩ = some (.int .i64 x)) (hd : w.cell? ⟨b, off + 1, none⟩ = some (.int .i64 y)) :
    Calls Tryd.prog 37 #[.slice (some ⟨b, off, none⟩) 2 cap] w fun e w' => e = .returned (.string (strOfNums [lowByte x, lowByte y])) ∧ Below w.heap.size w w' :=
  bytes_any [x, y] b off 2 cap w rfl (by omega) hbB (fun i hi => by
    have h2 : i = 0 ∨ i = 1 := by omega
    rcases h2 with h | h
    · subst h; exact hc
    · subst h; exact hd)

theorem frame_parts (t n : Int) (m h : Bool) (b : ByteArray) :
    frameS t n m h b = (strOfNums [headN t n m h, (b.size : Int)] ++ b) ++ strOfNums (bigL (sumN (strOfNums [headN t n m h, (b.size : Int)] ++ b).data.toList) 2) := by
  have hdx : (strOfNums [headN t n m h, (b.size : Int)] ++ b).data.toList = frameL t n m h b := by
    rw [ByteArray.data_append, Array.toList_append, strOfNums_data]; simp [frameL]
  rw [hdx, frameS, ← hdx]

set_option maxRecDepth 100000 in
set_option maxHeartbeats 2000000 in
theorem rframe_none (n : Int) (b : ByteArray) (w : World) (n0 : 0 ≤ n) (n1 : n ≤ 1) (hb : b.size ≤ 32) (he' : b.toList.isEmpty = true) :
    Calls Tryd.prog 29 #[blk 0 n false false b] w fun e w' => e = .returned (.tuple #[.string (frameS 0 n false false b), .int .i64 0]) ∧ Below w.heap.size w w' := by
  have hsz : ∀ x y : Int, (strOfNums [x, y]).size = 2 := fun x y => by rw [strOfNums_size]; rfl
  go_enter Tryd.func29, Tryd.ntmps29
  go_wp2_with fail
  go_cut [5] (fun s wx => s = .string (strOfNums [lowByte (2 * n), lowByte (b.size : Int)] ++ b) ∧ Below w.heap.size w wx)
  case first =>
    go_region_with ((go_at_call 37; refine (bytes_two (2 * n) (b.size : Int) _ _ _ _ (by simp) (by simp) (by simp)).mono ?_; rintro e w2 ⟨rfl, hb2⟩; have d4 := below_keep hb2 (a := ⟨w.heap.size, 4, none⟩) (v := .string b) (by simp); have z2 : w.heap.size < w2.heap.size := World.block_lt_of_cell? _ _ d4))
    all_goals
      go_wp2_with fail
      go_meet
      case rel => exact ⟨rfl, ((((Below.refl _ _).alloc (Nat.le_refl _) _).alloc (by simp) _).drew).trans (hb2.mono (by simp; omega))⟩
  case rest =>
    obtain ⟨rfl, hbx⟩ := hcut
    rw [show lowByte (2 * n) = headN 0 n false false by unfold lowByte; simp [headN]; omega, show lowByte (b.size : Int) = (b.size : Int) by unfold lowByte; omega]
    have HF := hide (frame_parts 0 n false false b)
    have hsx : (strOfNums [headN 0 n false false, (b.size : Int)] ++ b).size ≤ 34 := by rw [ByteArray.size_append, strOfNums_size]; simp; omega
    generalize strOfNums [headN 0 n false false, (b.size : Int)] ++ b = s at *
    have hx6 := sumN_lt s.data.toList
    have hsz2 : (strOfNums (bigL (sumN s.data.toList) 2)).size = 2 := by rw [strOfNums_size, bigL_length]
    go_wp2_with fail
    refine (rsum_any s _ (by unfold maxLen; omega)).mono ?_
    rintro e w3 ⟨rfl, hb3⟩
    go_wp2
    go_ret2
    exact ⟨by rw [unhide HF]; rfl, hbx.trans (hb3.mono hbx.size)⟩

set_option maxRecDepth 100000 in
set_option maxHeartbeats 2000000 in
theorem rframe_last (t n : Int) (b : ByteArray) (w : World) (t0 : 0 ≤ t) (t1 : t ≤ 1) (n0 : 0 ≤ n) (n1 : n ≤ 1) (hb : b.size ≤ 32) :
    Calls Tryd.prog 29 #[blk t n false true b] w fun e w' => e = .returned (.tuple #[.string (frameS t n false true b), .int .i64 0]) ∧ Below w.heap.size w w' := by
  have hsz : ∀ x y : Int, (strOfNums [x, y]).size = 2 := fun x y => by rw [strOfNums_size]; rfl
  go_enter Tryd.func29, Tryd.ntmps29
  go_wp2_with fail
  go_cut [5] (fun s wx => s = .string (strOfNums [lowByte (t + 2 * n + 8), lowByte (b.size : Int)] ++ b) ∧ Below w.heap.size w wx)
  case first =>
    go_region_with ((go_at_call 37; refine (bytes_two (t + 2 * n + 8) (b.size : Int) _ _ _ _ (by simp) (by simp) (by simp)).mono ?_; rintro e w2 ⟨rfl, hb2⟩; have d4 := below_keep hb2 (a := ⟨w.heap.size, 4, none⟩) (v := .string b) (by simp); have z2 : w.heap.size < w2.heap.size := World.block_lt_of_cell? _ _ d4))
    all_goals
      go_wp2_with fail
      go_meet
      case rel => exact ⟨rfl, ((((Below.refl _ _).alloc (Nat.le_refl _) _).alloc (by simp) _).drew).trans (hb2.mono (by simp; omega))⟩
  case rest =>
    obtain ⟨rfl, hbx⟩ := hcut
    rw [show lowByte (t + 2 * n + 8) = headN t n false true by unfold lowByte; simp [headN]; omega, show lowByte (b.size : Int) = (b.size : Int) by unfold lowByte; omega]
    have HF := hide (frame_parts t n false true b)
    have hsx : (strOfNums [headN t n false true, (b.size : Int)] ++ b).size ≤ 34 := by rw [ByteArray.size_append, strOfNums_size]; simp; omega
    generalize strOfNums [headN t n false true, (b.size : Int)] ++ b = s at *
    have hx6 := sumN_lt s.data.toList
    have hsz2 : (strOfNums (bigL (sumN s.data.toList) 2)).size = 2 := by rw [strOfNums_size, bigL_length]
    go_wp2_with fail
    refine (rsum_any s _ (by unfold maxLen; omega)).mono ?_
    rintro e w3 ⟨rfl, hb3⟩
    go_wp2
    go_ret2
    exact ⟨by rw [unhide HF]; rfl, hbx.trans (hb3.mono hbx.size)⟩

set_option maxRecDepth 100000 in
set_option maxHeartbeats 2000000 in
theorem rframe_more (t n : Int) (b : ByteArray) (w : World) (t0 : 0 ≤ t) (t1 : t ≤ 1) (n0 : 0 ≤ n) (n1 : n ≤ 1) (hb : b.size ≤ 32) :
    Calls Tryd.prog 29 #[blk t n true true b] w fun e w' => e = .returned (.tuple #[.string (frameS t n true true b), .int .i64 0]) ∧ Below w.heap.size w w' := by
  have hsz : ∀ x y : Int, (strOfNums [x, y]).size = 2 := fun x y => by rw [strOfNums_size]; rfl
  go_enter Tryd.func29, Tryd.ntmps29
  go_wp2_with fail
  go_cut [5] (fun s wx => s = .string (strOfNums [lowByte (t + 2 * n + 4 + 8), lowByte (b.size : Int)] ++ b) ∧ Below w.heap.size w wx)
  case first =>
    go_region_with ((go_at_call 37; refine (bytes_two (t + 2 * n + 4 + 8) (b.size : Int) _ _ _ _ (by simp) (by simp) (by simp)).mono ?_; rintro e w2 ⟨rfl, hb2⟩; have d4 := below_keep hb2 (a := ⟨w.heap.size, 4, none⟩) (v := .string b) (by simp); have z2 : w.heap.size < w2.heap.size := World.block_lt_of_cell? _ _ d4))
    all_goals
      go_wp2_with fail
      go_meet
      case rel => exact ⟨rfl, ((((Below.refl _ _).alloc (Nat.le_refl _) _).alloc (by simp) _).drew).trans (hb2.mono (by simp; omega))⟩
  case rest =>
    obtain ⟨rfl, hbx⟩ := hcut
    rw [show lowByte (t + 2 * n + 4 + 8) = headN t n true true by unfold lowByte; simp [headN]; omega, show lowByte (b.size : Int) = (b.size : Int) by unfold lowByte; omega]
    have HF := hide (frame_parts t n true true b)
    have hsx : (strOfNums [headN t n true true, (b.size : Int)] ++ b).size ≤ 34 := by rw [ByteArray.size_append, strOfNums_size]; simp; omega
    generalize strOfNums [headN t n true true, (b.size : Int)] ++ b = s at *
    have hx6 := sumN_lt s.data.toList
    have hsz2 : (strOfNums (bigL (sumN s.data.toList) 2)).size = 2 := by rw [strOfNums_size, bigL_length]
    go_wp2_with fail
    refine (rsum_any s _ (by unfold maxLen; omega)).mono ?_
    rintro e w3 ⟨rfl, hb3⟩
    go_wp2
    go_ret2
    exact ⟨by rw [unhide HF]; rfl, hbx.trans (hb3.mono hbx.size)⟩

end Go.Proofs.YthchicolifkpiaaDoor
