/- host's CardKey, and the document's. -/
import Derived.Test.YtbiipeapcclbkaaDoorDig
import Derived.Test.YtbiipeapcclbkaaDoorMillS
namespace Go.Proofs.YtbiipeapcclbkaaDoor
open Go.RowKit
set_option linter.unusedVariables false

theorem hwithin_any (n lo hi : Int) (w : World) :
    Calls Tryd.prog 15 #[.int .i64 n, .int .i64 lo, .int .i64 hi] w fun e w' => e = .returned (.bool (inB n lo hi)) ∧ w' = w := by
  by_cases h1 : lo ≤ n
  · have HQ : Hid (inB n lo hi = decide (n ≤ hi)) := hide (decide_eq_decide.2 (by omega))
    go_enter Tryd.func15, Tryd.ntmps15
    go_wp2
    go_ret
    exact ⟨ret_bool (unhide HQ).symm, rfl⟩
  · have HQ : Hid (inB n lo hi = false) := hide (decide_eq_false (by omega))
    go_enter Tryd.func15, Tryd.ntmps15
    go_wp2
    go_ret
    exact ⟨ret_bool (unhide HQ).symm, rfl⟩
theorem digitsB_as (s : ByteArray) (lo hi : Int) : digitsB s lo hi = (inB s.size lo hi && allDig s) := by
  unfold digitsB
  rw [digB_all, Bool.and_comm]
set_option maxHeartbeats 1000000 in
theorem areDigits_any (s : ByteArray) (lo hi : Int) (hs : s.size ≤ maxLen) (w : World) :
    Calls Tryd.prog 10 #[.string s, .int .i64 lo, .int .i64 hi] w fun e w' => e = .returned (.bool (digitsB s lo hi)) ∧ Below w.heap.size w w' := by
  have N0 := hide (fun w' => hwithin_any (s.size : Int) lo hi w')
  have N1 := hide (fun w' => trim_any s w' (by unfold maxLen at hs; omega))
  have HD := hide (digitsB_as s lo hi)
  generalize digitsB s lo hi = db at *
  generalize allDig s = ad at *
  unfold digitsT at N1
  clear hs
  cases hi2 : inB s.size lo hi with
  | false =>
    rw [hi2] at N0 HD
    have HQ : Hid (db = false) := hide ((unhide HD).trans rfl)
    clear hi2
    go_enter Tryd.func10, Tryd.ntmps10
    go_wp2_with fail
    refine (unhide N0 _).mono ?_
    rintro e w1 ⟨rfl, hw1⟩
    have hw2 := hw1.symm
    subst hw2
    go_wp2
    go_ret
    exact ⟨ret_bool (unhide HQ).symm, Below.refl _ _⟩
  | true =>
    rw [hi2] at N0 HD
    have HQ : Hid (db = ad) := hide ((unhide HD).trans (Bool.true_and _))
    clear hi2
    go_enter Tryd.func10, Tryd.ntmps10
    go_wp2_with fail
    refine (unhide N0 _).mono ?_
    rintro e w1 ⟨rfl, hw1⟩
    have hw2 := hw1.symm
    subst hw2
    go_wp2_with fail
    refine (unhide N1 _).mono ?_
    rintro e w2 ⟨hb, t, rfl, ht⟩
    have HT := hide (ht.trans (unhide HQ).symm)
    clear ht
    go_wp2
    go_ret
    exact ⟨ret_bool (unhide HT), hb⟩
def cardWord : ByteArray := ⟨#[99, 97, 114, 100]⟩
/-- a card's key, and what is wrong -/
def ckE (m i : ByteArray) : Int := if m.size = 16 ∧ digitsB i 8 19 = true then 0 else 1
def ckS (m i : ByteArray) : ByteArray := if m.size = 16 ∧ digitsB i 8 19 = true then deriveS m cardWord i else ⟨#[]⟩
theorem digits_19 {i : ByteArray} (h : digitsB i 8 19 = true) : i.size ≤ 19 := by
  rw [digitsB_as, Bool.and_eq_true] at h
  have := inB_true.1 h.1
  omega
set_option maxHeartbeats 1000000 in
theorem cardKey_any (m i : ByteArray) (hi : i.size ≤ maxLen) (w : World) :
    Calls Tryd.prog 4 #[.string m, .string i] w fun e w' => e = .returned (.tuple #[.string (ckS m i), .int .i64 (ckE m i)]) ∧ Below w.heap.size w w' := by
  have N0 := hide (fun w' => areDigits_any i 8 19 hi w')
  clear hi
  cases hd : digitsB i 8 19 with
  | false =>
    have h1 : ckE m i = 1 := by unfold ckE; rw [hd]; simp
    have h2 : ckS m i = ⟨#[]⟩ := by unfold ckS; rw [hd]; simp
    rw [hd] at N0
    rw [h1, h2]
    clear h1 h2 hd
    go_enter Tryd.func4, Tryd.ntmps4
    go_wp2_with fail
    refine (unhide N0 _).mono ?_
    rintro e w1 ⟨rfl, hb1⟩
    go_wp2
    go_ret2
    exact ⟨rfl, hb1⟩
  | true =>
    have h19 := digits_19 hd
    rw [hd] at N0
    by_cases hm : m.size = 16
    · have h1 : ckE m i = 0 := by unfold ckE; rw [hd]; simp [hm]
      have h2 : ckS m i = deriveS m cardWord i := by unfold ckS; rw [hd]; simp [hm]
      have N1 := hide (fun w' => derive_yes m cardWord i hm (by decide) (by omega) w')
      rw [h1, h2]
      generalize deriveS m cardWord i = ds at *
      unfold cardWord at N1
      clear h1 h2 hd h19
      go_enter Tryd.func4, Tryd.ntmps4
      go_wp2_with fail
      refine (unhide N0 _).mono ?_
      rintro e w1 ⟨rfl, hb1⟩
      go_wp2_with fail
      refine (unhide N1 _).mono ?_
      rintro e w2 ⟨rfl, hb2⟩
      go_wp2
      go_ret2
      exact ⟨rfl, hb1.trans (hb2.mono hb1.size)⟩
    · have h1 : ckE m i = 1 := by unfold ckE; simp [hm]
      have h2 : ckS m i = ⟨#[]⟩ := by unfold ckS; simp [hm]
      have N1 := hide (fun w' => derive_no m cardWord i hm w')
      rw [h1, h2]
      unfold cardWord at N1
      clear h1 h2 hd h19
      go_enter Tryd.func4, Tryd.ntmps4
      go_wp2_with fail
      refine (unhide N0 _).mono ?_
      rintro e w1 ⟨rfl, hb1⟩
      go_wp2_with fail
      refine (unhide N1 _).mono ?_
      rintro e w2 ⟨rfl, hw2⟩
      have hw3 := hw2.symm
      subst hw3
      go_wp2
      go_ret2
      exact ⟨rfl, hb1⟩
set_option maxHeartbeats 1000000 in
theorem rcardKey_any (m i : ByteArray) (hi : i.size ≤ maxLen) (w : World) :
    Calls Tryd.prog 5 #[.string m, .string i] w fun e w' => e = .returned (.tuple #[.string (ckS m i), .int .i64 (ckE m i)]) ∧ Below w.heap.size w w' := by
  have N0 := hide (fun w' => rdigits_any i 8 19 hi w')
  clear hi
  by_cases hm : m.size = 16
  · have hmi : ¬ ((m.size : Int) = 16) = False := by simp [hm]
    cases hd : digitsB i 8 19 with
    | false =>
      have h1 : ckE m i = 1 := by unfold ckE; rw [hd]; simp
      have h2 : ckS m i = ⟨#[]⟩ := by unfold ckS; rw [hd]; simp
      rw [hd] at N0
      rw [h1, h2]
      clear h1 h2 hd hmi
      go_enter Tryd.func5, Tryd.ntmps5
      go_wp2_with fail
      refine (unhide N0 _).mono ?_
      rintro e w1 ⟨rfl, hw1⟩
      have hw2 := hw1.symm
      subst hw2
      go_wp2
      go_ret2
      exact ⟨rfl, Below.refl _ _⟩
    | true =>
      have h19 := digits_19 hd
      have h1 : ckE m i = 0 := by unfold ckE; rw [hd]; simp [hm]
      have h2 : ckS m i = deriveS m cardWord i := by unfold ckS; rw [hd]; simp [hm]
      have N1 := hide (fun w' => rderive_any m cardWord i hm (by decide) (by omega) w')
      rw [hd] at N0
      rw [h1, h2]
      generalize deriveS m cardWord i = ds at *
      unfold cardWord at N1
      clear h1 h2 hd h19 hmi
      go_enter Tryd.func5, Tryd.ntmps5
      go_wp2_with fail
      refine (unhide N0 _).mono ?_
      rintro e w1 ⟨rfl, hw1⟩
      have hw2 := hw1.symm
      subst hw2
      go_wp2_with fail
      refine (unhide N1 _).mono ?_
      rintro e w2 ⟨rfl, hb2⟩
      go_wp2
      go_ret2
      exact ⟨rfl, hb2⟩
  · have h1 : ckE m i = 1 := by unfold ckE; simp [hm]
    have h2 : ckS m i = ⟨#[]⟩ := by unfold ckS; simp [hm]
    have hmi : ¬ (m.size : Int) = 16 := by omega
    rw [h1, h2]
    clear h1 h2
    go_enter Tryd.func5, Tryd.ntmps5
    go_wp2
    go_ret2
    exact ⟨rfl, Below.refl _ _⟩
end Go.Proofs.YtbiipeapcclbkaaDoor
