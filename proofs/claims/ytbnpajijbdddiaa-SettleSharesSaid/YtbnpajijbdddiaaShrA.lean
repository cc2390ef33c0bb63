/- What is wrong with parts: checkParts of the program. -/
import Derived.Test.YtbnpajijbdddiaaShrP
import Derived.Test.YtbnpajijbdddiaaShS
import Derived.Test.YtbnpajijbdddiaaRow0
import Derived.BigQuiet
import Derived.Deep.QuietTactic
namespace Go.Proofs.Ytbnpajijbdddiaa
open Go.RowKit
set_option linter.unusedVariables false

def wrongI (x : Int) : Bool := decide (x < 0 ∨ 1000000 < x)
set_option maxHeartbeats 1000000 in
theorem wrongI_any (x : Int) (w : World) :
    Calls Try.prog 37 #[.int .i64 x] w fun e w' => e = .returned (.bool (wrongI x)) ∧ Below w.heap.size w w' := by
  by_cases h1 : x < 0
  · have HM : Hid (wrongI x = true) := hide (decide_eq_true (.inl h1))
    go_enter Try.func37, Try.ntmps37
    go_wp2
    go_ret
    exact ⟨ret_bool (unhide HM).symm, Below.refl _ _⟩
  by_cases h2 : 1000000 < x
  · have HM : Hid (wrongI x = true) := hide (decide_eq_true (.inr h2))
    have h2' : ¬ x ≤ 1000000 := by omega
    have h1' : 0 ≤ x := by omega
    go_enter Try.func37, Try.ntmps37
    go_wp2
    go_ret
    exact ⟨ret_bool (unhide HM).symm, Below.refl _ _⟩
  · have HM : Hid (wrongI x = false) := hide (decide_eq_false (by omega))
    have h2' : x ≤ 1000000 := by omega
    have h1' : 0 ≤ x := by omega
    go_enter Try.func37, Try.ntmps37
    go_wp2
    go_ret
    exact ⟨ret_bool (unhide HM).symm, Below.refl _ _⟩
set_option maxHeartbeats 1000000 in
theorem indexWi_any (l : List Int) (ao : Option Addr) (cap : Nat) (w : World) (hr : Rowint w ao l) :
    Calls Try.prog 51 #[.slice ao l.length cap, .func (.func 37) #[] #[]] w fun e w' => (∃ v : Int, e = .returned (.int .i64 v) ∧ decide (0 ≤ v) = l.any wrongI) ∧ Below w.heap.size w w' := by
  obtain ⟨hr, _, hm⟩ := hr
  go_enter Try.func51, Try.ntmps51
  go_wp2
  go_loopw [8] (fun i wr => ∃ k : Nat, k ≤ l.length ∧ i = .int .i64 k ∧ Hid ((l.take k).any wrongI = false) ∧ Below w.heap.size w wr) (fun i _ => l.length - (intOf i).toNat)
  case atStart => exact ⟨0, Nat.zero_le _, rfl, hide (by simp), Below.refl _ _⟩
  case round =>
    obtain ⟨k, hk, rfl, HA, hbw⟩ := hrel
    by_cases hlt : k < l.length
    · obtain ⟨y, hy⟩ : ∃ y, l[k]? = some y := ⟨_, List.getElem?_eq_getElem hlt⟩
      rcases hr with hnil | ⟨b, off, rfl, hb, hc⟩
      · rw [hnil] at hlt; simp at hlt
      have c0 := hc k y hy
      have d0 : wr.cell? ⟨b, off + k, none⟩ = _ := (hbw.cell (p := ⟨b, off + k, none⟩) hb).trans c0
      have hs := anyQ_take_succ l wrongI k y hy
      rw [unhide HA, Bool.false_or] at hs
      have hml : l.length ≤ 9223372036854775807 := by simpa [maxLen] using hm
      have n1 := wrongI_any y wr
      clear hc hm c0
      cases he : wrongI y with
      | true =>
        have HF := hide (anyQ_of_take l wrongI (k + 1) (hs.trans he))
        rw [he] at n1
        have N1 := hide n1
        clear hs hy n1 he
        go_wp2_with fail
        refine (unhide N1).mono ?_
        rintro e w1 ⟨rfl, hb1⟩
        go_wp2
        go_ret
        exact ⟨⟨_, rfl, by rw [unhide HF]; simp⟩, hbw.trans (hb1.mono hbw.size)⟩
      | false =>
        have HS : Hid ((l.take (k + 1)).any wrongI = false) := hide (hs.trans he)
        rw [he] at n1
        have N1 := hide n1
        clear hs hy n1 he
        go_wp2_with fail
        refine (unhide N1).mono ?_
        rintro e w1 ⟨rfl, hb1⟩
        go_wp2
        go_roundw
        case rel => exact ⟨k + 1, by omega, by go_num, HS, hbw.trans (hb1.mono hbw.size)⟩
        case measure => simp [intOf]; omega
    · have HF : Hid (l.any wrongI = false) := hide (by have := unhide HA; rw [List.take_of_length_le (by omega)] at this; exact this)
      go_wp2
      go_ret
      exact ⟨⟨_, rfl, by rw [unhide HF]; rfl⟩, hbw⟩
theorem containsWi_any (l : List Int) (ao : Option Addr) (cap : Nat) (w : World) (hr : Rowint w ao l) :
    Calls Try.prog 38 #[.slice ao l.length cap, .func (.func 37) #[] #[]] w fun e w' => e = .returned (.bool (l.any wrongI)) ∧ Below w.heap.size w w' := by
  have N1 := hide (indexWi_any l ao cap w hr)
  clear hr
  generalize l.any wrongI = q at *
  go_enter Try.func38, Try.ntmps38
  go_wp2_with fail
  refine (unhide N1).mono ?_
  rintro e w1 ⟨⟨v, rfl, hv⟩, hb1⟩
  have HV := hide hv
  clear hv
  go_wp2
  go_ret
  exact ⟨ret_bool (unhide HV), hb1⟩

def amtB (n : Int) : Bool := decide (0 ≤ n ∧ n ≤ 999999999999)
theorem isAmount_any (n : Int) (w : World) : Calls Try.prog 23 #[.int .i64 n] w fun e w' => e = .returned (.bool (amtB n)) ∧ w' = w := by
  by_cases h1 : n < 0
  · have HM : Hid (amtB n = false) := hide (decide_eq_false (by omega))
    go_enter Try.func23, Try.ntmps23
    go_wp2
    go_ret
    exact ⟨ret_bool (unhide HM).symm, rfl⟩
  by_cases h2 : 999999999999 < n
  · have HM : Hid (amtB n = false) := hide (decide_eq_false (by omega))
    have h1' : 0 ≤ n := by omega
    have h2' : ¬ n ≤ 999999999999 := by omega
    go_enter Try.func23, Try.ntmps23
    go_wp2
    go_ret
    exact ⟨ret_bool (unhide HM).symm, rfl⟩
  · have HM : Hid (amtB n = true) := hide (decide_eq_true (by omega))
    have h1' : 0 ≤ n := by omega
    have h2' : n ≤ 999999999999 := by omega
    go_enter Try.func23, Try.ntmps23
    go_wp2
    go_ret
    exact ⟨ret_bool (unhide HM).symm, rfl⟩
theorem ramount_any (n : Int) (w : World) : Calls Try.prog 22 #[.int .i64 n] w fun e w' => e = .returned (.bool (amtB n)) ∧ w' = w := by
  by_cases h1 : n < 0
  · have HM : Hid (amtB n = false) := hide (decide_eq_false (by omega))
    go_enter Try.func22, Try.ntmps22
    go_wp2
    go_ret
    exact ⟨ret_bool (unhide HM).symm, rfl⟩
  by_cases h2 : 999999999999 < n
  · have HM : Hid (amtB n = false) := hide (decide_eq_false (by omega))
    have h1' : 0 ≤ n := by omega
    have h2' : ¬ n ≤ 999999999999 := by omega
    go_enter Try.func22, Try.ntmps22
    go_wp2
    go_ret
    exact ⟨ret_bool (unhide HM).symm, rfl⟩
  · have HM : Hid (amtB n = true) := hide (decide_eq_true (by omega))
    have h1' : 0 ≤ n := by omega
    have h2' : n ≤ 999999999999 := by omega
    go_enter Try.func22, Try.ntmps22
    go_wp2
    go_ret
    exact ⟨ret_bool (unhide HM).symm, rfl⟩
/-- all parts together -/
def allS (ps : List Int) : Int := sumTo (pt ps) ps.length
def partE (A : Int) (ps : List Int) : Int := bif (!amtB A || ps.any wrongI) then 3 else if 1000 < ps.length then 2 else if allS ps = 0 then 1 else 0
theorem pt_in {ps : List Int} (hw : ∀ x ∈ ps, wrongI x = false) (i : Nat) : 0 ≤ pt ps i ∧ pt ps i ≤ 1000000 := by
  unfold pt
  rw [List.getD_eq_getElem?_getD]
  cases h : ps[i]? with
  | none => simp
  | some x =>
    have := of_decide_eq_false (hw x (List.mem_of_getElem? h))
    simp; omega
theorem pt_at {ps : List Int} {i : Nat} {x : Int} (h : ps[i]? = some x) : pt ps i = x := by simp [pt, h]
theorem sum_in {ps : List Int} (hw : ∀ x ∈ ps, wrongI x = false) (k : Nat) (hk : k ≤ 1000) : 0 ≤ sumTo (pt ps) k ∧ sumTo (pt ps) k ≤ 1000000000 := by
  have h1 := sumTo_nonneg (pt ps) k (fun i _ => (pt_in hw i).1)
  have h2 := sumTo_le (pt ps) 1000000 k (fun i _ => (pt_in hw i).2)
  omega
theorem partE_zero {A : Int} {ps : List Int} (h : partE A ps = 0) : (0 ≤ A ∧ A ≤ 999999999999) ∧ (∀ x ∈ ps, wrongI x = false) ∧ ps.length ≤ 1000 ∧ allS ps ≠ 0 := by
  unfold partE at h
  cases h1 : amtB A with
  | false => rw [h1] at h; cases h
  | true =>
  cases h2 : ps.any wrongI with
  | true => rw [h1, h2] at h; cases h
  | false =>
  rw [h1, h2] at h
  by_cases h3 : 1000 < ps.length
  · simp only [Bool.not_true, Bool.or_false, cond_false, if_pos h3] at h; cases h
  · by_cases h4 : allS ps = 0
    · simp only [Bool.not_true, Bool.or_false, cond_false, if_neg h3, if_pos h4] at h; cases h
    · exact ⟨of_decide_eq_true h1, anyQ_false h2, by omega, h4⟩
set_option maxHeartbeats 2000000 in
theorem checkParts_any (A : Int) (ps : List Int) (ao : Option Addr) (cap : Nat) (w : World) (hr : Rowint w ao ps) :
    Calls Try.prog 17 #[.int .i64 A, .slice ao ps.length cap] w fun e w' => e = .returned (.tuple #[.int .i64 (if partE A ps = 0 then allS ps else 0), .int .i64 (partE A ps)]) ∧ Below w.heap.size w w' := by
  have n0 := fun w' => isAmount_any A w'
  have n1 := fun w' (hb : Below w.heap.size w w') => containsWi_any ps ao cap w' (hr.below hb)
  cases hA : amtB A with
  | false =>
    have he : partE A ps = 3 := by unfold partE; rw [hA]; rfl
    rw [he, if_neg (by decide)]
    rw [hA] at n0
    have N0 := hide n0
    clear n0 n1 hr hA he
    go_enter Try.func17, Try.ntmps17
    go_wp2_with fail
    refine (unhide N0 _).mono ?_
    rintro e w1 ⟨rfl, rfl⟩
    go_wp2
    go_ret2
    exact ⟨rfl, Below.refl _ _⟩
  | true =>
  rw [hA] at n0
  cases hq : ps.any wrongI with
  | true =>
    have he : partE A ps = 3 := by unfold partE; rw [hA, hq]; rfl
    rw [he, if_neg (by decide)]
    rw [hq] at n1
    have N0 := hide n0; have N1 := hide n1
    clear n0 n1 hr hA he hq
    go_enter Try.func17, Try.ntmps17
    go_wp2_with fail
    refine (unhide N0 _).mono ?_
    rintro e w1 ⟨rfl, rfl⟩
    go_wp2_with fail
    refine (unhide N1 _ (Below.refl _ _)).mono ?_
    rintro e w2 ⟨rfl, hb2⟩
    go_wp2
    go_ret2
    exact ⟨rfl, hb2⟩
  | false =>
  rw [hq] at n1
  have hw := anyQ_false hq
  have hE0 : partE A ps = if 1000 < ps.length then 2 else if allS ps = 0 then 1 else 0 := by unfold partE; rw [hA, hq]; rfl
  by_cases hl : 1000 < ps.length
  · have he : partE A ps = 2 := by rw [hE0, if_pos hl]
    rw [he, if_neg (by decide)]
    have N0 := hide n0; have N1 := hide n1
    have hl' : (1000 : Int) < (ps.length : Int) := by omega
    clear n0 n1 hr hA he hq hE0 hl hw
    go_enter Try.func17, Try.ntmps17
    go_wp2_with fail
    refine (unhide N0 _).mono ?_
    rintro e w1 ⟨rfl, rfl⟩
    go_wp2_with fail
    refine (unhide N1 _ (Below.refl _ _)).mono ?_
    rintro e w2 ⟨rfl, hb2⟩
    go_wp2
    go_ret2
    exact ⟨rfl, hb2⟩
  rw [if_neg hl] at hE0
  have hl' : (ps.length : Int) ≤ 1000 := by omega
  obtain ⟨hr, _, _⟩ := hr
  have N0 := hide n0; have N1 := hide n1; have HE := hide hE0; have HW := hide hw; have HR := hide hr
  clear n0 n1 hr hA hq hE0 hw hl
  generalize hrv : (if partE A ps = 0 then allS ps else 0) = rv
  have HRV := hide hrv
  clear hrv
  generalize hpe : partE A ps = pe at *
  have HPE := hide hpe
  clear hpe
  go_enter Try.func17, Try.ntmps17
  go_wp2_with fail
  refine (unhide N0 _).mono ?_
  rintro e w1 ⟨rfl, rfl⟩
  go_wp2_with fail
  refine (unhide N1 _ (Below.refl _ _)).mono ?_
  rintro e w2 ⟨rfl, hb2⟩
  go_wp2
  go_loopw [7, 25] (fun t i wr => ∃ k : Nat, k ≤ ps.length ∧ i = .int .i64 k ∧ t = .int .i64 (sumTo (pt ps) k) ∧ wr = w2) (fun _ i _ => ps.length - (intOf i).toNat)
  case atStart => exact ⟨0, Nat.zero_le _, rfl, rfl, rfl⟩
  case round =>
    obtain ⟨k, hk, rfl, rfl, rfl⟩ := hrel
    have hsb := sum_in (unhide HW) k (by omega)
    obtain ⟨s1, s2⟩ := hsb
    by_cases hlt : k < ps.length
    · obtain ⟨y, hy⟩ : ∃ y, ps[k]? = some y := ⟨_, List.getElem?_eq_getElem hlt⟩
      rcases (unhide HR) with hnil | ⟨b, off, rfl, hb, hc⟩
      · rw [hnil] at hlt; simp at hlt
      have c0 := hc k y hy
      have d0 : wr.cell? ⟨b, off + k, none⟩ = _ := (hb2.cell (p := ⟨b, off + k, none⟩) hb).trans c0
      have hsn : sumTo (pt ps) (k + 1) = sumTo (pt ps) k + y := by rw [sumTo, pt_at hy]
      have hsb2 := sum_in (unhide HW) (k + 1) (by omega)
      rw [hsn] at hsb2
      obtain ⟨s3, s4⟩ := hsb2
      have HSN := hide hsn
      generalize sumTo (pt ps) k = S at *
      clear hc c0 hy hsn
      go_wp2
      go_roundw
      case rel => exact ⟨k + 1, by omega, by go_num, by rw [unhide HSN], by first | trivial | rfl⟩
      case measure => simp [intOf]; omega
    · have hkl : k = ps.length := by omega
      have hall : sumTo (pt ps) k = allS ps := by rw [hkl]; rfl
      rw [hall] at s1 s2 ⊢
      clear hall hkl
      have HX := unhide HE
      clear HE
      generalize allS ps = S at *
      by_cases hS : S = 0
      · rw [if_pos hS] at HX
        have hv : rv = 0 := by have := unhide HRV; rw [← this, HX]; simp
        subst hS
        subst HX
        subst hv
        clear HRV
        go_wp2
        go_ret2
        exact ⟨rfl, hb2⟩
      · rw [if_neg hS] at HX
        have hv : rv = S := by have := unhide HRV; rw [← this, HX, if_pos rfl]
        subst HX
        subst hv
        clear HRV
        have hS' : (rv == 0) = false := by simpa using hS
        go_wp2
        go_ret2
        exact ⟨rfl, hb2⟩
end Go.Proofs.Ytbnpajijbdddiaa
