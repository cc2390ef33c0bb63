/- What is wrong with applications: Check of the program. -/
import Derived.Test.YtfpglpefofcdeaaGreatDoorM20
import Derived.Lib.Strings
namespace Go.Proofs.YtfpglpefofcdeaaGreatDoor
open Go.RowKit
set_option linter.unusedVariables false

theorem anyP_take_succ {α : Type} (l : List α) (p : α → Bool) (k : Nat) (y : α) (h : l[k]? = some y) : (l.take (k + 1)).any p = ((l.take k).any p || p y) := by
  obtain ⟨hk, rfl⟩ := List.getElem?_eq_some_iff.1 h
  rw [List.take_succ_eq_append_getElem hk, List.any_append]
  simp
theorem anyP_of_take {α : Type} (l : List α) (p : α → Bool) (k : Nat) (h : (l.take k).any p = true) : l.any p = true := by
  have e := List.take_append_drop k l
  rw [← e, List.any_append, h, Bool.true_or]

def misB (x : XApp) : Bool := decide (x.name.size < 5 ∨ 16 < x.name.size ∨ x.label.size = 0 ∨ 64 < x.label.size)
def prioB (x : XApp) : Bool := decide (x.prio < 0 ∨ 15 < x.prio)
def knoB (x : XKnown) : Bool := decide (x.name.size = 0 ∨ 16 < x.name.size)
theorem empty_iff (s : ByteArray) : s.toList.isEmpty = decide (s.size = 0) := by
  rw [Lib.toList_data]
  have e : s.size = s.data.toList.length := by simp
  rw [e]
  generalize s.data.toList = m
  cases m <;> simp

set_option maxHeartbeats 1000000 in
theorem mis_any (x : XApp) (w : World) :
    Calls Tryz.prog 108 #[valApp x] w fun e w' => e = .returned (.bool (misB x)) ∧ Below w.heap.size w w' := by
  obtain ⟨nm, lb, pr, cf⟩ := x
  have he := empty_iff lb
  have hbx := fun o : Obj => (Below.refl w.heap.size w).alloc (Nat.le_refl _) o
  have HB := hide hbx
  clear hbx
  unfold valApp
  simp only
  have hcase : nm.size < 5 ∨ (5 ≤ nm.size ∧ 16 < nm.size) ∨ (5 ≤ nm.size ∧ nm.size ≤ 16 ∧ lb.size = 0) ∨ (5 ≤ nm.size ∧ nm.size ≤ 16 ∧ lb.size ≠ 0) := by omega
  rcases hcase with h1 | ⟨h1, h2⟩ | ⟨h1, h2, h3⟩ | ⟨h1, h2, h3⟩
  · have HM : Hid (misB ⟨nm, lb, pr, cf⟩ = true) := hide (decide_eq_true (.inl h1))
    clear he
    go_enter Tryz.func108, Tryz.ntmps108
    go_wp2
    go_ret
    exact ⟨ret_bool (unhide HM).symm, unhide HB _⟩
  · have HM : Hid (misB ⟨nm, lb, pr, cf⟩ = true) := hide (decide_eq_true (.inr (.inl h2)))
    clear he
    go_enter Tryz.func108, Tryz.ntmps108
    go_wp2
    go_ret
    exact ⟨ret_bool (unhide HM).symm, unhide HB _⟩
  · have HM : Hid (misB ⟨nm, lb, pr, cf⟩ = true) := hide (decide_eq_true (.inr (.inr (.inl h3))))
    rw [decide_eq_true h3] at he
    have H3 := hide h3
    clear h3
    go_enter Tryz.func108, Tryz.ntmps108
    go_wp2
    go_ret
    exact ⟨ret_bool (unhide HM).symm, unhide HB _⟩
  · have HM : Hid (misB ⟨nm, lb, pr, cf⟩ = decide (64 < lb.size)) := hide (decide_eq_decide.2 (by show (nm.size < 5 ∨ 16 < nm.size ∨ lb.size = 0 ∨ 64 < lb.size) ↔ 64 < lb.size; omega))
    rw [decide_eq_false h3] at he
    have H3 := hide h3
    clear h3
    go_enter Tryz.func108, Tryz.ntmps108
    go_wp2
    go_ret
    exact ⟨ret_bool (by rw [unhide HM, Bool.eq_iff_iff]; simp; try omega), unhide HB _⟩
theorem prio_any (x : XApp) (w : World) :
    Calls Tryz.prog 109 #[valApp x] w fun e w' => e = .returned (.bool (prioB x)) ∧ Below w.heap.size w w' := by
  obtain ⟨nm, lb, pr, cf⟩ := x
  have hbx := fun o : Obj => (Below.refl w.heap.size w).alloc (Nat.le_refl _) o
  have HB := hide hbx
  clear hbx
  unfold valApp
  simp only
  by_cases h1 : pr < 0
  · have HM : Hid (prioB ⟨nm, lb, pr, cf⟩ = true) := hide (decide_eq_true (.inl h1))
    go_enter Tryz.func109, Tryz.ntmps109
    go_wp2
    go_ret
    exact ⟨ret_bool (unhide HM).symm, unhide HB _⟩
  · have HM : Hid (prioB ⟨nm, lb, pr, cf⟩ = decide (15 < pr)) := hide (by unfold prioB; rw [Bool.eq_iff_iff]; simp; omega)
    go_enter Tryz.func109, Tryz.ntmps109
    go_wp2
    go_ret
    exact ⟨ret_bool (unhide HM).symm, unhide HB _⟩

set_option maxHeartbeats 1000000 in
theorem indexmis_any (l : List XApp) (ao : Option Addr) (cap : Nat) (w : World) (hr : RowApp w ao l) :
    Calls Tryz.prog 129 #[.slice ao l.length cap, .func (.func 108) #[] #[]] w fun e w' => (∃ v : Int, e = .returned (.int .i64 v) ∧ decide (0 ≤ v) = l.any misB) ∧ Below w.heap.size w w' := by
  obtain ⟨hr, _, hm⟩ := hr
  go_enter Tryz.func129, Tryz.ntmps129
  go_wp2
  go_loopw [8] (fun i wr => ∃ k : Nat, k ≤ l.length ∧ i = .int .i64 k ∧ Hid ((l.take k).any misB = false) ∧ Below w.heap.size w wr) (fun i _ => l.length - (intOf i).toNat)
  case atStart => exact ⟨0, Nat.zero_le _, rfl, hide (by simp), Below.refl _ _⟩
  case round =>
    obtain ⟨k, hk, rfl, HA, hbw⟩ := hrel
    by_cases hlt : k < l.length
    · obtain ⟨y, hy⟩ : ∃ y, l[k]? = some y := ⟨_, List.getElem?_eq_getElem hlt⟩
      rcases hr with hnil | ⟨b, off, rfl, hb, hc⟩
      · rw [hnil] at hlt; simp at hlt
      obtain ⟨c0, c1, c2, c3⟩ := hc k y hy
      have d0 : wr.cell? ⟨b, off + k * 4, none⟩ = _ := (hbw.cell (p := ⟨b, off + k * 4, none⟩) hb).trans c0
      have d1 : wr.cell? ⟨b, off + k * 4 + 1, none⟩ = _ := (hbw.cell (p := ⟨b, off + k * 4 + 1, none⟩) hb).trans c1
      have d2 : wr.cell? ⟨b, off + k * 4 + 2, none⟩ = _ := (hbw.cell (p := ⟨b, off + k * 4 + 2, none⟩) hb).trans c2
      have d3 : wr.cell? ⟨b, off + k * 4 + 3, none⟩ = _ := (hbw.cell (p := ⟨b, off + k * 4 + 3, none⟩) hb).trans c3
      have hs := anyP_take_succ l misB k y hy
      rw [unhide HA, Bool.false_or] at hs
      have hml : l.length ≤ 9223372036854775807 := by simpa [maxLen] using hm
      have n1 := mis_any y wr
      clear hc hm c0 c1 c2 c3
      unfold valApp at n1
      cases he : misB y with
      | true =>
        have HF := hide (anyP_of_take l misB (k + 1) (hs.trans he))
        rw [he] at n1
        have N1 := hide n1
        clear hs hy n1 he
        go_wp2_with fail
        refine (unhide N1).mono ?_
        rintro e w1 ⟨rfl, hb1⟩
        go_wp2
        go_ret
        exact ⟨⟨_, rfl, by rw [unhide HF]; simp⟩, hbw.trans (hb1.mono hbw.size)⟩
      | false =>
        have HS : Hid ((l.take (k + 1)).any misB = false) := hide (hs.trans he)
        rw [he] at n1
        have N1 := hide n1
        clear hs hy n1 he
        go_wp2_with fail
        refine (unhide N1).mono ?_
        rintro e w1 ⟨rfl, hb1⟩
        go_wp2
        go_roundw
        case rel => exact ⟨k + 1, by omega, by go_num, HS, hbw.trans (hb1.mono hbw.size)⟩
        case measure => simp [intOf]; omega
    · have HF : Hid (l.any misB = false) := hide (by have := unhide HA; rw [List.take_of_length_le (by omega)] at this; exact this)
      go_wp2
      go_ret
      exact ⟨⟨_, rfl, by rw [unhide HF]; rfl⟩, hbw⟩
theorem containsmis_any (l : List XApp) (ao : Option Addr) (cap : Nat) (w : World) (hr : RowApp w ao l) :
    Calls Tryz.prog 107 #[.slice ao l.length cap, .func (.func 108) #[] #[]] w fun e w' => e = .returned (.bool (l.any misB)) ∧ Below w.heap.size w w' := by
  have N1 := hide (indexmis_any l ao cap w hr)
  clear hr
  generalize l.any misB = q at *
  go_enter Tryz.func107, Tryz.ntmps107
  go_wp2_with fail
  refine (unhide N1).mono ?_
  rintro e w1 ⟨⟨v, rfl, hv⟩, hb1⟩
  have HV := hide hv
  clear hv
  go_wp2
  go_ret
  exact ⟨ret_bool (unhide HV), hb1⟩

set_option maxHeartbeats 1000000 in
theorem indexprio_any (l : List XApp) (ao : Option Addr) (cap : Nat) (w : World) (hr : RowApp w ao l) :
    Calls Tryz.prog 129 #[.slice ao l.length cap, .func (.func 109) #[] #[]] w fun e w' => (∃ v : Int, e = .returned (.int .i64 v) ∧ decide (0 ≤ v) = l.any prioB) ∧ Below w.heap.size w w' := by
  obtain ⟨hr, _, hm⟩ := hr
  go_enter Tryz.func129, Tryz.ntmps129
  go_wp2
  go_loopw [8] (fun i wr => ∃ k : Nat, k ≤ l.length ∧ i = .int .i64 k ∧ Hid ((l.take k).any prioB = false) ∧ Below w.heap.size w wr) (fun i _ => l.length - (intOf i).toNat)
  case atStart => exact ⟨0, Nat.zero_le _, rfl, hide (by simp), Below.refl _ _⟩
  case round =>
    obtain ⟨k, hk, rfl, HA, hbw⟩ := hrel
    by_cases hlt : k < l.length
    · obtain ⟨y, hy⟩ : ∃ y, l[k]? = some y := ⟨_, List.getElem?_eq_getElem hlt⟩
      rcases hr with hnil | ⟨b, off, rfl, hb, hc⟩
      · rw [hnil] at hlt; simp at hlt
      obtain ⟨c0, c1, c2, c3⟩ := hc k y hy
      have d0 : wr.cell? ⟨b, off + k * 4, none⟩ = _ := (hbw.cell (p := ⟨b, off + k * 4, none⟩) hb).trans c0
      have d1 : wr.cell? ⟨b, off + k * 4 + 1, none⟩ = _ := (hbw.cell (p := ⟨b, off + k * 4 + 1, none⟩) hb).trans c1
      have d2 : wr.cell? ⟨b, off + k * 4 + 2, none⟩ = _ := (hbw.cell (p := ⟨b, off + k * 4 + 2, none⟩) hb).trans c2
      have d3 : wr.cell? ⟨b, off + k * 4 + 3, none⟩ = _ := (hbw.cell (p := ⟨b, off + k * 4 + 3, none⟩) hb).trans c3
      have hs := anyP_take_succ l prioB k y hy
      rw [unhide HA, Bool.false_or] at hs
      have hml : l.length ≤ 9223372036854775807 := by simpa [maxLen] using hm
      have n1 := prio_any y wr
      clear hc hm c0 c1 c2 c3
      unfold valApp at n1
      cases he : prioB y with
      | true =>
        have HF := hide (anyP_of_take l prioB (k + 1) (hs.trans he))
        rw [he] at n1
        have N1 := hide n1
        clear hs hy n1 he
        go_wp2_with fail
        refine (unhide N1).mono ?_
        rintro e w1 ⟨rfl, hb1⟩
        go_wp2
        go_ret
        exact ⟨⟨_, rfl, by rw [unhide HF]; simp⟩, hbw.trans (hb1.mono hbw.size)⟩
      | false =>
        have HS : Hid ((l.take (k + 1)).any prioB = false) := hide (hs.trans he)
        rw [he] at n1
        have N1 := hide n1
        clear hs hy n1 he
        go_wp2_with fail
        refine (unhide N1).mono ?_
        rintro e w1 ⟨rfl, hb1⟩
        go_wp2
        go_roundw
        case rel => exact ⟨k + 1, by omega, by go_num, HS, hbw.trans (hb1.mono hbw.size)⟩
        case measure => simp [intOf]; omega
    · have HF : Hid (l.any prioB = false) := hide (by have := unhide HA; rw [List.take_of_length_le (by omega)] at this; exact this)
      go_wp2
      go_ret
      exact ⟨⟨_, rfl, by rw [unhide HF]; rfl⟩, hbw⟩
theorem containsprio_any (l : List XApp) (ao : Option Addr) (cap : Nat) (w : World) (hr : RowApp w ao l) :
    Calls Tryz.prog 107 #[.slice ao l.length cap, .func (.func 109) #[] #[]] w fun e w' => e = .returned (.bool (l.any prioB)) ∧ Below w.heap.size w w' := by
  have N1 := hide (indexprio_any l ao cap w hr)
  clear hr
  generalize l.any prioB = q at *
  go_enter Tryz.func107, Tryz.ntmps107
  go_wp2_with fail
  refine (unhide N1).mono ?_
  rintro e w1 ⟨⟨v, rfl, hv⟩, hb1⟩
  have HV := hide hv
  clear hv
  go_wp2
  go_ret
  exact ⟨ret_bool (unhide HV), hb1⟩

/-- what is wrong with applications -/
def appsE (l : List XApp) : Int := if 20 < l.length then 2 else bif l.any misB then 1 else bif l.any prioB then 3 else bif dupTo (namesL l) l.length then 6 else 0

set_option maxHeartbeats 1000000 in
theorem check_any (l : List XApp) (ao : Option Addr) (cap : Nat) (w : World) (hr : RowApp w ao l) :
    Calls Tryz.prog 67 #[.slice ao l.length cap] w fun e w' => e = .returned (.int .i64 (appsE l)) ∧ Below w.heap.size w w' := by
  have n1 := fun w' (hb : Below w.heap.size w w') => containsmis_any l ao cap w' (hr.below hb)
  have n2 := fun w' (hb : Below w.heap.size w w') => containsprio_any l ao cap w' (hr.below hb)
  have n3 := fun (h : l.length ≤ 20) w' (hb : Below w.heap.size w w') => countNames_any l ao cap w' (hr.below hb) h
  clear hr
  by_cases hl : 20 < l.length
  · have HE : Hid (appsE l = 2) := hide (by rw [appsE, if_pos hl])
    clear n1 n2 n3
    go_enter Tryz.func67, Tryz.ntmps67
    go_wp2
    go_ret
    exact ⟨ret_int (unhide HE).symm, Below.refl _ _⟩
  · have hl' : l.length ≤ 20 := by omega
    have HE : Hid (appsE l = bif l.any misB then 1 else bif l.any prioB then 3 else bif dupTo (namesL l) l.length then 6 else 0) := hide (by rw [appsE, if_neg hl])
    have n3' := n3 hl'
    generalize l.any misB = q1 at *
    generalize l.any prioB = q2 at *
    generalize dupTo (namesL l) l.length = q3 at *
    have N1 := hide n1; have N2 := hide n2; have N3 := hide n3'
    clear n1 n2 n3 n3' hl
    cases q1 with
    | true =>
      go_enter Tryz.func67, Tryz.ntmps67
      go_wp2_with fail
      refine (unhide N1 _ (Below.refl _ _)).mono ?_
      rintro e w1 ⟨rfl, hb1⟩
      go_wp2
      go_ret
      exact ⟨ret_int (unhide HE).symm, hb1⟩
    | false =>
      cases q2 with
      | true =>
        go_enter Tryz.func67, Tryz.ntmps67
        go_wp2_with fail
        refine (unhide N1 _ (Below.refl _ _)).mono ?_
        rintro e w1 ⟨rfl, hb1⟩
        go_wp2_with fail
        refine (unhide N2 _ hb1).mono ?_
        rintro e w2 ⟨rfl, hb2⟩
        go_wp2
        go_ret
        exact ⟨ret_int (unhide HE).symm, hb1.trans (hb2.mono hb1.size)⟩
      | false =>
        go_enter Tryz.func67, Tryz.ntmps67
        go_wp2_with fail
        refine (unhide N1 _ (Below.refl _ _)).mono ?_
        rintro e w1 ⟨rfl, hb1⟩
        go_wp2_with fail
        refine (unhide N2 _ hb1).mono ?_
        rintro e w2 ⟨rfl, hb2⟩
        have hb3 := hb1.trans (hb2.mono hb1.size)
        go_wp2_with fail
        refine (unhide N3 _ hb3).mono ?_
        rintro e w3 ⟨⟨c, rfl, hc⟩, hb4⟩
        have HBB := hide (hb3.trans (hb4.mono hb3.size))
        clear hb1 hb2 hb3 hb4
        by_cases hlt : c < l.length
        · rw [decide_eq_true hlt] at hc
          subst hc
          go_wp2
          go_ret
          exact ⟨ret_int (unhide HE).symm, unhide HBB⟩
        · rw [decide_eq_false hlt] at hc
          subst hc
          go_wp2
          go_ret
          exact ⟨ret_int (unhide HE).symm, unhide HBB⟩
end Go.Proofs.YtfpglpefofcdeaaGreatDoor
