/- Ways: what is wrong with them, of the program and of the document's own; numbers among others. -/
import Derived.Test.YtadjbojlojnadaaJudP
import Derived.Deep.DeepCutAuto
import Derived.Deep.CutBlock
namespace Go.Proofs.Ytadjbojlojnadaa
open Go.RowKit
set_option linter.unusedVariables false

/-- is a number among others? -/
def inInts (x : Int) (l : List Int) : Bool := l.any (fun y => x == y)
theorem anyW_take_succ {α : Type} (l : List α) (p : α → Bool) (k : Nat) (y : α) (h : l[k]? = some y) : (l.take (k + 1)).any p = ((l.take k).any p || p y) := by
  obtain ⟨hk, rfl⟩ := List.getElem?_eq_some_iff.1 h
  rw [List.take_succ_eq_append_getElem hk, List.any_append]
  simp
theorem anyW_of_take {α : Type} (l : List α) (p : α → Bool) (k : Nat) (h : (l.take k).any p = true) : l.any p = true := by
  have e := List.take_append_drop k l
  rw [← e, List.any_append, h, Bool.true_or]

set_option maxHeartbeats 1000000 in
theorem indexI_any (x : Int) (l : List Int) (ao : Option Addr) (cap : Nat) (w : World) (hr : Rowint w ao l) :
    Calls Try.prog 46 #[.slice ao l.length cap, .int .i64 x] w fun e w' => (∃ v : Int, e = .returned (.int .i64 v) ∧ decide (0 ≤ v) = inInts x l) ∧ w' = w := by
  obtain ⟨hr, _, hm⟩ := hr
  go_enter Try.func46, Try.ntmps46
  go_wp2
  go_loopw [8] (fun i wr => ∃ k : Nat, k ≤ l.length ∧ i = .int .i64 k ∧ Hid ((l.take k).any (fun y => x == y) = false) ∧ wr = w) (fun i _ => l.length - (intOf i).toNat)
  case atStart => exact ⟨0, Nat.zero_le _, rfl, hide (by simp), rfl⟩
  case round =>
    obtain ⟨k, hk, rfl, HA, rfl⟩ := hrel
    by_cases hlt : k < l.length
    · obtain ⟨y, hy⟩ : ∃ y, l[k]? = some y := ⟨_, List.getElem?_eq_getElem hlt⟩
      rcases hr with hnil | ⟨b, off, rfl, hb, hc⟩
      · rw [hnil] at hlt; simp at hlt
      have c0 := hc k y hy
      have hs := anyW_take_succ l (fun y => x == y) k y hy
      rw [unhide HA, Bool.false_or] at hs
      have hml : l.length ≤ 9223372036854775807 := by simpa [maxLen] using hm
      clear hc hm
      cases he : (x == y) with
      | true =>
        have HF := hide (anyW_of_take l _ (k + 1) (hs.trans he))
        clear hs hy
        go_wp2
        go_ret
        exact ⟨⟨_, rfl, by simp [inInts, unhide HF]⟩, rfl⟩
      | false =>
        have HS := hide (hs.trans he)
        clear hs hy
        go_wp2
        go_roundw
        case rel => exact ⟨k + 1, by omega, by go_num, HS, by trivial⟩
        case measure => simp [intOf]; omega
    · have HF : Hid (inInts x l = false) := hide (by have := unhide HA; rw [List.take_of_length_le (by omega)] at this; exact this)
      go_wp2
      go_ret
      exact ⟨⟨_, rfl, by rw [unhide HF]; rfl⟩, rfl⟩
theorem containsI_any (x : Int) (l : List Int) (ao : Option Addr) (cap : Nat) (w : World) (hr : Rowint w ao l) :
    Calls Try.prog 22 #[.slice ao l.length cap, .int .i64 x] w fun e w' => e = .returned (.bool (inInts x l)) ∧ w' = w := by
  have N1 := hide (indexI_any x l ao cap w hr)
  clear hr
  go_enter Try.func22, Try.ntmps22
  go_wp2_with fail
  refine (unhide N1).mono ?_
  rintro e w1 ⟨⟨v, rfl, hv⟩, rfl⟩
  have HV := hide hv
  clear hv
  go_wp2
  go_ret
  exact ⟨ret_bool (unhide HV), rfl⟩

/-- has a way the numbers that ways have? -/
def inBw (x : XWay) : Bool := decide ((0 ≤ x.code ∧ x.code ≤ 63) ∧ (0 ≤ x.when ∧ x.when ≤ 7))
def waysE (v : XWays) : Int := if 20 < v.list.length then 2 else if ((0 ≤ v.x ∧ v.x ≤ 999999999999) ∧ (0 ≤ v.y ∧ v.y ≤ 999999999999)) ∧ v.list.any (fun x => !inBw x) = false then 0 else 3

set_option maxHeartbeats 1000000 in
theorem isOutside_any (x : XWay) (w : World) :
    Calls Try.prog 32 #[valWay x] w fun e w' => e = .returned (.bool (!inBw x)) ∧ Below w.heap.size w w' := by
  obtain ⟨code, when, next⟩ := x
  have n1 := fun w => withinJ_any code 0 63 w
  have n2 := fun w => withinJ_any when 0 7 w
  have hbx := fun o : Obj => (Below.refl w.heap.size w).alloc (Nat.le_refl _) o
  have HB := hide hbx
  have hi : inBw ⟨code, when, next⟩ = (decide (0 ≤ code ∧ code ≤ 63) && decide (0 ≤ when ∧ when ≤ 7)) := by
    unfold inBw; rw [Bool.eq_iff_iff]; simp
  rw [hi]
  clear hbx hi
  generalize decide (0 ≤ code ∧ code ≤ 63) = q1 at *
  generalize decide (0 ≤ when ∧ when ≤ 7) = q2 at *
  unfold valWay
  simp only
  have N1 := hide n1; have N2 := hide n2
  clear n1 n2
  cases q1 <;> cases q2 <;>
  · go_enter Try.func32, Try.ntmps32
    go_wp2_with (first | (go_at_call_of 45 (Value.int .i64 63); refine (unhide N1 _).mono ?_; rintro e w1 ⟨rfl, hw1⟩; subst hw1) | (go_at_call_of 45 (Value.int .i64 7); refine (unhide N2 _).mono ?_; rintro e w1 ⟨rfl, hw1⟩; subst hw1))
    go_ret
    exact ⟨ret_bool (by simp), unhide HB _⟩

set_option maxHeartbeats 1000000 in
theorem indexF_any (l : List XWay) (ao : Option Addr) (cap : Nat) (w : World) (hr : RowWay w ao l) :
    Calls Try.prog 48 #[.slice ao l.length cap, .func (.func 32) #[] #[]] w fun e w' => (∃ v : Int, e = .returned (.int .i64 v) ∧ decide (0 ≤ v) = l.any (fun x => !inBw x)) ∧ Below w.heap.size w w' := by
  obtain ⟨hr, _, hm⟩ := hr
  go_enter Try.func48, Try.ntmps48
  go_wp2
  go_loopw [8] (fun i wr => ∃ k : Nat, k ≤ l.length ∧ i = .int .i64 k ∧ Hid ((l.take k).any (fun x => !inBw x) = false) ∧ Below w.heap.size w wr) (fun i _ => l.length - (intOf i).toNat)
  case atStart => exact ⟨0, Nat.zero_le _, rfl, hide (by simp), Below.refl _ _⟩
  case round =>
    obtain ⟨k, hk, rfl, HA, hbw⟩ := hrel
    by_cases hlt : k < l.length
    · obtain ⟨y, hy⟩ : ∃ y, l[k]? = some y := ⟨_, List.getElem?_eq_getElem hlt⟩
      rcases hr with hnil | ⟨b, off, rfl, hb, hc⟩
      · rw [hnil] at hlt; simp at hlt
      obtain ⟨c0, c1, c2⟩ := hc k y hy
      have d0 : wr.cell? ⟨b, off + k * 3, none⟩ = _ := (hbw.cell (p := ⟨b, off + k * 3, none⟩) hb).trans c0
      have d1 : wr.cell? ⟨b, off + k * 3 + 1, none⟩ = _ := (hbw.cell (p := ⟨b, off + k * 3 + 1, none⟩) hb).trans c1
      have d2 : wr.cell? ⟨b, off + k * 3 + 2, none⟩ = _ := (hbw.cell (p := ⟨b, off + k * 3 + 2, none⟩) hb).trans c2
      have hs := anyW_take_succ l (fun x => !inBw x) k y hy
      rw [unhide HA, Bool.false_or] at hs
      have hml : l.length ≤ 9223372036854775807 := by simpa [maxLen] using hm
      have n1 := isOutside_any y wr
      clear hc hm c0 c1 c2
      unfold valWay at n1
      cases he : inBw y with
      | false =>
        have HF := hide (anyW_of_take l _ (k + 1) (hs.trans (by rw [he]; rfl)))
        rw [he] at n1
        have N1 := hide n1
        clear hs hy n1 he
        go_wp2_with fail
        refine (unhide N1).mono ?_
        rintro e w1 ⟨rfl, hb1⟩
        go_wp2
        go_ret
        exact ⟨⟨_, rfl, by rw [unhide HF]; simp⟩, hbw.trans (hb1.mono hbw.size)⟩
      | true =>
        have HS : Hid ((l.take (k + 1)).any (fun x => !inBw x) = false) := hide (by simp [hs, he])
        rw [he] at n1
        have N1 := hide n1
        clear hs hy n1 he
        go_wp2_with fail
        refine (unhide N1).mono ?_
        rintro e w1 ⟨rfl, hb1⟩
        go_wp2
        go_roundw
        case rel => exact ⟨k + 1, by omega, by go_num, HS, hbw.trans (hb1.mono hbw.size)⟩
        case measure => simp [intOf]; omega
    · have HF : Hid (l.any (fun x => !inBw x) = false) := hide (by have := unhide HA; rw [List.take_of_length_le (by omega)] at this; exact this)
      go_wp2
      go_ret
      exact ⟨⟨_, rfl, by rw [unhide HF]; rfl⟩, hbw⟩
theorem containsF_any (l : List XWay) (ao : Option Addr) (cap : Nat) (w : World) (hr : RowWay w ao l) :
    Calls Try.prog 31 #[.slice ao l.length cap, .func (.func 32) #[] #[]] w fun e w' => e = .returned (.bool (l.any (fun x => !inBw x))) ∧ Below w.heap.size w w' := by
  have N1 := hide (indexF_any l ao cap w hr)
  clear hr
  generalize l.any (fun x => !inBw x) = q at *
  go_enter Try.func31, Try.ntmps31
  go_wp2_with fail
  refine (unhide N1).mono ?_
  rintro e w1 ⟨⟨v, rfl, hv⟩, hb1⟩
  have HV := hide hv
  clear hv
  go_wp2
  go_ret
  exact ⟨ret_bool (unhide HV), hb1⟩
end Go.Proofs.Ytadjbojlojnadaa
