/- How a shop guards itself: the checks, of the program and of the document's own. -/
import Derived.Test.YtfpglpefofcdeaaGreatDoorM00
import Derived.Deep.RegionWith
import Derived.Deep.DeepCutAuto
import Derived.Deep.CutBlock
namespace Go.Proofs.YtfpglpefofcdeaaGreatDoor
open Go.RowKit
set_option linter.unusedVariables false

theorem withinJ_any (n lo hi : Int) (w : World) :
    Calls Tryz.prog 111 #[.int .i64 n, .int .i64 lo, .int .i64 hi] w fun e w' => e = .returned (.bool (decide (lo ≤ n ∧ n ≤ hi))) ∧ w' = w := by
  by_cases c0 : lo ≤ n
  · go_enter Tryz.func111, Tryz.ntmps111
    go_wp2
    go_ret
    exact ⟨ret_bool (by simp [c0]), rfl⟩
  · go_enter Tryz.func111, Tryz.ntmps111
    go_wp2
    go_ret
    exact ⟨ret_bool (by simp; omega), rfl⟩
theorem isAmount_any (n : Int) (w : World) :
    Calls Tryz.prog 69 #[.int .i64 n] w fun e w' => e = .returned (.bool (decide (0 ≤ n ∧ n ≤ 999999999999))) ∧ w' = w := by
  have n1 := fun w => withinJ_any n 0 999999999999 w
  generalize decide (0 ≤ n ∧ n ≤ 999999999999) = q at *
  have N1 := hide n1
  clear n1
  go_enter Tryz.func69, Tryz.ntmps69
  go_wp2_with fail
  refine (unhide N1 _).mono ?_
  rintro e w1 ⟨rfl, rfl⟩
  go_wp2
  go_ret
  exact ⟨rfl, rfl⟩
set_option maxRecDepth 100000 in
theorem ramount_any (n : Int) (w : World) :
    Calls Tryz.prog 77 #[.int .i64 n] w fun e w' => e = .returned (.bool (decide (0 ≤ n ∧ n ≤ 999999999999))) ∧ w' = w := by
  by_cases c0 : 0 ≤ n
  · go_enter Tryz.func77, Tryz.ntmps77
    go_wp2
    go_ret
    exact ⟨ret_bool (by simp [c0]), rfl⟩
  · go_enter Tryz.func77, Tryz.ntmps77
    go_wp2
    go_ret
    exact ⟨ret_bool (by simp; omega), rfl⟩

/-- what is wrong with how a shop guards itself -/
def RiskOK (r : XRisk) : Prop := (0 ≤ r.floor ∧ r.floor ≤ 999999999999) ∧ (0 ≤ r.frm ∧ r.frm ≤ r.floor) ∧ (0 ≤ r.share ∧ r.share ≤ 99) ∧ (r.share ≤ r.most ∧ r.most ≤ 99) ∧ (0 ≤ r.lower ∧ r.lower ≤ 255) ∧ (0 ≤ r.upper ∧ r.upper ≤ 255)
instance (r : XRisk) : Decidable (RiskOK r) := by unfold RiskOK; infer_instance
def riskE (r : XRisk) : Int := if 1000 < r.black.length then 2 else if RiskOK r then 0 else 3
/-- what is wrong with what a shop knows of a card -/
def SeenOK (s : XSeen) : Prop := (0 ≤ s.amount ∧ s.amount ≤ 999999999999) ∧ (0 ≤ s.other ∧ s.other ≤ 999999999999) ∧ (0 ≤ s.count ∧ s.count ≤ 65535) ∧ (0 ≤ s.last ∧ s.last ≤ 65535) ∧ (1 ≤ s.draw ∧ s.draw ≤ 99)
instance (s : XSeen) : Decidable (SeenOK s) := by unfold SeenOK; infer_instance
def seenE (s : XSeen) : Int := if SeenOK s then 0 else 3

theorem riskE_long {r : XRisk} (h : 1000 < r.black.length) : riskE r = 2 := by rw [riskE, if_pos h]
theorem riskE_ok {r : XRisk} (h : r.black.length ≤ 1000) (ho : RiskOK r) : riskE r = 0 := by rw [riskE, if_neg (by omega), if_pos ho]
theorem riskE_no {r : XRisk} (h : r.black.length ≤ 1000) (ho : ¬ RiskOK r) : riskE r = 3 := by rw [riskE, if_neg (by omega), if_neg ho]




/-- how many of a hundred are drawn -/
def pct (r : XRisk) (n : Int) : Int := if n < r.frm then r.share else r.share + (r.most - r.share) * (n - r.frm) / (r.floor - r.frm)
theorem pct_bounds (r : XRisk) (n : Int) (h : RiskOK r) (hn : n < r.floor) : r.share ≤ pct r n ∧ pct r n ≤ r.most := by
  obtain ⟨h1, h2, h3, h4, h5, h6⟩ := h
  unfold pct
  split
  · omega
  · rename_i hc
    have hd : 0 < r.floor - r.frm := by omega
    have hp : 0 ≤ (r.most - r.share) * (n - r.frm) := Int.mul_nonneg (by omega) (by omega)
    have hle : (r.most - r.share) * (n - r.frm) ≤ (r.most - r.share) * (r.floor - r.frm) := Int.mul_le_mul_of_nonneg_left (by omega) (by omega)
    have h7 : 0 ≤ (r.most - r.share) * (n - r.frm) / (r.floor - r.frm) := Int.ediv_nonneg hp (by omega)
    have h8 : (r.most - r.share) * (n - r.frm) / (r.floor - r.frm) ≤ r.most - r.share := by
      have := Int.ediv_le_ediv hd hle
      rw [Int.mul_ediv_cancel _ (by omega)] at this
      exact this
    omega
theorem pct_rises (r : XRisk) (n m : Int) (h : RiskOK r) (hnm : n ≤ m) (hm : m < r.floor) : pct r n ≤ pct r m := by
  by_cases hc : n < r.frm
  · have := (pct_bounds r m h hm).1
    rw [show pct r n = r.share by unfold pct; rw [if_pos hc]]
    exact this
  · obtain ⟨h1, h2, h3, h4, h5, h6⟩ := h
    unfold pct
    rw [if_neg hc, if_neg (by omega)]
    have hd : 0 < r.floor - r.frm := by omega
    have hle : (r.most - r.share) * (n - r.frm) ≤ (r.most - r.share) * (m - r.frm) := Int.mul_le_mul_of_nonneg_left (by omega) (by omega)
    have := Int.ediv_le_ediv hd hle
    omega
end Go.Proofs.YtfpglpefofcdeaaGreatDoor
namespace Go.Proofs.YtfpglpefofcdeaaGreatDoor
open Go.RowKit
set_option linter.unusedVariables false

/-- is a number among others? -/
def inInts (x : Int) (l : List Int) : Bool := l.any (fun y => x == y)
theorem anyW_take_succ {α : Type} (l : List α) (p : α → Bool) (k : Nat) (y : α) (h : l[k]? = some y) : (l.take (k + 1)).any p = ((l.take k).any p || p y) := by
  obtain ⟨hk, rfl⟩ := List.getElem?_eq_some_iff.1 h
  rw [List.take_succ_eq_append_getElem hk, List.any_append]
  simp
theorem anyW_of_take {α : Type} (l : List α) (p : α → Bool) (k : Nat) (h : (l.take k).any p = true) : l.any p = true := by
  have e := List.take_append_drop k l
  rw [← e, List.any_append, h, Bool.true_or]


/-- has a way the numbers that ways have? -/
def inBw (x : XWay) : Bool := decide ((0 ≤ x.code ∧ x.code ≤ 63) ∧ (0 ≤ x.when ∧ x.when ≤ 7))
def waysE (v : XWays) : Int := if 20 < v.list.length then 2 else if ((0 ≤ v.x ∧ v.x ≤ 999999999999) ∧ (0 ≤ v.y ∧ v.y ≤ 999999999999)) ∧ v.list.any (fun x => !inBw x) = false then 0 else 3

set_option maxHeartbeats 1000000 in
theorem isOutside_any (x : XWay) (w : World) :
    Calls Tryz.prog 71 #[valWay x] w fun e w' => e = .returned (.bool (!inBw x)) ∧ Below w.heap.size w w' := by
  obtain ⟨code, when, next⟩ := x
  have n1 := fun w => withinJ_any code 0 63 w
  have n2 := fun w => withinJ_any when 0 7 w
  have hbx := fun o : Obj => (Below.refl w.heap.size w).alloc (Nat.le_refl _) o
  have HB := hide hbx
  have hi : inBw ⟨code, when, next⟩ = (decide (0 ≤ code ∧ code ≤ 63) && decide (0 ≤ when ∧ when ≤ 7)) := by
    unfold inBw; rw [Bool.eq_iff_iff]; simp
  rw [hi]
  clear hbx hi
  generalize decide (0 ≤ code ∧ code ≤ 63) = q1 at *
  generalize decide (0 ≤ when ∧ when ≤ 7) = q2 at *
  unfold valWay
  simp only
  have N1 := hide n1; have N2 := hide n2
  clear n1 n2
  cases q1 <;> cases q2 <;>
  · go_enter Tryz.func71, Tryz.ntmps71
    go_wp2_with (first | (go_at_call_of 111 (Value.int .i64 63); refine (unhide N1 _).mono ?_; rintro e w1 ⟨rfl, hw1⟩; subst hw1) | (go_at_call_of 111 (Value.int .i64 7); refine (unhide N2 _).mono ?_; rintro e w1 ⟨rfl, hw1⟩; subst hw1))
    go_ret
    exact ⟨ret_bool (by simp), unhide HB _⟩

set_option maxHeartbeats 1000000 in
theorem indexF_any (l : List XWay) (ao : Option Addr) (cap : Nat) (w : World) (hr : RowWay w ao l) :
    Calls Tryz.prog 112 #[.slice ao l.length cap, .func (.func 71) #[] #[]] w fun e w' => (∃ v : Int, e = .returned (.int .i64 v) ∧ decide (0 ≤ v) = l.any (fun x => !inBw x)) ∧ Below w.heap.size w w' := by
  obtain ⟨hr, _, hm⟩ := hr
  go_enter Tryz.func112, Tryz.ntmps112
  go_wp2
  go_loopw [8] (fun i wr => ∃ k : Nat, k ≤ l.length ∧ i = .int .i64 k ∧ Hid ((l.take k).any (fun x => !inBw x) = false) ∧ Below w.heap.size w wr) (fun i _ => l.length - (intOf i).toNat)
  case atStart => exact ⟨0, Nat.zero_le _, rfl, hide (by simp), Below.refl _ _⟩
  case round =>
    obtain ⟨k, hk, rfl, HA, hbw⟩ := hrel
    by_cases hlt : k < l.length
    · obtain ⟨y, hy⟩ : ∃ y, l[k]? = some y := ⟨_, List.getElem?_eq_getElem hlt⟩
      rcases hr with hnil | ⟨b, off, rfl, hb, hc⟩
      · rw [hnil] at hlt; simp at hlt
      obtain ⟨c0, c1, c2⟩ := hc k y hy
      have d0 : wr.cell? ⟨b, off + k * 3, none⟩ = _ := (hbw.cell (p := ⟨b, off + k * 3, none⟩) hb).trans c0
      have d1 : wr.cell? ⟨b, off + k * 3 + 1, none⟩ = _ := (hbw.cell (p := ⟨b, off + k * 3 + 1, none⟩) hb).trans c1
      have d2 : wr.cell? ⟨b, off + k * 3 + 2, none⟩ = _ := (hbw.cell (p := ⟨b, off + k * 3 + 2, none⟩) hb).trans c2
      have hs := anyW_take_succ l (fun x => !inBw x) k y hy
      rw [unhide HA, Bool.false_or] at hs
      have hml : l.length ≤ 9223372036854775807 := by simpa [maxLen] using hm
      have n1 := isOutside_any y wr
      clear hc hm c0 c1 c2
      unfold valWay at n1
      cases he : inBw y with
      | false =>
        have HF := hide (anyW_of_take l _ (k + 1) (hs.trans (by rw [he]; rfl)))
        rw [he] at n1
        have N1 := hide n1
        clear hs hy n1 he
        go_wp2_with fail
        refine (unhide N1).mono ?_
        rintro e w1 ⟨rfl, hb1⟩
        go_wp2
        go_ret
        exact ⟨⟨_, rfl, by rw [unhide HF]; simp⟩, hbw.trans (hb1.mono hbw.size)⟩
      | true =>
        have HS : Hid ((l.take (k + 1)).any (fun x => !inBw x) = false) := hide (by simp [hs, he])
        rw [he] at n1
        have N1 := hide n1
        clear hs hy n1 he
        go_wp2_with fail
        refine (unhide N1).mono ?_
        rintro e w1 ⟨rfl, hb1⟩
        go_wp2
        go_roundw
        case rel => exact ⟨k + 1, by omega, by go_num, HS, hbw.trans (hb1.mono hbw.size)⟩
        case measure => simp [intOf]; omega
    · have HF : Hid (l.any (fun x => !inBw x) = false) := hide (by have := unhide HA; rw [List.take_of_length_le (by omega)] at this; exact this)
      go_wp2
      go_ret
      exact ⟨⟨_, rfl, by rw [unhide HF]; rfl⟩, hbw⟩
theorem containsF_any (l : List XWay) (ao : Option Addr) (cap : Nat) (w : World) (hr : RowWay w ao l) :
    Calls Tryz.prog 70 #[.slice ao l.length cap, .func (.func 71) #[] #[]] w fun e w' => e = .returned (.bool (l.any (fun x => !inBw x))) ∧ Below w.heap.size w w' := by
  have N1 := hide (indexF_any l ao cap w hr)
  clear hr
  generalize l.any (fun x => !inBw x) = q at *
  go_enter Tryz.func70, Tryz.ntmps70
  go_wp2_with fail
  refine (unhide N1).mono ?_
  rintro e w1 ⟨⟨v, rfl, hv⟩, hb1⟩
  have HV := hide hv
  clear hv
  go_wp2
  go_ret
  exact ⟨ret_bool (unhide HV), hb1⟩
end Go.Proofs.YtfpglpefofcdeaaGreatDoor
