/- The percent, what is on the list, and the literal that lays a bit down. -/
import Derived.Test.YtadjbojlojnadaaJudP
import Derived.Deep.RegionHeld3
import Derived.Deep.CutBlock
namespace Go.Proofs.Ytadjbojlojnadaa
open Go.RowKit
set_option linter.unusedVariables false

theorem below_draws {a b : World} (h : Below a.heap.size a b) (q : Nat) : Below a.heap.size a (b.drewN q) := ⟨h.os, h.tape, h.output, h.size, h.block⟩
theorem mul_in (a b : Int) (ha : 0 ≤ a) (ha1 : a ≤ 99) (hb : 0 ≤ b) (hb1 : b ≤ 999999999999) : 0 ≤ a * b ∧ a * b ≤ 99000000000000 := by
  refine ⟨Int.mul_nonneg ha hb, ?_⟩
  have h1 : a * b ≤ 99 * b := Int.mul_le_mul_of_nonneg_right ha1 hb
  omega

set_option maxHeartbeats 1000000 in
theorem percent_any (r : XRisk) (n : Int) (w : World) (h : RiskOK r) (h0 : 0 ≤ n) (hn : n < r.floor) :
    Calls Try.prog 29 #[valRisk r, .int .i64 n] w fun e w' => e = .returned (.int .i64 (pct r n)) ∧ Below w.heap.size w w' := by
  have hb := pct_bounds r n h hn
  have hp : pct r n = if n < r.frm then r.share else r.share + (r.most - r.share) * (n - r.frm) / (r.floor - r.frm) := rfl
  rw [hp] at hb ⊢
  clear hp
  obtain ⟨floor, frm, share, most, lower, upper, bo, bl, bc⟩ := r
  obtain ⟨⟨h1, h2⟩, ⟨h3, h4⟩, ⟨h5, h6⟩, ⟨h7, h8⟩, _, _⟩ := h
  simp only at *
  have hbx := fun o : Obj => (Below.refl w.heap.size w).alloc (Nat.le_refl _) o
  have HB := hide hbx
  clear hbx
  unfold valRisk
  simp only
  by_cases hc : n < frm
  · rw [if_pos hc]
    clear hb
    go_enter Try.func29, Try.ntmps29
    go_wp2
    go_ret
    exact ⟨rfl, unhide HB _⟩
  · rw [if_neg hc] at hb ⊢
    have hm := mul_in (most - share) (n - frm) (by omega) (by omega) (by omega) (by omega)
    have hq : Int.tdiv ((most - share) * (n - frm)) (floor - frm) = (most - share) * (n - frm) / (floor - frm) := Int.tdiv_eq_ediv_of_nonneg hm.1
    have hd : ¬ floor - frm = 0 := by omega
    have e1 : IntKind.i64.wrap (most - share) = most - share := wraps_i64 _ (by omega) (by omega)
    have e2 : IntKind.i64.wrap (n - frm) = n - frm := wraps_i64 _ (by omega) (by omega)
    have e4 : IntKind.i64.wrap (floor - frm) = floor - frm := wraps_i64 _ (by omega) (by omega)
    have e3 : IntKind.i64.wrap ((most - share) * (n - frm)) = (most - share) * (n - frm) := wraps_i64 _ (by omega) (by omega)
    have hd0 : 0 < floor - frm := by omega
    have hd5 : 0 ≤ (most - share) * (n - frm) / (floor - frm) := Int.ediv_nonneg hm.1 (by omega)
    have e6 : IntKind.i64.wrap (share + (most - share) * (n - frm) / (floor - frm)) = share + (most - share) * (n - frm) / (floor - frm) := wraps_i64 _ (by omega) (by omega)
    have e7 : IntKind.i64.wrap (Int.tdiv ((most - share) * (n - frm)) (floor - frm)) = (most - share) * (n - frm) / (floor - frm) := by rw [hq]; exact wraps_i64 _ hd5 (by omega)
    obtain ⟨d1, g1⟩ : ∃ x, most - share = x := ⟨_, rfl⟩
    obtain ⟨d2, g2⟩ : ∃ x, n - frm = x := ⟨_, rfl⟩
    obtain ⟨d3, g3⟩ : ∃ x, floor - frm = x := ⟨_, rfl⟩
    have e1' : IntKind.i64.wrap (most - share) = d1 := e1.trans g1
    have e2' : IntKind.i64.wrap (n - frm) = d2 := e2.trans g2
    have e4' : IntKind.i64.wrap (floor - frm) = d3 := e4.trans g3
    rw [g1, g2] at e3
    rw [g1, g2, g3] at e6 e7 ⊢
    rw [g3] at hd hd0
    clear hb hm hd5 h1 h2 h3 h4 h5 h6 h7 h8 h0 hn e1 e2 e4 hq g1 g2 g3
    go_enter Try.func29, Try.ntmps29
    go_wp2
    go_quiet (fail)
    go_wp2
    go_ret
    exact ⟨rfl, below_draws (unhide HB _) _⟩


/-- is a text among others? -/
def inTexts (x : ByteArray) (l : List ByteArray) : Bool := l.any (fun y => x.toList == y.toList)
theorem any_take_succ {α : Type} (l : List α) (p : α → Bool) (k : Nat) (y : α) (h : l[k]? = some y) : (l.take (k + 1)).any p = ((l.take k).any p || p y) := by
  obtain ⟨hk, rfl⟩ := List.getElem?_eq_some_iff.1 h
  rw [List.take_succ_eq_append_getElem hk, List.any_append]
  simp
theorem any_of_take {α : Type} (l : List α) (p : α → Bool) (k : Nat) (h : (l.take k).any p = true) : l.any p = true := by
  have e := List.take_append_drop k l
  rw [← e, List.any_append, h, Bool.true_or]

set_option maxHeartbeats 1000000 in
theorem indexS_any (x : ByteArray) (l : List ByteArray) (ao : Option Addr) (cap : Nat) (w : World) (hr : Rowstring w ao l) :
    Calls Try.prog 47 #[.slice ao l.length cap, .string x] w fun e w' => (∃ v : Int, e = .returned (.int .i64 v) ∧ decide (0 ≤ v) = inTexts x l) ∧ w' = w := by
  obtain ⟨hr, _, hm⟩ := hr
  go_enter Try.func47, Try.ntmps47
  go_wp2
  go_loopw [8] (fun i wr => ∃ k : Nat, k ≤ l.length ∧ i = .int .i64 k ∧ Hid ((l.take k).any (fun y => x.toList == y.toList) = false) ∧ wr = w) (fun i _ => l.length - (intOf i).toNat)
  case atStart => exact ⟨0, Nat.zero_le _, rfl, hide (by simp), rfl⟩
  case round =>
    obtain ⟨k, hk, rfl, HA, rfl⟩ := hrel
    by_cases hlt : k < l.length
    · obtain ⟨y, hy⟩ : ∃ y, l[k]? = some y := ⟨_, List.getElem?_eq_getElem hlt⟩
      rcases hr with hnil | ⟨b, off, rfl, hb, hc⟩
      · rw [hnil] at hlt; simp at hlt
      have c0 := hc k y hy
      have hs := any_take_succ l (fun y => x.toList == y.toList) k y hy
      rw [unhide HA, Bool.false_or] at hs
      have hml : l.length ≤ 9223372036854775807 := by simpa [maxLen] using hm
      clear hc hm
      cases he : (x.toList == y.toList) with
      | true =>
        have HF := hide (any_of_take l _ (k + 1) (hs.trans he))
        clear hs hy
        go_wp2
        go_ret
        exact ⟨⟨_, rfl, by simp [inTexts, unhide HF]⟩, rfl⟩
      | false =>
        have HS := hide (hs.trans he)
        clear hs hy
        go_wp2
        go_roundw
        case rel => exact ⟨k + 1, by omega, by go_num, HS, by trivial⟩
        case measure => simp [intOf]; omega
    · have HF : Hid (inTexts x l = false) := hide (by have := unhide HA; rw [List.take_of_length_le (by omega)] at this; exact this)
      go_wp2
      go_ret
      exact ⟨⟨_, rfl, by rw [unhide HF]; rfl⟩, rfl⟩
theorem containsS_any (x : ByteArray) (l : List ByteArray) (ao : Option Addr) (cap : Nat) (w : World) (hr : Rowstring w ao l) :
    Calls Try.prog 30 #[.slice ao l.length cap, .string x] w fun e w' => e = .returned (.bool (inTexts x l)) ∧ w' = w := by
  have N1 := hide (indexS_any x l ao cap w hr)
  clear hr
  go_enter Try.func30, Try.ntmps30
  go_wp2_with fail
  refine (unhide N1).mono ?_
  rintro e w1 ⟨⟨v, rfl, hv⟩, rfl⟩
  have HV := hide hv
  clear hv
  go_wp2
  go_ret
  exact ⟨ret_bool (unhide HV), rfl⟩
end Go.Proofs.Ytadjbojlojnadaa
