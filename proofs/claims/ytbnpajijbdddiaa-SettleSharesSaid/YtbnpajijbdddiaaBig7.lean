/- length of the big numbers. -/
import Derived.Test.YtbnpajijbdddiaaBig6
namespace Go.Proofs.Ytbnpajijbdddiaa
open Go.RowKit
set_option linter.unusedVariables false

/-- in so many bits a number is written -/
def IsLen (n L : Nat) : Prop := n < 2 ^ L ∧ (n = 0 → L = 0) ∧ (n ≠ 0 → 1 ≤ L ∧ 2 ^ (L - 1) ≤ n)
theorem B32_twoP (k : Nat) : B32 ^ k = 2 ^ (32 * k) := by rw [Nat.pow_mul]; rfl
theorem isLen_top {l : List Nat} {x j : Nat} (hok : okV l) (h0 : 1 ≤ l.length) (hx : l[l.length - 1]? = some x) (hx0 : x ≠ 0) (h1 : x < 2 ^ j) (h2 : 2 ^ (j - 1) ≤ x) (hj : 1 ≤ j) : IsLen (natV l) (32 * (l.length - 1) + j) := by
  have e := natV_at l (l.length - 1) x hx
  rw [show l.length - 1 + 1 = l.length by omega, List.drop_of_length_le (Nat.le_refl _)] at e
  simp only [natV, Nat.mul_zero, Nat.add_zero] at e
  have hlow := natV_lt (okV_take hok (l.length - 1))
  rw [List.length_take, Nat.min_eq_left (by omega)] at hlow
  have hB := B32_twoP (l.length - 1)
  generalize B32 ^ (l.length - 1) = Q at *
  have hQ : 0 < Q := by rw [hB]; exact Nat.pow_pos (by decide)
  have hup : (x + 1) * Q ≤ 2 ^ j * Q := Nat.mul_le_mul_right _ h1
  have hdn : 2 ^ (j - 1) * Q ≤ x * Q := Nat.mul_le_mul_right _ h2
  rw [Nat.add_mul, Nat.one_mul] at hup
  have p1 : 2 ^ (32 * (l.length - 1) + j) = 2 ^ j * Q := by rw [Nat.pow_add, ← hB, Nat.mul_comm]
  have p2 : 2 ^ (32 * (l.length - 1) + j - 1) = 2 ^ (j - 1) * Q := by
    rw [show 32 * (l.length - 1) + j - 1 = 32 * (l.length - 1) + (j - 1) by omega, Nat.pow_add, ← hB, Nat.mul_comm]
  have hxQ : 0 < x * Q := Nat.mul_pos (by omega) hQ
  refine ⟨by rw [p1]; omega, fun h => by omega, fun _ => ⟨by omega, by rw [p2]; omega⟩⟩
theorem half_pos {x j : Nat} (h : x / 2 ^ j ≠ 0) : 2 ^ j ≤ x := by
  rcases Nat.lt_or_ge x (2 ^ j) with h' | h'
  · exact absurd (Nat.div_eq_of_lt h') h
  · exact h'
theorem half_zero {x j : Nat} (h : x / 2 ^ j = 0) : x < 2 ^ j := by
  rcases Nat.lt_or_ge x (2 ^ j) with h' | h'
  · exact h'
  · have := Nat.div_pos h' (Nat.pow_pos (by decide)); omega
set_option maxHeartbeats 4000000 in
set_option maxRecDepth 100000 in
theorem blength_any (n : Nat) (v : Value) (w : World) (hv : BigV w v n) (hn : n < B32 ^ 10000) :
    Calls Try.prog 65 #[v] w fun e w' => (∃ L : Nat, e = .returned (.int .i64 L) ∧ IsLen n L) ∧ w' = w := by
  obtain ⟨ao, cap, rfl, hr⟩ := hv
  have hl := dig_len 10000 n hn
  by_cases h0 : n = 0
  · subst h0
    rw [dig_zero]
    clear hr hl hn
    go_enter Try.func65, Try.ntmps65
    go_wp2
    go_ret
    exact ⟨⟨0, rfl, by simp, fun _ => rfl, fun h => absurd rfl h⟩, rfl⟩
  obtain ⟨x, hx, hx0⟩ := dig_last h0
  rw [List.getLast?_eq_getElem?] at hx
  have hok := okV_dig n
  have hxb : x < 4294967296 := okV_get hok hx
  have hnv := natV_dig n
  have hd0 : dig n ≠ [] := fun e => by rw [e] at hx; simp at hx
  generalize dig n = l at *
  have hlp : 1 ≤ l.length := List.length_pos_iff.2 hd0
  have hlI : (l.length : Int) ≤ 10000 := by omega
  have hne : ((l.length : Int) == 0) = false := by simp; exact hd0
  rcases hr with hnil | ⟨g, off, rfl, hg, hc⟩
  · exact absurd hnil hd0
  have c0 := hc _ x hx
  obtain ⟨m, hm⟩ : ∃ m, m = l.length - 1 := ⟨_, rfl⟩
  have hml : (m : Int) < (l.length : Int) := by omega
  have w1 : IntKind.i64.wrap ((l.length : Int) - 1) = (m : Int) := by rw [IntKind.wrap_i64]; omega
  have w2 : IntKind.i64.wrap ((m : Int) * 32) = ((32 * m : Nat) : Int) := by rw [IntKind.wrap_i64]; omega
  have HFIN : Hid (∀ j, x < 2 ^ j → 2 ^ (j - 1) ≤ x → 1 ≤ j → IsLen n (32 * m + j)) := hide (fun j h1 h2 h3 => by
    have := isLen_top hok hlp hx hx0 h1 h2 h3
    rw [hnv, ← hm] at this
    exact this)
  rw [← hm] at c0
  have hd0' : ¬ l = [] := hd0
  have HX0 := hide hx0
  have HXB := hide hxb
  clear hm hok hx hnv hc hn hl hxb hx0 hd0
  go_enter Try.func65, Try.ntmps65
  go_wp2
  go_loopw [3, 4] (fun c t wr => ∃ j : Nat, j ≤ 32 ∧ c = .int .i64 j ∧ t = .int .u32 ((x / 2 ^ j : Nat) : Int) ∧ Hid (j = 0 ∨ x / 2 ^ (j - 1) ≠ 0) ∧ wr = w) (fun c t _ => 33 - (intOf c).toNat)
  case atStart => exact ⟨0, by omega, rfl, by simp, hide (.inl rfl), rfl⟩
  case round =>
    obtain ⟨j, hj, rfl, rfl, HJ, rfl⟩ := hrel
    by_cases hz : x / 2 ^ j = 0
    · rw [hz]
      have hj0 : j ≠ 0 := fun e => by
        subst e
        exact unhide HX0 (by simpa using hz)
      have HL := hide (unhide HFIN j (half_zero hz) (half_pos ((unhide HJ).resolve_left hj0)) (by omega))
      have w3 : IntKind.i64.wrap (((32 * m : Nat) : Int) + (j : Int)) = ((32 * m + j : Nat) : Int) := by rw [IntKind.wrap_i64]; omega
      clear hz HJ hj0 HFIN
      go_wp2
      go_ret
      exact ⟨⟨32 * m + j, by first | rfl | (congr 2; omega), unhide HL⟩, rfl⟩
    · have hj31 : j ≤ 31 := by
        rcases Nat.lt_or_ge j 32 with h | h
        · omega
        · exfalso
          apply hz
          obtain rfl : j = 32 := by omega
          exact Nat.div_eq_of_lt (unhide HXB)
      obtain ⟨t, ht⟩ : ∃ t, t = x / 2 ^ j := ⟨_, rfl⟩
      have ht2 : x / 2 ^ (j + 1) = t / 2 := by rw [ht, Nat.pow_succ, Nat.div_div_eq_div_mul]
      have HJ2 : Hid (j + 1 = 0 ∨ x / 2 ^ (j + 1 - 1) ≠ 0) := hide (.inr (by simpa using hz))
      rw [← ht] at hz ⊢
      have hbn : ((t : Int) != 0) = true := by simp; omega
      obtain ⟨t2, ht3⟩ : ∃ t2, t2 = t / 2 := ⟨_, rfl⟩
      rw [← ht3] at ht2
      have w3 : (t : Int).fdiv (2 ^ min (Int.toNat 1) IntKind.u32.bits) = (t2 : Int) := by
        rw [show (2 : Int) ^ min (Int.toNat 1) IntKind.u32.bits = 2 by decide, Int.fdiv_eq_ediv_of_nonneg _ (by decide)]
        omega
      have HT := hide ht2
      have HT3 := hide ht3
      clear ht ht2 hz HJ ht3
      go_wp2
      go_roundw
      case rel => exact ⟨j + 1, by omega, by go_num, by rw [unhide HT]; congr 1; have := unhide HT3; omega, HJ2, by first | rfl | trivial⟩
      case measure => simp [intOf]; omega
end Go.Proofs.Ytbnpajijbdddiaa
