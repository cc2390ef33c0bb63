/- The big numbers' sums, by the numbers themselves; a number divided by 3. -/
import Derived.Test.YtbnpajijbdddiaaBig7
namespace Go.Proofs.Ytbnpajijbdddiaa
open Go.RowKit
set_option linter.unusedVariables false

theorem mul_any (a b : Nat) (va vb : Value) (w : World) (ha : BigV w va a) (hb : BigV w vb b) (hla : a < B32 ^ 5000) (hlb : b < B32 ^ 5000) :
    Calls Try.prog 42 #[va, vb] w fun e w' => (∃ v, e = .returned v ∧ BigV w' v (a * b)) ∧ Below w.heap.size w w' := by
  obtain ⟨ao, ca, rfl, hra⟩ := ha
  obtain ⟨bo, cb, rfl, hrb⟩ := hb
  have h1 := dig_len 5000 a hla
  have h2 := dig_len 5000 b hlb
  by_cases h0 : dig a = []
  · have ha0 : a = 0 := by have := natV_dig a; rw [h0] at this; exact this.symm
    subst ha0
    rw [dig_zero, Nat.zero_mul]
    clear hra hrb h1 h2 hla hlb h0
    go_enter Try.func42, Try.ntmps42
    go_wp2
    go_ret
    exact ⟨⟨_, rfl, none, 0, by rw [dig_zero]; rfl, .inl dig_zero⟩, Below.refl _ _⟩
  by_cases h0' : dig b = []
  · have hb0 : b = 0 := by have := natV_dig b; rw [h0'] at this; exact this.symm
    subst hb0
    rw [dig_zero, Nat.mul_zero]
    have hne : ¬ dig a = [] := h0
    have hneI : (((dig a).length : Int) == 0) = false := by simp; exact h0
    clear hra hrb h1 h2 hla hlb h0 h0'
    generalize dig a = l at *
    go_enter Try.func42, Try.ntmps42
    go_wp2
    go_ret
    exact ⟨⟨_, rfl, none, 0, by rw [dig_zero]; rfl, .inl dig_zero⟩, Below.refl _ _⟩
  have := mul_rows (dig a) (dig b) ao bo ca cb w hra hrb (okV_dig a) (okV_dig b) (by omega) (by omega) h0 h0'
  rw [natV_dig, natV_dig] at this
  exact this
theorem sub_any (a b : Nat) (va vb : Value) (w : World) (ha : BigV w va a) (hb : BigV w vb b) (hla : a < B32 ^ 10000) (hle : b ≤ a) (ha0 : a ≠ 0) :
    Calls Try.prog 48 #[va, vb] w fun e w' => (∃ v, e = .returned v ∧ BigV w' v (a - b)) ∧ Below w.heap.size w w' := by
  obtain ⟨ao, ca, rfl, hra⟩ := ha
  obtain ⟨bo, cb, rfl, hrb⟩ := hb
  have h1 := dig_len 10000 a hla
  have h0 : dig a ≠ [] := fun e => ha0 (by have := natV_dig a; rw [e] at this; exact this.symm)
  have := sub_rows (dig a) (dig b) ao bo ca cb w hra hrb (okV_dig a) (okV_dig b) (by omega) (len_le hle) (by rw [natV_dig, natV_dig]; exact hle) h0
  rw [natV_dig, natV_dig] at this
  exact this
theorem cmp_any (a b : Nat) (va vb : Value) (w : World) (ha : BigV w va a) (hb : BigV w vb b) (hla : a < B32 ^ 10000) (hlb : b < B32 ^ 10000) :
    Calls Try.prog 46 #[va, vb] w fun e w' => e = .returned (.int .i64 (ordI a b)) ∧ Below w.heap.size w w' := by
  obtain ⟨ao, ca, rfl, hra⟩ := ha
  obtain ⟨bo, cb, rfl, hrb⟩ := hb
  have h1 := dig_len 10000 a hla
  have h2 := dig_len 10000 b hlb
  have := cmp_rows (dig a) (dig b) ao bo ca cb w hra hrb (okV_dig a) (okV_dig b) (by omega) (by omega) (fun h => by rw [natV_dig, natV_dig]; exact len_lt h) (fun h => by rw [natV_dig, natV_dig]; exact len_lt h)
  rw [natV_dig, natV_dig] at this
  exact this
theorem left8_any (a : Nat) (va : Value) (w : World) (ha : BigV w va a) (hla : a < B32 ^ 10000) :
    Calls Try.prog 66 #[va, .int .u64 8] w fun e w' => (∃ v, e = .returned v ∧ BigV w' v (a * 256)) ∧ Below w.heap.size w w' := by
  obtain ⟨ao, ca, rfl, hra⟩ := ha
  have h1 := dig_len 10000 a hla
  have := left8_rows (dig a) ao ca w hra (okV_dig a) (by omega)
  rw [natV_dig] at this
  exact this
end Go.Proofs.Ytbnpajijbdddiaa
