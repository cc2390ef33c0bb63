/- power of the program: the beginning. -/
import Derived.Test.YtolicaaifhfhcaaM20
import Derived.Test.YtolicaaifhfhcaaM21
import Derived.Deep.DeepCutAuto
import Derived.Deep.RegionHeld3
import Derived.WalkSmall
namespace Go.Proofs.Ytolicaaifhfhcaa
open Go.RowKit Go.Shelf
set_option linter.unusedVariables false

theorem pow_split2 (r : Nat) (hr : r < 64) : B64 = 2 ^ r * (2 ^ (63 - r) * 2) := by
  have hB : B64 = 2 ^ 64 := rfl
  rw [hB, ← Nat.pow_succ, ← Nat.pow_add]
  congr 1
  omega
theorem word_bit (x h E F : Nat) (hE : 0 < E) : (x + E * (F * 2) * h) / E % 2 = x / E % 2 := by
  rw [show E * (F * 2) * h = E * (F * h * 2) by grind, Nat.add_mul_div_left _ _ hE, Nat.add_mul_mod_self_right]
theorem natW_bit {xs : List Nat} {i q r x : Nat} (hx : okW xs) (hi : i = 64 * q + r) (hr : r < 64) (hq : xs[q]? = some x) : natW xs / 2 ^ i % 2 = x / 2 ^ r % 2 := by
  have hl : q < xs.length := by
    rcases Nat.lt_or_ge q xs.length with h | h
    · exact h
    · rw [List.getElem?_eq_none h] at hq; cases hq
  have e := natW_split xs q (by omega)
  have hd : xs.drop q = x :: xs.drop (q + 1) := by
    rw [List.drop_eq_getElem_cons hl]
    rw [List.getElem?_eq_getElem hl] at hq
    rw [Option.some.inj hq]
  rw [hd, natW] at e
  have hlow := natW_lt (okW_take hx q)
  rw [List.length_take, Nat.min_eq_left (by omega)] at hlow
  have hp : 0 < B64 ^ q := Nat.pow_pos B64_pos
  rw [hi, Nat.pow_add, ← B64_two, ← Nat.div_div_eq_div_mul, e, Nat.add_mul_div_left _ _ hp, Nat.div_eq_of_lt hlow, Nat.zero_add]
  conv => lhs; rw [pow_split2 r hr]
  exact word_bit x _ _ _ (Nat.pow_pos (by decide))
/-- a modulus that newModular made -/
structure ModOK (ms sq : List Nat) (m0 inv n : Nat) : Prop where
  lm : ms.length = n
  ls : sq.length = n
  om : okW ms
  os : okW sq
  odd : natW ms % 2 = 1
  big : 2 < natW ms
  hsq : natW sq = B64 ^ n * B64 ^ n % natW ms
  hm0 : ms[0]? = some m0
  hinv : (m0 * inv + 1) % B64 = 0
  hib : inv < B64
  n4 : 4 ≤ n
  n12 : n ≤ 12
end Go.Proofs.Ytolicaaifhfhcaa
namespace Go.Proofs.Ytolicaaifhfhcaa
open Go.RowKit Go.Shelf
set_option linter.unusedVariables false

theorem pow_step0 (x d i : Nat) (h : d / 2 ^ i % 2 = 0) : x ^ (d / 2 ^ i) = x ^ (d / 2 ^ (i + 1)) * x ^ (d / 2 ^ (i + 1)) := by
  have : d / 2 ^ (i + 1) = d / 2 ^ i / 2 := by rw [Nat.pow_succ, Nat.div_div_eq_div_mul]
  rw [← Nat.pow_add]
  congr 1
  omega
theorem pow_step1 (x d i : Nat) (h : d / 2 ^ i % 2 = 1) : x ^ (d / 2 ^ i) = x ^ (d / 2 ^ (i + 1)) * x ^ (d / 2 ^ (i + 1)) * x := by
  have : d / 2 ^ (i + 1) = d / 2 ^ i / 2 := by rw [Nat.pow_succ, Nat.div_div_eq_div_mul]
  rw [← Nat.pow_add, ← Nat.pow_succ]
  congr 1
  omega
theorem and_bit (y r : Nat) (bt : Int) (hy : y < B64) (h : ((y / 2 ^ r % 2 : Nat) : Int) = bt) : bits .and .u64 ((y : Int) / 2 ^ r) 1 = bt := by
  have e : ((y : Int) / 2 ^ r) = ((y / 2 ^ r : Nat) : Int) := by simp
  have hle : y / 2 ^ r ≤ y := Nat.div_le_self _ _
  have hy' : y < 18446744073709551616 := hy
  generalize y / 2 ^ r = z at *
  rw [e, and_one_u64 _ (Int.natCast_nonneg _) (by omega), ← h]
  rfl


end Go.Proofs.Ytolicaaifhfhcaa
namespace Go.Proofs.Ytolicaaifhfhcaa
open Go.RowKit Go.Shelf
set_option linter.unusedVariables false

/-- is it a modulus? -/
def isModB (s : ByteArray) : Bool := decide (40 ≤ s.size) && decide (s.size ≤ 96) && decide (128 ≤ (s.data.toList.headD 0).toNat) && decide ((s.data.toList.getLastD 0).toNat % 2 = 1)

set_option maxHeartbeats 1000000 in
set_option maxRecDepth 100000 in
theorem isModulus_any (s : ByteArray) (w : World) :
    Calls Try.prog 60 #[.string s] w fun e w' => e = .returned (.bool (isModB s)) ∧ w' = w := by
  by_cases h1 : 40 ≤ s.size
  · by_cases h2 : s.size ≤ 96
    · obtain ⟨c, hc⟩ : ∃ c : Nat, c = (s.data.toList.headD 0).toNat := ⟨_, rfl⟩
      obtain ⟨d, hd⟩ : ∃ d : Nat, d = (s.data.toList.getLastD 0).toNat := ⟨_, rfl⟩
      have hm : isModB s = (decide (128 ≤ c) && decide (d % 2 = 1)) := by
        unfold isModB
        rw [← hc, ← hd, decide_eq_true h1, decide_eq_true h2]
        simp
      rw [hm]
      have hcb : c < 256 := by rw [hc]; exact UInt8.toNat_lt _
      have hdb : d < 256 := by rw [hd]; exact UInt8.toNat_lt _
      obtain ⟨l, hl⟩ : ∃ l, l = s.size - 1 := ⟨_, rfl⟩
      have hli : (s.size : Int) - 1 = (l : Int) := by omega
      have hls : l < s.size := by omega
      have x0 : ∀ h, ((s[0]'h).toNat : Int) = (c : Int) := by
        intro h
        rw [hc]
        congr 2
        have hne : s.data.toList = s[0] :: s.data.toList.tail := by
          have : s.data.toList ≠ [] := by
            intro hh
            have hz : s.size = s.data.toList.length := by simp
            rw [hh, List.length_nil] at hz
            omega
          cases hh : s.data.toList with
          | nil => exact absurd hh this
          | cons a t =>
            have : s[0] = a := by
              show s.data[0] = a
              rw [← Array.getElem_toList]
              simp [hh]
            rw [this]; rfl
        rw [hne]; rfl
      have x1 : ∀ h, ((s[l]'h).toNat : Int) = (d : Int) := by
        intro h
        rw [hd]
        congr 2
        show s.data[l] = _
        rw [List.getLastD_eq_getLast?, List.getLast?_eq_getElem?, ← Array.getElem_toList]
        have hz : s.size = s.data.size := rfl
        rw [show s.data.toList.length - 1 = l by rw [hl, hz]; simp, List.getElem?_eq_getElem (by rw [Array.length_toList, ← hz]; omega)]
        rfl
      clear hc hd hm
      have k1 : (40 : Int) ≤ (s.size : Int) := by omega
      have k2 : (s.size : Int) ≤ 96 := by omega
      by_cases h3 : 128 ≤ c
      · rw [decide_eq_true h3, Bool.true_and]
        have k3 : (128 : Int) ≤ (c : Int) := by omega
        have h4 : d % 2 = 0 ∨ d % 2 = 1 := by omega
        rcases h4 with h4 | h4
        · rw [h4]
          have k4 : (d : Int) % 2 = 0 := by omega
          clear h4 h3 hl
          go_enter Try.func60, Try.ntmps60
          go_wp2
          go_ret
          exact ⟨rfl, rfl⟩
        · rw [h4]
          have k4 : (d : Int) % 2 = 1 := by omega
          clear h4 h3 hl
          go_enter Try.func60, Try.ntmps60
          go_wp2
          go_ret
          exact ⟨rfl, rfl⟩
      · rw [decide_eq_false h3, Bool.false_and]
        have k3 : ¬ (128 : Int) ≤ (c : Int) := by omega
        clear h3 hl
        go_enter Try.func60, Try.ntmps60
        go_wp2
        go_ret
        exact ⟨rfl, rfl⟩
    · have hm : isModB s = false := by unfold isModB; rw [decide_eq_false h2]; simp
      rw [hm]
      have k1 : (40 : Int) ≤ (s.size : Int) := by omega
      have k2 : ¬ (s.size : Int) ≤ 96 := by omega
      clear hm
      go_enter Try.func60, Try.ntmps60
      go_wp2
      go_ret
      exact ⟨rfl, rfl⟩
  · have hm : isModB s = false := by unfold isModB; rw [decide_eq_false h1]; simp
    rw [hm]
    have k1 : ¬ (40 : Int) ≤ (s.size : Int) := by omega
    clear hm
    go_enter Try.func60, Try.ntmps60
    go_wp2
    go_ret
    exact ⟨rfl, rfl⟩
end Go.Proofs.Ytolicaaifhfhcaa
namespace Go.Proofs.Ytolicaaifhfhcaa
open Go.RowKit Go.Shelf
set_option linter.unusedVariables false

set_option maxHeartbeats 1000000 in
set_option maxRecDepth 100000 in
theorem rmodulus_any (s : ByteArray) (w : World) :
    Calls Try.prog 43 #[.string s] w fun e w' => e = .returned (.bool (isModB s)) ∧ w' = w := by
  by_cases h1 : 40 ≤ s.size
  · by_cases h2 : s.size ≤ 96
    · obtain ⟨c, hc⟩ : ∃ c : Nat, c = (s.data.toList.headD 0).toNat := ⟨_, rfl⟩
      obtain ⟨d, hd⟩ : ∃ d : Nat, d = (s.data.toList.getLastD 0).toNat := ⟨_, rfl⟩
      have hm : isModB s = (decide (128 ≤ c) && decide (d % 2 = 1)) := by
        unfold isModB
        rw [← hc, ← hd, decide_eq_true h1, decide_eq_true h2]
        simp
      rw [hm]
      have hcb : c < 256 := by rw [hc]; exact UInt8.toNat_lt _
      have hdb : d < 256 := by rw [hd]; exact UInt8.toNat_lt _
      obtain ⟨l, hl⟩ : ∃ l, l = s.size - 1 := ⟨_, rfl⟩
      have hli : (s.size : Int) - 1 = (l : Int) := by omega
      have hls : l < s.size := by omega
      have x0 : ∀ h, ((s[0]'h).toNat : Int) = (c : Int) := by
        intro h
        rw [hc]
        congr 2
        have hne : s.data.toList = s[0] :: s.data.toList.tail := by
          have : s.data.toList ≠ [] := by
            intro hh
            have hz : s.size = s.data.toList.length := by simp
            rw [hh, List.length_nil] at hz
            omega
          cases hh : s.data.toList with
          | nil => exact absurd hh this
          | cons a t =>
            have : s[0] = a := by
              show s.data[0] = a
              rw [← Array.getElem_toList]
              simp [hh]
            rw [this]; rfl
        rw [hne]; rfl
      have x1 : ∀ h, ((s[l]'h).toNat : Int) = (d : Int) := by
        intro h
        rw [hd]
        congr 2
        show s.data[l] = _
        rw [List.getLastD_eq_getLast?, List.getLast?_eq_getElem?, ← Array.getElem_toList]
        have hz : s.size = s.data.size := rfl
        rw [show s.data.toList.length - 1 = l by rw [hl, hz]; simp, List.getElem?_eq_getElem (by rw [Array.length_toList, ← hz]; omega)]
        rfl
      clear hc hd hm
      have k1 : (40 : Int) ≤ (s.size : Int) := by omega
      have k2 : (s.size : Int) ≤ 96 := by omega
      by_cases h3 : 128 ≤ c
      · rw [decide_eq_true h3, Bool.true_and]
        have k3 : (127 : Int) < (c : Int) := by omega
        have h4 : d % 2 = 0 ∨ d % 2 = 1 := by omega
        rcases h4 with h4 | h4
        · rw [h4]
          have k4 : (d : Int) % 2 = 0 := by omega
          clear h4 h3 hl
          go_enter Try.func43, Try.ntmps43
          go_wp2
          go_ret
          exact ⟨rfl, rfl⟩
        · rw [h4]
          have k4 : (d : Int) % 2 = 1 := by omega
          clear h4 h3 hl
          go_enter Try.func43, Try.ntmps43
          go_wp2
          go_ret
          exact ⟨rfl, rfl⟩
      · rw [decide_eq_false h3, Bool.false_and]
        have k3 : ¬ (127 : Int) < (c : Int) := by omega
        clear h3 hl
        go_enter Try.func43, Try.ntmps43
        go_wp2
        go_ret
        exact ⟨rfl, rfl⟩
    · have hm : isModB s = false := by unfold isModB; rw [decide_eq_false h2]; simp
      rw [hm]
      have k1 : (40 : Int) ≤ (s.size : Int) := by omega
      have k2 : ¬ (s.size : Int) ≤ 96 := by omega
      clear hm
      go_enter Try.func43, Try.ntmps43
      go_wp2
      go_ret
      exact ⟨rfl, rfl⟩
  · have hm : isModB s = false := by unfold isModB; rw [decide_eq_false h1]; simp
    rw [hm]
    have k1 : ¬ (40 : Int) ≤ (s.size : Int) := by omega
    clear hm
    go_enter Try.func43, Try.ntmps43
    go_wp2
    go_ret
    exact ⟨rfl, rfl⟩
end Go.Proofs.Ytolicaaifhfhcaa
namespace Go.Proofs.Ytolicaaifhfhcaa
open Go.RowKit Go.Shelf
set_option linter.unusedVariables false

/-- may it be one of the two? -/
def isFacB (s : ByteArray) : Bool := decide (1 ≤ s.size) && decide (s.size ≤ 96) && decide (¬ (s.data.toList.headD 0).toNat = 0)
theorem head_byte (s : ByteArray) (h0 : 1 ≤ s.size) : ∀ h, ((s[0]'h).toNat : Int) = ((s.data.toList.headD 0).toNat : Int) := by
  intro h
  congr 2
  have hne : s.data.toList = s[0] :: s.data.toList.tail := by
    have : s.data.toList ≠ [] := by
      intro hh
      have hz : s.size = s.data.toList.length := by simp
      rw [hh, List.length_nil] at hz
      omega
    cases hh : s.data.toList with
    | nil => exact absurd hh this
    | cons a t =>
      have : s[0] = a := by
        show s.data[0] = a
        rw [← Array.getElem_toList]
        simp [hh]
      rw [this]; rfl
  rw [hne]; rfl

set_option maxHeartbeats 1000000 in
set_option maxRecDepth 100000 in
theorem isFactor_any (s : ByteArray) (w : World) :
    Calls Try.prog 55 #[.string s] w fun e w' => e = .returned (.bool (isFacB s)) ∧ w' = w := by
  by_cases h1 : 1 ≤ s.size
  · by_cases h2 : s.size ≤ 96
    · have x0 := head_byte s h1
      have hm : isFacB s = decide (¬ (s.data.toList.headD 0).toNat = 0) := by
        unfold isFacB
        rw [decide_eq_true h1, decide_eq_true h2]
        simp
      rw [hm]
      clear hm
      have hcb : (s.data.toList.headD 0).toNat < 256 := UInt8.toNat_lt _
      generalize (s.data.toList.headD 0).toNat = c at *
      have k1 : (1 : Int) ≤ (s.size : Int) := by omega
      have k2 : (s.size : Int) ≤ 96 := by omega
      by_cases h3 : c = 0
      · rw [decide_eq_false (by omega)]
        have k3 : ((c : Int) != 0) = false := by simp [h3]
        clear h3
        go_enter Try.func55, Try.ntmps55
        go_wp2
        go_ret
        exact ⟨rfl, rfl⟩
      · rw [decide_eq_true h3]
        have k3 : ((c : Int) != 0) = true := by simp; omega
        clear h3
        go_enter Try.func55, Try.ntmps55
        go_wp2
        go_ret
        exact ⟨rfl, rfl⟩
    · have hm : isFacB s = false := by unfold isFacB; rw [decide_eq_false h2]; simp
      rw [hm]
      have k1 : (1 : Int) ≤ (s.size : Int) := by omega
      have k2 : ¬ (s.size : Int) ≤ 96 := by omega
      clear hm
      go_enter Try.func55, Try.ntmps55
      go_wp2
      go_ret
      exact ⟨rfl, rfl⟩
  · have hm : isFacB s = false := by unfold isFacB; rw [decide_eq_false h1]; simp
    rw [hm]
    have k1 : ¬ (1 : Int) ≤ (s.size : Int) := by omega
    clear hm
    go_enter Try.func55, Try.ntmps55
    go_wp2
    go_ret
    exact ⟨rfl, rfl⟩
end Go.Proofs.Ytolicaaifhfhcaa
