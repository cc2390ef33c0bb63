/- What a modulus is, by the document's own. -/
import Derived.Test.YtkplmejcoehpiaaGreatM43
import Derived.Test.YtkplmejcoehpiaaGreatM42
import Derived.Deep.QuietTactic
namespace Go.Proofs.YtkplmejcoehpiaaGreat
open Go.RowKit Go.Shelf
set_option linter.unusedVariables false

set_option maxHeartbeats 1000000 in
set_option maxRecDepth 100000 in
theorem rmodulus_any (s : ByteArray) (w : World) :
    Calls Tryz.prog 29 #[.string s] w fun e w' => e = .returned (.bool (isModB s)) ∧ w' = w := by
  by_cases h1 : 40 ≤ s.size
  · by_cases h2 : s.size ≤ 96
    · obtain ⟨c, hc⟩ : ∃ c : Nat, c = (s.data.toList.headD 0).toNat := ⟨_, rfl⟩
      obtain ⟨d, hd⟩ : ∃ d : Nat, d = (s.data.toList.getLastD 0).toNat := ⟨_, rfl⟩
      have hm : isModB s = (decide (128 ≤ c) && decide (d % 2 = 1)) := by
        unfold isModB
        rw [← hc, ← hd, decide_eq_true h1, decide_eq_true h2]
        simp
      rw [hm]
      have hcb : c < 256 := by rw [hc]; exact UInt8.toNat_lt _
      have hdb : d < 256 := by rw [hd]; exact UInt8.toNat_lt _
      obtain ⟨l, hl⟩ : ∃ l, l = s.size - 1 := ⟨_, rfl⟩
      have hli : (s.size : Int) - 1 = (l : Int) := by omega
      have hls : l < s.size := by omega
      have x0 : ∀ h, ((s[0]'h).toNat : Int) = (c : Int) := by
        intro h
        rw [hc]
        congr 2
        have hne : s.data.toList = s[0] :: s.data.toList.tail := by
          have : s.data.toList ≠ [] := by
            intro hh
            have hz : s.size = s.data.toList.length := by simp
            rw [hh, List.length_nil] at hz
            omega
          cases hh : s.data.toList with
          | nil => exact absurd hh this
          | cons a t =>
            have : s[0] = a := by
              show s.data[0] = a
              rw [← Array.getElem_toList]
              simp [hh]
            rw [this]; rfl
        rw [hne]; rfl
      have x1 : ∀ h, ((s[l]'h).toNat : Int) = (d : Int) := by
        intro h
        rw [hd]
        congr 2
        show s.data[l] = _
        rw [List.getLastD_eq_getLast?, List.getLast?_eq_getElem?, ← Array.getElem_toList]
        have hz : s.size = s.data.size := rfl
        rw [show s.data.toList.length - 1 = l by rw [hl, hz]; simp, List.getElem?_eq_getElem (by rw [Array.length_toList, ← hz]; omega)]
        rfl
      clear hc hd hm
      have k1 : (40 : Int) ≤ (s.size : Int) := by omega
      have k2 : (s.size : Int) ≤ 96 := by omega
      by_cases h3 : 128 ≤ c
      · rw [decide_eq_true h3, Bool.true_and]
        have k3 : (127 : Int) < (c : Int) := by omega
        have h4 : d % 2 = 0 ∨ d % 2 = 1 := by omega
        rcases h4 with h4 | h4
        · rw [h4]
          have k4 : (d : Int) % 2 = 0 := by omega
          clear h4 h3 hl
          go_enter Tryz.func29, Tryz.ntmps29
          go_wp2
          go_ret
          exact ⟨rfl, rfl⟩
        · rw [h4]
          have k4 : (d : Int) % 2 = 1 := by omega
          clear h4 h3 hl
          go_enter Tryz.func29, Tryz.ntmps29
          go_wp2
          go_ret
          exact ⟨rfl, rfl⟩
      · rw [decide_eq_false h3, Bool.false_and]
        have k3 : ¬ (127 : Int) < (c : Int) := by omega
        clear h3 hl
        go_enter Tryz.func29, Tryz.ntmps29
        go_wp2
        go_ret
        exact ⟨rfl, rfl⟩
    · have hm : isModB s = false := by unfold isModB; rw [decide_eq_false h2]; simp
      rw [hm]
      have k1 : (40 : Int) ≤ (s.size : Int) := by omega
      have k2 : ¬ (s.size : Int) ≤ 96 := by omega
      clear hm
      go_enter Tryz.func29, Tryz.ntmps29
      go_wp2
      go_ret
      exact ⟨rfl, rfl⟩
  · have hm : isModB s = false := by unfold isModB; rw [decide_eq_false h1]; simp
    rw [hm]
    have k1 : ¬ (40 : Int) ≤ (s.size : Int) := by omega
    clear hm
    go_enter Tryz.func29, Tryz.ntmps29
    go_wp2
    go_ret
    exact ⟨rfl, rfl⟩
end Go.Proofs.YtkplmejcoehpiaaGreat
namespace Go.Proofs.YtkplmejcoehpiaaGreat
open Go.RowKit Go.Shelf
set_option linter.unusedVariables false

/-- may it be one of the two? -/
def isFacB (s : ByteArray) : Bool := decide (1 ≤ s.size) && decide (s.size ≤ 96) && decide (¬ (s.data.toList.headD 0).toNat = 0)
theorem head_byte (s : ByteArray) (h0 : 1 ≤ s.size) : ∀ h, ((s[0]'h).toNat : Int) = ((s.data.toList.headD 0).toNat : Int) := by
  intro h
  congr 2
  have hne : s.data.toList = s[0] :: s.data.toList.tail := by
    have : s.data.toList ≠ [] := by
      intro hh
      have hz : s.size = s.data.toList.length := by simp
      rw [hh, List.length_nil] at hz
      omega
    cases hh : s.data.toList with
    | nil => exact absurd hh this
    | cons a t =>
      have : s[0] = a := by
        show s.data[0] = a
        rw [← Array.getElem_toList]
        simp [hh]
      rw [this]; rfl
  rw [hne]; rfl

set_option maxHeartbeats 1000000 in
set_option maxRecDepth 100000 in
theorem isFactor_any (s : ByteArray) (w : World) :
    Calls Tryz.prog 13 #[.string s] w fun e w' => e = .returned (.bool (isFacB s)) ∧ w' = w := by
  by_cases h1 : 1 ≤ s.size
  · by_cases h2 : s.size ≤ 96
    · have x0 := head_byte s h1
      have hm : isFacB s = decide (¬ (s.data.toList.headD 0).toNat = 0) := by
        unfold isFacB
        rw [decide_eq_true h1, decide_eq_true h2]
        simp
      rw [hm]
      clear hm
      have hcb : (s.data.toList.headD 0).toNat < 256 := UInt8.toNat_lt _
      generalize (s.data.toList.headD 0).toNat = c at *
      have k1 : (1 : Int) ≤ (s.size : Int) := by omega
      have k2 : (s.size : Int) ≤ 96 := by omega
      by_cases h3 : c = 0
      · rw [decide_eq_false (by omega)]
        have k3 : ((c : Int) != 0) = false := by simp [h3]
        clear h3
        go_enter Tryz.func13, Tryz.ntmps13
        go_wp2
        go_ret
        exact ⟨rfl, rfl⟩
      · rw [decide_eq_true h3]
        have k3 : ((c : Int) != 0) = true := by simp; omega
        clear h3
        go_enter Tryz.func13, Tryz.ntmps13
        go_wp2
        go_ret
        exact ⟨rfl, rfl⟩
    · have hm : isFacB s = false := by unfold isFacB; rw [decide_eq_false h2]; simp
      rw [hm]
      have k1 : (1 : Int) ≤ (s.size : Int) := by omega
      have k2 : ¬ (s.size : Int) ≤ 96 := by omega
      clear hm
      go_enter Tryz.func13, Tryz.ntmps13
      go_wp2
      go_ret
      exact ⟨rfl, rfl⟩
  · have hm : isFacB s = false := by unfold isFacB; rw [decide_eq_false h1]; simp
    rw [hm]
    have k1 : ¬ (1 : Int) ≤ (s.size : Int) := by omega
    clear hm
    go_enter Tryz.func13, Tryz.ntmps13
    go_wp2
    go_ret
    exact ⟨rfl, rfl⟩
end Go.Proofs.YtkplmejcoehpiaaGreat
namespace Go.Proofs.YtkplmejcoehpiaaGreat
open Go.RowKit Go.Shelf
set_option linter.unusedVariables false

set_option maxHeartbeats 1000000 in
theorem zeros_three (w : World) :
    Calls Tryz.prog 98 #[.int .u64 3] w fun e w' => e = .returned (.int .i64 62) ∧ w' = w := by
  have N0 := len64_any 3 (by decide) w
  rw [show Lib.bitLen 3 = 2 by first | rfl | decide | simp [Lib.bitLen]] at N0
  have N := hide N0
  clear N0
  go_enter Tryz.func98, Tryz.ntmps98
  go_wp2_with fail
  refine (unhide N).mono ?_
  rintro e w' ⟨rfl, rfl⟩
  go_wp2
  go_ret
  exact ⟨rfl, rfl⟩
end Go.Proofs.YtkplmejcoehpiaaGreat
namespace Go.Proofs.YtkplmejcoehpiaaGreat
open Go.RowKit Go.Shelf
set_option linter.unusedVariables false

set_option maxHeartbeats 1000000 in
set_option maxRecDepth 100000 in
theorem div3_zero (lo : Nat) (hlo : lo < B64) (w : World) :
    Calls Tryz.prog 79 #[.int .u64 0, .int .u64 lo, .int .u64 3] w fun e w' => e = .returned (.tuple #[.int .u64 (lo / 3 : Nat), .int .u64 (lo % 3 : Nat)]) ∧ Below w.heap.size w w' := by
  have k1 : IntKind.u64.wrap ((lo : Int) / 3) = ((lo / 3 : Nat) : Int) := by
    have hlo' : lo < 18446744073709551616 := hlo
    rw [show ((lo : Int) / 3) = ((lo / 3 : Nat) : Int) by omega]
    exact Mul64.wrapN (lo / 3) (Nat.lt_of_le_of_lt (Nat.div_le_self lo 3) hlo)
  go_enter Tryz.func79, Tryz.ntmps79
  go_wp2_with fail
  go_quiet (fail)
  go_wp2
  go_ret2
  exact ⟨rfl, below_drewN (Below.refl _ _) _⟩
end Go.Proofs.YtkplmejcoehpiaaGreat
