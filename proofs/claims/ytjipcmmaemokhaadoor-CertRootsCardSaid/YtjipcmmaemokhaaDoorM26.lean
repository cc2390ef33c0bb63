/- isFactor of the program. -/
import Derived.Test.YtjipcmmaemokhaaDoorM18
import Derived.Test.YtjipcmmaemokhaaDoorM16
namespace Go.Proofs.YtjipcmmaemokhaaDoor
open Go.RowKit Go.Shelf
set_option linter.unusedVariables false

/-- may it be one of the two? -/
def isFacB (s : ByteArray) : Bool := decide (1 ≤ s.size) && decide (s.size ≤ 96) && decide (¬ (s.data.toList.headD 0).toNat = 0)
theorem head_byte (s : ByteArray) (h0 : 1 ≤ s.size) : ∀ h, ((s[0]'h).toNat : Int) = ((s.data.toList.headD 0).toNat : Int) := by
  intro h
  congr 2
  have hne : s.data.toList = s[0] :: s.data.toList.tail := by
    have : s.data.toList ≠ [] := by
      intro hh
      have hz : s.size = s.data.toList.length := by simp
      rw [hh, List.length_nil] at hz
      omega
    cases hh : s.data.toList with
    | nil => exact absurd hh this
    | cons a t =>
      have : s[0] = a := by
        show s.data[0] = a
        rw [← Array.getElem_toList]
        simp [hh]
      rw [this]; rfl
  rw [hne]; rfl

set_option maxHeartbeats 1000000 in
set_option maxRecDepth 100000 in
theorem isFactor_any (s : ByteArray) (w : World) :
    Calls Tryd.prog 13 #[.string s] w fun e w' => e = .returned (.bool (isFacB s)) ∧ w' = w := by
  by_cases h1 : 1 ≤ s.size
  · by_cases h2 : s.size ≤ 96
    · have x0 := head_byte s h1
      have hm : isFacB s = decide (¬ (s.data.toList.headD 0).toNat = 0) := by
        unfold isFacB
        rw [decide_eq_true h1, decide_eq_true h2]
        simp
      rw [hm]
      clear hm
      have hcb : (s.data.toList.headD 0).toNat < 256 := UInt8.toNat_lt _
      generalize (s.data.toList.headD 0).toNat = c at *
      have k1 : (1 : Int) ≤ (s.size : Int) := by omega
      have k2 : (s.size : Int) ≤ 96 := by omega
      by_cases h3 : c = 0
      · rw [decide_eq_false (by omega)]
        have k3 : ((c : Int) != 0) = false := by simp [h3]
        clear h3
        go_enter Tryd.func13, Tryd.ntmps13
        go_wp2
        go_ret
        exact ⟨rfl, rfl⟩
      · rw [decide_eq_true h3]
        have k3 : ((c : Int) != 0) = true := by simp; omega
        clear h3
        go_enter Tryd.func13, Tryd.ntmps13
        go_wp2
        go_ret
        exact ⟨rfl, rfl⟩
    · have hm : isFacB s = false := by unfold isFacB; rw [decide_eq_false h2]; simp
      rw [hm]
      have k1 : (1 : Int) ≤ (s.size : Int) := by omega
      have k2 : ¬ (s.size : Int) ≤ 96 := by omega
      clear hm
      go_enter Tryd.func13, Tryd.ntmps13
      go_wp2
      go_ret
      exact ⟨rfl, rfl⟩
  · have hm : isFacB s = false := by unfold isFacB; rw [decide_eq_false h1]; simp
    rw [hm]
    have k1 : ¬ (1 : Int) ≤ (s.size : Int) := by omega
    clear hm
    go_enter Tryd.func13, Tryd.ntmps13
    go_wp2
    go_ret
    exact ⟨rfl, rfl⟩
end Go.Proofs.YtjipcmmaemokhaaDoor
namespace Go.Proofs.YtjipcmmaemokhaaDoor
open Go.RowKit Go.Shelf
set_option linter.unusedVariables false

set_option maxHeartbeats 1000000 in
theorem zeros_three (w : World) :
    Calls Tryd.prog 32 #[.int .u64 3] w fun e w' => e = .returned (.int .i64 62) ∧ w' = w := by
  have N0 := len64_any 3 (by decide) w
  rw [show Lib.bitLen 3 = 2 by first | rfl | decide | simp [Lib.bitLen]] at N0
  have N := hide N0
  clear N0
  go_enter Tryd.func32, Tryd.ntmps32
  go_wp2_with fail
  refine (unhide N).mono ?_
  rintro e w' ⟨rfl, rfl⟩
  go_wp2
  go_ret
  exact ⟨rfl, rfl⟩
end Go.Proofs.YtjipcmmaemokhaaDoor
