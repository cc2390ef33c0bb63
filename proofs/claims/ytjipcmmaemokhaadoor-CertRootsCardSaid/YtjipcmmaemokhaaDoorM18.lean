/- isModulus of the program. -/
import Derived.Test.YtjipcmmaemokhaaDoorM17
namespace Go.Proofs.YtjipcmmaemokhaaDoor
open Go.RowKit Go.Shelf
set_option linter.unusedVariables false

/-- is it a modulus? -/
def isModB (s : ByteArray) : Bool := decide (40 ≤ s.size) && decide (s.size ≤ 96) && decide (128 ≤ (s.data.toList.headD 0).toNat) && decide ((s.data.toList.getLastD 0).toNat % 2 = 1)

set_option maxHeartbeats 1000000 in
set_option maxRecDepth 100000 in
theorem isModulus_any (s : ByteArray) (w : World) :
    Calls Tryd.prog 18 #[.string s] w fun e w' => e = .returned (.bool (isModB s)) ∧ w' = w := by
  by_cases h1 : 40 ≤ s.size
  · by_cases h2 : s.size ≤ 96
    · obtain ⟨c, hc⟩ : ∃ c : Nat, c = (s.data.toList.headD 0).toNat := ⟨_, rfl⟩
      obtain ⟨d, hd⟩ : ∃ d : Nat, d = (s.data.toList.getLastD 0).toNat := ⟨_, rfl⟩
      have hm : isModB s = (decide (128 ≤ c) && decide (d % 2 = 1)) := by
        unfold isModB
        rw [← hc, ← hd, decide_eq_true h1, decide_eq_true h2]
        simp
      rw [hm]
      have hcb : c < 256 := by rw [hc]; exact UInt8.toNat_lt _
      have hdb : d < 256 := by rw [hd]; exact UInt8.toNat_lt _
      obtain ⟨l, hl⟩ : ∃ l, l = s.size - 1 := ⟨_, rfl⟩
      have hli : (s.size : Int) - 1 = (l : Int) := by omega
      have hls : l < s.size := by omega
      have x0 : ∀ h, ((s[0]'h).toNat : Int) = (c : Int) := by
        intro h
        rw [hc]
        congr 2
        have hne : s.data.toList = s[0] :: s.data.toList.tail := by
          have : s.data.toList ≠ [] := by
            intro hh
            have hz : s.size = s.data.toList.length := by simp
            rw [hh, List.length_nil] at hz
            omega
          cases hh : s.data.toList with
          | nil => exact absurd hh this
          | cons a t =>
            have : s[0] = a := by
              show s.data[0] = a
              rw [← Array.getElem_toList]
              simp [hh]
            rw [this]; rfl
        rw [hne]; rfl
      have x1 : ∀ h, ((s[l]'h).toNat : Int) = (d : Int) := by
        intro h
        rw [hd]
        congr 2
        show s.data[l] = _
        rw [List.getLastD_eq_getLast?, List.getLast?_eq_getElem?, ← Array.getElem_toList]
        have hz : s.size = s.data.size := rfl
        rw [show s.data.toList.length - 1 = l by rw [hl, hz]; simp, List.getElem?_eq_getElem (by rw [Array.length_toList, ← hz]; omega)]
        rfl
      clear hc hd hm
      have k1 : (40 : Int) ≤ (s.size : Int) := by omega
      have k2 : (s.size : Int) ≤ 96 := by omega
      by_cases h3 : 128 ≤ c
      · rw [decide_eq_true h3, Bool.true_and]
        have k3 : (128 : Int) ≤ (c : Int) := by omega
        have h4 : d % 2 = 0 ∨ d % 2 = 1 := by omega
        rcases h4 with h4 | h4
        · rw [h4]
          have k4 : (d : Int) % 2 = 0 := by omega
          clear h4 h3 hl
          go_enter Tryd.func18, Tryd.ntmps18
          go_wp2
          go_ret
          exact ⟨rfl, rfl⟩
        · rw [h4]
          have k4 : (d : Int) % 2 = 1 := by omega
          clear h4 h3 hl
          go_enter Tryd.func18, Tryd.ntmps18
          go_wp2
          go_ret
          exact ⟨rfl, rfl⟩
      · rw [decide_eq_false h3, Bool.false_and]
        have k3 : ¬ (128 : Int) ≤ (c : Int) := by omega
        clear h3 hl
        go_enter Tryd.func18, Tryd.ntmps18
        go_wp2
        go_ret
        exact ⟨rfl, rfl⟩
    · have hm : isModB s = false := by unfold isModB; rw [decide_eq_false h2]; simp
      rw [hm]
      have k1 : (40 : Int) ≤ (s.size : Int) := by omega
      have k2 : ¬ (s.size : Int) ≤ 96 := by omega
      clear hm
      go_enter Tryd.func18, Tryd.ntmps18
      go_wp2
      go_ret
      exact ⟨rfl, rfl⟩
  · have hm : isModB s = false := by unfold isModB; rw [decide_eq_false h1]; simp
    rw [hm]
    have k1 : ¬ (40 : Int) ≤ (s.size : Int) := by omega
    clear hm
    go_enter Tryd.func18, Tryd.ntmps18
    go_wp2
    go_ret
    exact ⟨rfl, rfl⟩
end Go.Proofs.YtjipcmmaemokhaaDoor
namespace Go.Proofs.YtjipcmmaemokhaaDoor
open Go.RowKit Go.Shelf
set_option linter.unusedVariables false

theorem valN_odd : ∀ l : List UInt8, valN l % 2 = (l.getLastD 0).toNat % 2
  | [] => rfl
  | [b] => by rw [valN_consN]; simp [valN]
  | b :: c :: l => by
    have ih := valN_odd (c :: l)
    rw [valN_consN, show (b :: c :: l).getLastD 0 = (c :: l).getLastD 0 by simp [List.getLastD], ← ih, List.length_cons, Nat.pow_succ]
    generalize valN (c :: l) = v
    rw [show b.toNat * (256 ^ l.length * 256) + v = v + 2 * (b.toNat * (256 ^ l.length * 128)) by grind, Nat.add_mul_mod_self_left]
theorem isMod_of {s : ByteArray} (h : isModB s = true) : IsMod s := by
  unfold isModB at h
  simp only [Bool.and_eq_true, decide_eq_true_eq] at h
  obtain ⟨⟨⟨h1, h2⟩, h3⟩, h4⟩ := h
  have ho := valN_odd s.data.toList
  rw [h4] at ho
  refine ⟨h1, h2, ?_, ho⟩
  have hz : s.size = s.data.toList.length := by simp
  rw [hz] at h1 ⊢
  generalize s.data.toList = l at *
  cases l with
  | nil => simp at h1
  | cons b t =>
    rw [valN_consN] at ho ⊢
    rw [List.length_cons] at *
    have hb : 128 ≤ b.toNat := h3
    have hp : 2 ^ (8 * (t.length + 1) - 1) = 128 * 256 ^ t.length := by
      rw [show (8 * (t.length + 1) - 1) = 7 + 8 * t.length by omega, Nat.pow_add, Nat.pow_mul]
    have he : 128 * 256 ^ t.length % 2 = 0 := by omega
    have hm : 128 * 256 ^ t.length ≤ b.toNat * 256 ^ t.length := Nat.mul_le_mul_right _ hb
    rw [hp]
    omega
end Go.Proofs.YtjipcmmaemokhaaDoor
