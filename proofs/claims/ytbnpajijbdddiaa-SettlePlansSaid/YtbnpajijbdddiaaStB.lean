/- Who has least and who has most: ends of the program. -/
import Derived.Test.YtbnpajijbdddiaaStA
namespace Go.Proofs.Ytbnpajijbdddiaa
open Go.RowKit
set_option linter.unusedVariables false

/-- what each has, in a block of positions -/
def HasAt (w : World) (g : Nat) (hs : List Int) : Prop := ∀ i, i < hs.length → w.cell? ⟨g, i * 2 + 1, none⟩ = some (.int .i64 (atH hs i))
set_option maxHeartbeats 2000000 in
theorem ends_any (l : List Int) (g cap : Nat) (w : World) (h : HasAt w g l) (h0 : 0 < l.length) (h99 : l.length ≤ 99) :
    Calls Try.prog 16 #[.slice (some ⟨g, 0, none⟩) l.length cap] w fun e w' => e = .returned (.tuple #[.pointer (some ⟨g, lowI l * 2, none⟩), .pointer (some ⟨g, topI l * 2, none⟩)]) ∧ ∃ q, w' = w.drewN q := by
  have hl99 : (l.length : Int) ≤ 99 := by omega
  have hl0 : (0 : Int) < (l.length : Int) := by omega
  have H := hide h
  have hlow : lowI l = minF (atH l) l.length := rfl
  have htop : topI l = minF (fun i => -(atH l i)) l.length := rfl
  rw [hlow, htop]
  generalize hf : atH l = f at *
  have HF := hide hf
  clear h hlow htop hf
  go_enter Try.func16, Try.ntmps16
  go_wp2_with fail
  go_quiet (fail)
  go_wp2
  go_loopw [4, 5, 13] (fun a b i wr => ∃ k : Nat, k ≤ l.length ∧ i = .int .i64 k ∧ a = .pointer (some ⟨g, minF f k * 2, none⟩) ∧ b = .pointer (some ⟨g, minF (fun i => -(f i)) k * 2, none⟩) ∧ ∃ q, wr = w.drewN q) (fun _ _ i _ => l.length - (intOf i).toNat)
  case atStart => exact ⟨0, Nat.zero_le _, rfl, by simp [minF], by simp [minF], _, rfl⟩
  case round =>
    obtain ⟨k, hk, rfl, rfl, rfl, q, rfl⟩ := hrel
    by_cases hlt : k < l.length
    · have d0 : w.cell? ⟨g, k * 2 + 1, none⟩ = some (.int .i64 (f k)) := by rw [← unhide HF]; exact unhide H k hlt
      have hm : minF f k < l.length := by
        rcases Nat.eq_zero_or_pos k with rfl | hk0
        · exact h0
        · have := (minF_spec f k hk0).1; omega
      have ht : minF (fun i => -(f i)) k < l.length := by
        rcases Nat.eq_zero_or_pos k with rfl | hk0
        · exact h0
        · have := (minF_spec (fun i => -(f i)) k hk0).1; omega
      have d1 : w.cell? ⟨g, minF f k * 2 + 1, none⟩ = some (.int .i64 (f (minF f k))) := by rw [← unhide HF]; exact unhide H _ (by rw [unhide HF]; exact hm)
      have d2 : w.cell? ⟨g, minF (fun i => -(f i)) k * 2 + 1, none⟩ = some (.int .i64 (f (minF (fun i => -(f i)) k))) := by rw [← unhide HF]; exact unhide H _ (by rw [unhide HF]; exact ht)
      have e1 : minF f (k + 1) = if f k < f (minF f k) then k else minF f k := rfl
      have e2 : minF (fun i => -(f i)) (k + 1) = if f (minF (fun i => -(f i)) k) < f k then k else minF (fun i => -(f i)) k := by
        rw [minF]
        by_cases hx : f (minF (fun i => -(f i)) k) < f k
        · rw [if_pos hx, if_pos (by show -(f k) < -(f _); omega)]
        · rw [if_neg hx, if_neg (by show ¬ (-(f k) < -(f _)); omega)]
      have E1 := hide e1; have E2 := hide e2
      have hki : (k : Int) < (l.length : Int) := by omega
      generalize minF f k = m at *
      generalize minF (fun i => -(f i)) k = t at *
      clear e1 e2 hm ht
      by_cases c1 : f k < f m
      · by_cases c2 : f t < f k
        · rw [if_pos c1] at E1; rw [if_pos c2] at E2
          go_wp2_with fail
          go_quiet (fail)
          go_wp2_with fail
          go_quiet (fail)
          go_wp2
          go_roundw
          case rel => exact ⟨k + 1, by omega, by go_num, by rw [unhide E1], by rw [unhide E2], _, rfl⟩
          case measure => simp [intOf]; omega
        · rw [if_pos c1] at E1; rw [if_neg c2] at E2
          go_wp2_with fail
          go_quiet (fail)
          go_wp2_with fail
          go_quiet (fail)
          go_wp2
          go_roundw
          case rel => exact ⟨k + 1, by omega, by go_num, by rw [unhide E1], by rw [unhide E2], _, rfl⟩
          case measure => simp [intOf]; omega
      · by_cases c2 : f t < f k
        · rw [if_neg c1] at E1; rw [if_pos c2] at E2
          go_wp2_with fail
          go_quiet (fail)
          go_wp2_with fail
          go_quiet (fail)
          go_wp2
          go_roundw
          case rel => exact ⟨k + 1, by omega, by go_num, by rw [unhide E1], by rw [unhide E2], _, rfl⟩
          case measure => simp [intOf]; omega
        · rw [if_neg c1] at E1; rw [if_neg c2] at E2
          go_wp2_with fail
          go_quiet (fail)
          go_wp2_with fail
          go_quiet (fail)
          go_wp2
          go_roundw
          case rel => exact ⟨k + 1, by omega, by go_num, by rw [unhide E1], by rw [unhide E2], _, rfl⟩
          case measure => simp [intOf]; omega
    · have hkl : k = l.length := by omega
      subst hkl
      go_wp2
      go_ret2
      exact ⟨rfl, _, rfl⟩
end Go.Proofs.Ytbnpajijbdddiaa
