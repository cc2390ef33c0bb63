/- What is read of what was written, plain. -/
import Derived.Test.YtamamlpicookiaeSameP
namespace Go.Proofs.Ytamamlpicookiae
open Go.RowKit
set_option linter.unusedVariables false

theorem reads_print {l : List XApp} (h : appsE l = 0) : readsL (appsT l) = l ∧ readsE (appsT l) = 0 := by
  have := readA_of appP_item h
  unfold readsL readsE
  rw [this]
  exact ⟨rfl, rfl⟩
theorem appsT_nil : appsT [] = ⟨#[]⟩ := by decide +kernel
theorem reads_none {s : ByteArray} (h : readsE s ≠ 0) : readsE s = 1 ∧ readsL s = [] ∧ s ≠ ⟨#[]⟩ := by
  cases hr : readA (appP 7) s with
  | some l => exact absurd (by unfold readsE; rw [hr]; rfl) h
  | none =>
    refine ⟨by unfold readsE; rw [hr]; rfl, by unfold readsL; rw [hr]; rfl, fun e => ?_⟩
    have := readA_of appP_item (l := []) rfl
    rw [appsT_nil, ← e, hr] at this
    cases this
theorem reads_some {s : ByteArray} (h : readsE s = 0) : appsE (readsL s) = 0 ∧ appsS (readsL s) = s := by
  cases hr : readA (appP 7) s with
  | none => exfalso; unfold readsE at h; rw [hr] at h; cases h
  | some l =>
    obtain ⟨a, b⟩ := readA_some hr
    have e : readsL s = l := by unfold readsL; rw [hr]; rfl
    rw [e]
    exact ⟨a, by unfold appsS; rw [if_pos a, b]⟩
theorem reads_length (s : ByteArray) : (readsL s).length ≤ 20 := by
  cases hr : readA (appP 7) s with
  | none => unfold readsL; rw [hr]; exact Nat.zero_le _
  | some l =>
    have e : readsL s = l := by unfold readsL; rw [hr]; rfl
    rw [e]
    exact (apps_sized (readA_some hr).1).1
theorem appsT_size {l : List XApp} (h : appsE l = 0) : (appsT l).size ≤ maxLen := by
  have hE := printsE_apps h
  cases hm : measD 2 (l.map itemI) with
  | none => rw [hm] at hE; cases hE
  | some sp =>
    obtain ⟨s, p⟩ := sp
    rw [hm] at hE
    have h1 : (if 8 < p ∨ 65535 < s then (2 : Int) else 0) = 0 := hE
    by_cases hc : 8 < p ∨ 65535 < s
    · rw [if_pos hc] at h1; cases h1
    · have e : appsT l = strOfNums (textD 2 (l.map itemI)) := by
        unfold appsT printsS
        rw [printsE_apps h, if_pos rfl]
      rw [e, strOfNums_size, meas_text 2 _ s p hm]
      unfold maxLen
      omega
end Go.Proofs.Ytamamlpicookiae
