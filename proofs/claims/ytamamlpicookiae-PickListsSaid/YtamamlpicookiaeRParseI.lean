/- Parse of the reference. -/
import Derived.Test.YtamamlpicookiaeRItems
import Derived.WalkKit
namespace Go.Proofs.Ytamamlpicookiae
open Go.RowKit
set_option linter.unusedVariables false

set_option maxRecDepth 1000000 in
theorem rparse_any (s : ByteArray) (w : World) (hs : s.size ≤ maxLen) :
    Calls Try.prog 21 #[.string s] w fun e w' => ∃ ao cap, e = .returned (.tuple #[.slice ao (parsesL s).length cap, .int .i64 (parsesE s)]) ∧ IRowA w' (fun b => w.heap.size ≤ b) 8 ao (parsesL s) ∧ Below w.heap.size w w' := by
  unfold maxLen at hs
  by_cases hb : 65535 < s.size
  · have h1 : parsesL s = [] := by unfold parsesL; rw [if_pos hb]
    have h2 : parsesE s = 2 := by unfold parsesE; rw [if_pos hb]
    rw [h1, h2]
    have t1 : decide (65535 < (s.size : Int)) = true := by simp; omega
    clear h1 h2
    go_enter Try.func21, Try.ntmps21
    go_wp2
    go_ret2
    exact ⟨none, 0, rfl, IRowA.nil _ _ _ _, Below.refl _ _⟩
  · have n1 := fun w => itemsOf_any 8 (Nat.le_refl _) (s.size + 1) s w (by omega) (by omega)
    have h1 : parsesL s = (parseD 8 s).getD [] := by unfold parsesL; rw [if_neg hb]
    have h2 : parsesE s = if (parseD 8 s).isSome then 0 else 1 := by unfold parsesE; rw [if_neg hb]
    rw [h1, h2]
    have hd : (9 : Int) - ((8 : Nat) : Int) = 1 := by omega
    rw [hd] at n1
    have t1 : decide (65535 < (s.size : Int)) = false := by simp; omega
    clear h1 h2 hd
    cases hp : parseD 8 s with
    | none =>
      unfold ItemsRet at n1
      rw [hp] at n1
      have N1 := hide n1
      clear n1 hp hb
      go_enter Try.func21, Try.ntmps21
      go_wp2_with fail
      refine (unhide N1 _).mono ?_
      rintro e w2 ⟨⟨v, rs, rfl, _, _, _⟩, hb2⟩
      go_wp2
      go_ret2
      first
        | exact ⟨none, 0, rfl, IRowA.nil _ _ _ _, hb2⟩
        | exact ⟨none, ⟨0, rfl⟩, IRowA.nil _ _ _ _, hb2⟩
    | some l =>
      have HP := hide hp
      have N1 := hide n1
      clear n1 hp hb
      go_enter Try.func21, Try.ntmps21
      go_wp2_with fail
      refine (unhide N1 _).mono ?_
      rintro e w2 ⟨hret, hb2⟩
      obtain ⟨ao, cap, rfl, hcap, hrow⟩ := items_row hret (unhide HP)
      have HW := hide hrow
      clear hrow hret
      go_wp2
      go_ret2
      first
        | exact ⟨ao, cap, rfl, unhide HW, hb2⟩
        | exact ⟨ao, ⟨cap, rfl⟩, unhide HW, hb2⟩
end Go.Proofs.Ytamamlpicookiae
