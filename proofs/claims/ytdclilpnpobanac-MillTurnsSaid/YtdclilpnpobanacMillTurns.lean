/- For every key and block, whatever they are: Turn answers what the document's own Turn answers, Back the block of which that one makes this block; what is no key or no block is refused. No conditions. -/
import Derived.Test.YtdclilpnpobanacRows
import Derived.Test.YtdclilpnpobanacMillR
import Derived.WalkKit
import Derived.ProofKit
import Derived.OpenShut
import Derived.ShutString
import Derived.ChangeOld
import Derived.Below
namespace Go.Proofs.Ytdclilpnpobanac
open Go.ChangeShapes Go.WideShapes Go.ChangeAt Go.RowKit
open Go.ChangeMaps (open_string shut_string)
set_option linter.unusedVariables false

set_option maxHeartbeats 2000000 in
set_option maxRecDepth 100000 in
theorem walkMillTurns (a0 a1 : ByteArray) (w0 : a0.size ≤ maxLen) (w1 : a1.size ≤ maxLen) (w : World) :
    Calls Try.prog 3 #[.string a0, .string a1] w fun e w' => e = .returned (.bool true) ∧ Below w.heap.size w w' := by
  by_cases h : a0.size = 16 ∧ a1.size = 16
  · have n1 := fun w => turn_yes a0 a1 h.1 h.2 w
    have n2 := fun w => back_yes a0 a1 h.1 h.2 w
    have n3 := fun w => rturn_any a0 a1 h.1 h.2 w
    have n4 := fun w => rturn_any a0 (backS a0 a1) h.1 (backS_size _ _) w
    rw [turn_back a0 a1 h.2] at n4
    have t0 := len_eq a0 h.1
    have t1 := len_eq a1 h.2
    generalize turnS a0 a1 = x at *
    generalize backS a0 a1 = y at *
    have N1 := hide n1; have N2 := hide n2; have N3 := hide n3; have N4 := hide n4
    clear n1 n2 n3 n4 h w0 w1
    go_enter Try.func3, Try.ntmps3
    go_wp2_with fail
    refine (unhide N1 _).mono ?_
    rintro e x1 ⟨rfl, b1⟩
    go_wp2_with fail
    refine (unhide N2 _).mono ?_
    rintro e x2 ⟨rfl, b2⟩
    go_wp2_with fail
    refine (unhide N3 _).mono ?_
    rintro e x3 ⟨rfl, b3⟩
    go_wp2_with fail
    refine (unhide N4 _).mono ?_
    rintro e x4 ⟨rfl, b4⟩
    have h2 := b1.trans (b2.mono b1.size)
    have h3 := h2.trans (b3.mono h2.size)
    have h4 := h3.trans (b4.mono h3.size)
    clear N1 N2 N3 N4 b1 b2 b3 b4 h2 h3
    go_wp2
    go_ret
    exact ⟨ret_bool (by simp), h4⟩
  · have n1 := fun w => turn_no a0 a1 (by omega) w
    have n2 := fun w => back_no a0 a1 (by omega) w
    have N1 := hide n1; have N2 := hide n2
    clear n1 n2 w0 w1
    have ht : ((a0.size : Int) != 16) = true ∨ ((a0.size : Int) != 16) = false ∧ ((a1.size : Int) != 16) = true := by
      by_cases h0 : a0.size = 16
      · exact .inr ⟨len_eq a0 h0, len_ne a1 (fun h2 => h ⟨h0, h2⟩)⟩
      · exact .inl (len_ne a0 h0)
    clear h
    rcases ht with t1 | ⟨t1, t2⟩
    all_goals
      go_enter Try.func3, Try.ntmps3
      go_wp2_with fail
      refine (unhide N1 _).mono ?_
      rintro e x1 ⟨rfl, rfl⟩
      go_wp2_with fail
      refine (unhide N2 _).mono ?_
      rintro e x2 ⟨rfl, rfl⟩
      go_wp2
      go_ret
      exact ⟨ret_bool (by simp), Below.refl _ _⟩

theorem ownMillTurns : ownKnob Try.prog.godebug = none := by kernel_rfl
set_option maxRecDepth 100000 in
theorem liftedMillTurns (os : Os) (started : os.Started) (H : Type) (enc : TypeId × Value → H) :
    ReturnsInHanded {} Try.checked os 3 .any (Rows.millTurnsSpec.pre6 enc Try.prog Try.f3 Rows.millTurnsRow.domain false) (Rows.millTurnsSpec.post enc Try.prog Try.f3 false true false false) := by
  refine returnsInHanded_of_change (C := Try.checked) ownMillTurns started (by kernel_rfl) Try.func3
    (ChangeSpec.witness6 (enc := enc) (C := Try.checked) false ⟨#[], #[.string ByteArray.empty, .string ByteArray.empty], []⟩ 8 (by kernel_rfl) (by kernel_rfl) (by kernel_rfl) (by kernel_rfl)) ?_
  intro W base args ds gs before hval0 hW hcnd _
  have hval : ∀ (j : Nat) t v, Try.f3.params[j]? = some t → args[j]? = some v → Value.okWide Try.prog W .any base t v := hval0
  have hW' := hW
  obtain ⟨p, q, hA0, hV, rfl, hfz, hnd⟩ := hW
  have hA : DataW.TrodAll enc Try.prog W 0 (fun _ => true) true Try.f3.params.toList args.toList ds p := hA0
  rw [Try.params3] at hA hval
  obtain ⟨v0, vs0, d0, ds0, p0, q0, hargs, rfl, rfl, h0, r0⟩ := trodAll_cons hA
  obtain ⟨v1, vs1, d1, ds1, p1, q1, rfl, rfl, rfl, h1, r1⟩ := trodAll_cons r0
  obtain ⟨rfl, rfl, rfl⟩ := trodAll_nil r1
  obtain rfl : args = #[v0, v1] := by cases args; simp_all
  obtain ⟨rfl, rfl⟩ := trodVars_none hV
  obtain ⟨a0, rfl, rfl, rfl, w0⟩ := open_string Try.underlying9 (hval 0 9 v0 rfl rfl) h0
  obtain ⟨a1, rfl, rfl, rfl, w1⟩ := open_string Try.underlying9 (hval 1 9 v1 rfl rfl) h1
  clear hA0 hval0
  simp only [List.append_nil] at hW'
  refine (walkMillTurns a0 a1 w0 w1 W).mono fun e W' ⟨he, bel⟩ => ?_
  subst he
  exact ⟨_, rfl, _, _, _, [], [], [], hW', trodAll_mk1 (shut_bool Try.underlying4 _), (trodAll_cons_mk (shut_string Try.underlying9 w0) (trodAll_cons_mk (shut_string Try.underlying9 w1) trodAll_mk0)), rfl, bel.frame _, fun h => by cases h⟩

theorem overMillTurns : Rows.millTurnsRow.holds Try.pinned (OpenSpec.ofChange Rows.millTurnsSpec) :=
  OpenClaim.holds_of_wide 3 Try.f3 rfl rfl rfl rfl rfl rfl rfl ⟨rfl, rfl, rfl, rfl, rfl⟩ rfl rfl rfl rfl rfl (by kernel_rfl) Try.func3 (by kernel_rfl)
    (of_decide_eq_true (by kernel_rfl)) (by unfold Func.isWrapper; first | (rw [if_pos (by decide +kernel)]; kernel_rfl) | (rw [if_neg (by decide +kernel)]; exact ⟨rfl, rfl⟩))
    (fun os started H enc _ => liftedMillTurns os started H enc)

/-- THE STATEMENT -/
theorem millTurns_holds : Rows.MillTurnsSaid := overMillTurns
#print axioms millTurns_holds
end Go.Proofs.Ytdclilpnpobanac
