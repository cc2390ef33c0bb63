/- For every key, nonce and text, whatever they are: Hide of the program answers what the document's own Hide answers, and hidden twice a text is what it was; what is no key, no nonce or too long is refused. No conditions. -/
import Derived.Test.YtdclilpnpobanacRows
import Derived.Test.YtdclilpnpobanacMillH3
import Derived.WalkKit
import Derived.ProofKit
import Derived.OpenShut
import Derived.ShutString
import Derived.ChangeOld
import Derived.Below
namespace Go.Proofs.Ytdclilpnpobanac
open Go.ChangeShapes Go.WideShapes Go.ChangeAt Go.RowKit
open Go.ChangeMaps (open_string shut_string)
set_option linter.unusedVariables false

set_option maxHeartbeats 4000000 in
set_option maxRecDepth 100000 in
theorem walkMillHides (k n s : ByteArray) (w0 : k.size ≤ maxLen) (w1 : n.size ≤ maxLen) (w2 : s.size ≤ maxLen) (w : World) :
    Calls Try.prog 8 #[.string k, .string n, .string s] w fun e w' => e = .returned (.bool true) ∧ Below w.heap.size w w' := by
  by_cases h : k.size = 16 ∧ n.size = 8
  · have t0 := len_eq k h.1
    have t1 : ((n.size : Int) != 8) = false := by rw [bne_eq_false_iff_eq]; omega
    by_cases hs : (s.size : Int) ≤ 65536
    · have hz := hideS_size k n s
      have n2 := fun w => hide_yes k n (hideS k n s) h.1 h.2 (by rw [hz]; exact hs) w
      rw [hideS_twice] at n2
      have N1 := hide (fun w => hide_yes k n s h.1 h.2 hs w)
      have N2 := hide n2
      have N3 := hide (fun w => rhide_any k n s h.1 h.2 hs w)
      clear n2 hz h w0 w1 w2
      generalize hideS k n s = x at *
      go_enter Try.func8, Try.ntmps8
      go_wp2_with fail
      refine (unhide N1 _).mono ?_
      rintro e x1 ⟨rfl, b1⟩
      go_wp2_with fail
      refine (unhide N2 _).mono ?_
      rintro e x2 ⟨rfl, b2⟩
      have g2 := b1.trans (b2.mono b1.size)
      clear b1 b2
      go_wp2_with fail
      refine (unhide N3 _).mono ?_
      rintro e x3 ⟨rfl, b3⟩
      have g3 := g2.trans (b3.mono g2.size)
      clear b3 g2 N1 N2 N3
      go_wp2
      go_ret
      exact ⟨ret_bool (by simp), g3⟩
    · have hs2 : (65536 : Int) < (s.size : Int) := by omega
      have N1 := hide (fun w => hide_long k n s h.1 h.2 hs2 w)
      clear h w0 w1 w2 hs
      go_enter Try.func8, Try.ntmps8
      go_wp2_with fail
      refine (unhide N1 _).mono ?_
      rintro e x1 ⟨rfl, rfl⟩
      go_wp2
      go_ret
      exact ⟨ret_bool (by simp), Below.refl _ _⟩
  · have N1 := hide (fun w => hide_form k n s (by omega) w)
    have ht : ((k.size : Int) != 16) = true ∨ ((k.size : Int) != 16) = false ∧ ((n.size : Int) != 8) = true := by
      by_cases h0 : k.size = 16
      · exact .inr ⟨len_eq k h0, by rw [bne_iff_ne]; intro e; exact h ⟨h0, by omega⟩⟩
      · exact .inl (len_ne k h0)
    clear h w0 w1 w2
    rcases ht with t0 | ⟨t0, t1⟩
    all_goals
      go_enter Try.func8, Try.ntmps8
      go_wp2_with fail
      refine (unhide N1 _).mono ?_
      rintro e x1 ⟨rfl, rfl⟩
      go_wp2
      go_ret
      exact ⟨ret_bool (by simp), Below.refl _ _⟩

theorem ownMillHides : ownKnob Try.prog.godebug = none := by kernel_rfl
set_option maxRecDepth 100000 in
theorem liftedMillHides (os : Os) (started : os.Started) (H : Type) (enc : TypeId × Value → H) :
    ReturnsInHanded {} Try.checked os 8 .any (Rows.millHidesSpec.pre6 enc Try.prog Try.f8 Rows.millHidesRow.domain false) (Rows.millHidesSpec.post enc Try.prog Try.f8 false true false false) := by
  refine returnsInHanded_of_change (C := Try.checked) ownMillHides started (by kernel_rfl) Try.func8
    (ChangeSpec.witness6 (enc := enc) (C := Try.checked) false ⟨#[], #[.string ByteArray.empty, .string ByteArray.empty, .string ByteArray.empty], []⟩ 8 (by kernel_rfl) (by kernel_rfl) (by kernel_rfl) (by kernel_rfl)) ?_
  intro W base args ds gs before hval0 hW hcnd _
  have hval : ∀ (j : Nat) t v, Try.f8.params[j]? = some t → args[j]? = some v → Value.okWide Try.prog W .any base t v := hval0
  have hW' := hW
  obtain ⟨p, q, hA0, hV, rfl, hfz, hnd⟩ := hW
  have hA : DataW.TrodAll enc Try.prog W 0 (fun _ => true) true Try.f8.params.toList args.toList ds p := hA0
  rw [Try.params8] at hA hval
  obtain ⟨v0, vs0, d0, ds0, p0, q0, hargs, rfl, rfl, h0, r0⟩ := trodAll_cons hA
  obtain ⟨v1, vs1, d1, ds1, p1, q1, rfl, rfl, rfl, h1, r1⟩ := trodAll_cons r0
  obtain ⟨v2, vs2, d2, ds2, p2, q2, rfl, rfl, rfl, h2, r2⟩ := trodAll_cons r1
  obtain ⟨rfl, rfl, rfl⟩ := trodAll_nil r2
  obtain rfl : args = #[v0, v1, v2] := by cases args; simp_all
  obtain ⟨rfl, rfl⟩ := trodVars_none hV
  obtain ⟨a0, rfl, rfl, rfl, w0⟩ := open_string Try.underlying9 (hval 0 9 v0 rfl rfl) h0
  obtain ⟨a1, rfl, rfl, rfl, w1⟩ := open_string Try.underlying9 (hval 1 9 v1 rfl rfl) h1
  obtain ⟨a2, rfl, rfl, rfl, w2⟩ := open_string Try.underlying9 (hval 2 9 v2 rfl rfl) h2
  clear hA0 hval0
  simp only [List.append_nil] at hW'
  refine (walkMillHides a0 a1 a2 w0 w1 w2 W).mono fun e W' ⟨he, bel⟩ => ?_
  subst he
  exact ⟨_, rfl, _, _, _, [], [], [], hW', trodAll_mk1 (shut_bool Try.underlying4 _), (trodAll_cons_mk (shut_string Try.underlying9 w0) (trodAll_cons_mk (shut_string Try.underlying9 w1) (trodAll_cons_mk (shut_string Try.underlying9 w2) trodAll_mk0))), rfl, bel.frame _, fun h => by cases h⟩

theorem overMillHides : Rows.millHidesRow.holds Try.pinned (OpenSpec.ofChange Rows.millHidesSpec) :=
  OpenClaim.holds_of_wide 8 Try.f8 rfl rfl rfl rfl rfl rfl rfl ⟨rfl, rfl, rfl, rfl, rfl⟩ rfl rfl rfl rfl rfl (by kernel_rfl) Try.func8 (by kernel_rfl)
    (of_decide_eq_true (by kernel_rfl)) (by unfold Func.isWrapper; first | (rw [if_pos (by decide +kernel)]; kernel_rfl) | (rw [if_neg (by decide +kernel)]; exact ⟨rfl, rfl⟩))
    (fun os started H enc _ => liftedMillHides os started H enc)

/-- THE STATEMENT -/
theorem millHides_holds : Rows.MillHidesSaid := overMillHides
#print axioms millHides_holds
end Go.Proofs.Ytdclilpnpobanac
