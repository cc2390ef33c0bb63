/- For every key and two blocks, whatever they are: what Turn makes of a block Back makes the block of again, and the other way round; unlike blocks stay unlike; what is no key or no block is refused. No conditions. -/
import Derived.Test.YtdclilpnpobanacRows
import Derived.Test.YtdclilpnpobanacMillP5
import Derived.WalkKit
import Derived.ProofKit
import Derived.OpenShut
import Derived.ShutString
import Derived.ChangeOld
import Derived.Below
namespace Go.Proofs.Ytdclilpnpobanac
open Go.ChangeShapes Go.WideShapes Go.ChangeAt Go.RowKit
open Go.ChangeMaps (open_string shut_string)
set_option linter.unusedVariables false

theorem toList_neM {x y : ByteArray} (h : ¬ x = y) : (x.toList == y.toList) = false := by
  rw [beq_eq_false_iff_ne, Lib.toList_data, Lib.toList_data]
  exact fun e => h (ByteArray.ext (Array.toList_inj.1 e))
theorem turnE_yes {k s : ByteArray} (hk : k.size = 16) (hs : s.size = 16) : turnE k s = 0 := if_pos ⟨hk, hs⟩
theorem turnE_no {k s : ByteArray} (h : ¬ (k.size = 16 ∧ s.size = 16)) : turnE k s = 1 := if_neg h

set_option maxHeartbeats 2000000 in
set_option maxRecDepth 100000 in
theorem millBack_yes (k a b : ByteArray) (hk : k.size = 16) (ha : a.size = 16) (hb : b.size = 16) (w : World) :
    Calls Try.prog 4 #[.string k, .string a, .string b] w fun e w' => e = .returned (.bool true) ∧ Below w.heap.size w w' := by
  have n1 := fun w => turn_yes k a hk ha w
  have n2 := fun w => turn_yes k b hk hb w
  have n3 := fun w => back_yes k (turnS k a) hk (turnS_size _ _) w
  have n4 := fun w => back_yes k b hk hb w
  have n5 := fun w => turn_yes k (backS k b) hk (backS_size _ _) w
  rw [back_turn k a ha] at n3
  rw [turn_back k b hb] at n5
  have hi := turn_inj k a b ha hb
  generalize turnS k a = x at *
  generalize turnS k b = y at *
  generalize backS k b = q at *
  have N1 := hide n1; have N2 := hide n2; have N3 := hide n3; have N4 := hide n4; have N5 := hide n5
  clear n1 n2 n3 n4 n5 hk ha hb
  have HI := hide hi
  clear hi
  go_enter Try.func4, Try.ntmps4
  go_wp2_with fail
  refine (unhide N1 _).mono ?_
  rintro e x1 ⟨rfl, b1⟩
  go_wp2_with fail
  refine (unhide N2 _).mono ?_
  rintro e x2 ⟨rfl, b2⟩
  go_wp2_with fail
  refine (unhide N3 _).mono ?_
  rintro e x3 ⟨rfl, b3⟩
  go_wp2_with fail
  refine (unhide N4 _).mono ?_
  rintro e x4 ⟨rfl, b4⟩
  go_wp2_with fail
  refine (unhide N5 _).mono ?_
  rintro e x5 ⟨rfl, b5⟩
  have h2 := b1.trans (b2.mono b1.size)
  have h3 := h2.trans (b3.mono h2.size)
  have h4 := h3.trans (b4.mono h3.size)
  have h5 := h4.trans (b5.mono h4.size)
  clear N1 N2 N3 N4 N5 b1 b2 b3 b4 b5 h2 h3 h4
  by_cases hab : a = b
  · have hxy := (unhide HI).2 hab
    subst hab
    subst hxy
    go_wp2
    go_ret
    exact ⟨ret_bool (by simp), h5⟩
  · have hxy := toList_neM (fun e => hab ((unhide HI).1 e))
    have hab' := toList_neM hab
    clear hab
    go_wp2
    go_ret
    exact ⟨ret_bool (by simp), h5⟩
set_option maxHeartbeats 2000000 in
set_option maxRecDepth 100000 in
theorem walkMillBack (a0 a1 a2 : ByteArray) (w0 : a0.size ≤ maxLen) (w1 : a1.size ≤ maxLen) (w2 : a2.size ≤ maxLen) (w : World) :
    Calls Try.prog 4 #[.string a0, .string a1, .string a2] w fun e w' => e = .returned (.bool true) ∧ Below w.heap.size w w' := by
  by_cases h : a0.size = 16 ∧ a1.size = 16 ∧ a2.size = 16
  · exact millBack_yes a0 a1 a2 h.1 h.2.1 h.2.2 w
  · have N1 := hide (fun w => turn_all a0 a1 w)
    have N2 := hide (fun w => turn_all a0 a2 w)
    generalize turnT a0 a1 = x at *
    generalize turnT a0 a2 = y at *
    by_cases h1 : a0.size = 16 ∧ a1.size = 16
    · have e2 : turnE a0 a2 = 1 := turnE_no (fun h2 => h ⟨h1.1, h1.2, h2.2⟩)
      have e1 : turnE a0 a1 = 0 := turnE_yes h1.1 h1.2
      have t0 := len_eq a0 h1.1
      have t1 := len_eq a1 h1.2
      have t2 := len_ne a2 (fun h2 => h ⟨h1.1, h1.2, h2⟩)
      rw [e1] at N1
      rw [e2] at N2
      clear h h1 e1 e2 w0 w1 w2
      go_enter Try.func4, Try.ntmps4
      go_wp2_with fail
      refine (unhide N1 _).mono ?_
      rintro e x1 ⟨rfl, b1⟩
      go_wp2_with fail
      refine (unhide N2 _).mono ?_
      rintro e x2 ⟨rfl, b2⟩
      go_wp2
      go_ret
      exact ⟨rfl, b1.trans (b2.mono b1.size)⟩
    · have e1 : turnE a0 a1 = 1 := turnE_no h1
      rw [e1] at N1
      generalize turnE a0 a2 = f at *
      have t1 : ((a0.size : Int) != 16) = true ∨ ((a0.size : Int) != 16) = false ∧ ((a1.size : Int) != 16) = true := by
        by_cases h0 : a0.size = 16
        · exact .inr ⟨len_eq a0 h0, len_ne a1 (fun h2 => h1 ⟨h0, h2⟩)⟩
        · exact .inl (len_ne a0 h0)
      clear h h1 e1 w0 w1 w2
      rcases t1 with t1 | ⟨t1, t2⟩
      all_goals
        go_enter Try.func4, Try.ntmps4
        go_wp2_with fail
        refine (unhide N1 _).mono ?_
        rintro e x1 ⟨rfl, b1⟩
        go_wp2_with fail
        refine (unhide N2 _).mono ?_
        rintro e x2 ⟨rfl, b2⟩
        go_wp2
        go_ret
        exact ⟨rfl, b1.trans (b2.mono b1.size)⟩

theorem ownMillBack : ownKnob Try.prog.godebug = none := by kernel_rfl
set_option maxRecDepth 100000 in
theorem liftedMillBack (os : Os) (started : os.Started) (H : Type) (enc : TypeId × Value → H) :
    ReturnsInHanded {} Try.checked os 4 .any (Rows.millBackSpec.pre6 enc Try.prog Try.f4 Rows.millBackRow.domain false) (Rows.millBackSpec.post enc Try.prog Try.f4 false true false false) := by
  refine returnsInHanded_of_change (C := Try.checked) ownMillBack started (by kernel_rfl) Try.func4
    (ChangeSpec.witness6 (enc := enc) (C := Try.checked) false ⟨#[], #[.string ByteArray.empty, .string ByteArray.empty, .string ByteArray.empty], []⟩ 8 (by kernel_rfl) (by kernel_rfl) (by kernel_rfl) (by kernel_rfl)) ?_
  intro W base args ds gs before hval0 hW hcnd _
  have hval : ∀ (j : Nat) t v, Try.f4.params[j]? = some t → args[j]? = some v → Value.okWide Try.prog W .any base t v := hval0
  have hW' := hW
  obtain ⟨p, q, hA0, hV, rfl, hfz, hnd⟩ := hW
  have hA : DataW.TrodAll enc Try.prog W 0 (fun _ => true) true Try.f4.params.toList args.toList ds p := hA0
  rw [Try.params4] at hA hval
  obtain ⟨v0, vs0, d0, ds0, p0, q0, hargs, rfl, rfl, h0, r0⟩ := trodAll_cons hA
  obtain ⟨v1, vs1, d1, ds1, p1, q1, rfl, rfl, rfl, h1, r1⟩ := trodAll_cons r0
  obtain ⟨v2, vs2, d2, ds2, p2, q2, rfl, rfl, rfl, h2, r2⟩ := trodAll_cons r1
  obtain ⟨rfl, rfl, rfl⟩ := trodAll_nil r2
  obtain rfl : args = #[v0, v1, v2] := by cases args; simp_all
  obtain ⟨rfl, rfl⟩ := trodVars_none hV
  obtain ⟨a0, rfl, rfl, rfl, w0⟩ := open_string Try.underlying9 (hval 0 9 v0 rfl rfl) h0
  obtain ⟨a1, rfl, rfl, rfl, w1⟩ := open_string Try.underlying9 (hval 1 9 v1 rfl rfl) h1
  obtain ⟨a2, rfl, rfl, rfl, w2⟩ := open_string Try.underlying9 (hval 2 9 v2 rfl rfl) h2
  clear hA0 hval0
  simp only [List.append_nil] at hW'
  refine (walkMillBack a0 a1 a2 w0 w1 w2 W).mono fun e W' ⟨he, bel⟩ => ?_
  subst he
  exact ⟨_, rfl, _, _, _, [], [], [], hW', trodAll_mk1 (shut_bool Try.underlying4 _), (trodAll_cons_mk (shut_string Try.underlying9 w0) (trodAll_cons_mk (shut_string Try.underlying9 w1) (trodAll_cons_mk (shut_string Try.underlying9 w2) trodAll_mk0))), rfl, bel.frame _, fun h => by cases h⟩

theorem overMillBack : Rows.millBackRow.holds Try.pinned (OpenSpec.ofChange Rows.millBackSpec) :=
  OpenClaim.holds_of_wide 4 Try.f4 rfl rfl rfl rfl rfl rfl rfl ⟨rfl, rfl, rfl, rfl, rfl⟩ rfl rfl rfl rfl rfl (by kernel_rfl) Try.func4 (by kernel_rfl)
    (of_decide_eq_true (by kernel_rfl)) (by unfold Func.isWrapper; first | (rw [if_pos (by decide +kernel)]; kernel_rfl) | (rw [if_neg (by decide +kernel)]; exact ⟨rfl, rfl⟩))
    (fun os started H enc _ => liftedMillBack os started H enc)

/-- THE STATEMENT -/
theorem millBack_holds : Rows.MillBackSaid := overMillBack
#print axioms millBack_holds
end Go.Proofs.Ytdclilpnpobanac
