/- For every key, text and other text: Close and Unclose of the program answer as the document's own do, and what was closed is unclosed as it was. -/
import Derived.Test.YtdlglcpghkoejaaRows
import Derived.Test.YtdlglcpghkoejaaWireC
import Derived.WalkKit
import Derived.ProofKit
import Derived.OpenShut
import Derived.ShutString
import Derived.JoinedCond
import Derived.Below
import Derived.Carry
namespace Go.Proofs.Ytdlglcpghkoejaa
open Go.ChangeShapes Go.WideShapes Go.ChangeAt Go.RowKit
open Go.ChangeMaps (open_string shut_string)
set_option linter.unusedVariables false

set_option maxHeartbeats 4000000 in
set_option maxRecDepth 100000 in
theorem walkWireCloses (k s o : ByteArray) (m0 : k.size ≤ maxLen) (m1 : s.size ≤ maxLen) (m2 : o.size ≤ maxLen) (w : World) :
    Calls Try.prog 3 #[.string k, .string s, .string o] w fun e w' => e = .returned (.bool true) ∧ Below w.heap.size w w' := by
  have N1 := hide (fun w => close_any k s w)
  have N2 := hide (fun w => rclose_any k s w)
  have N3 := hide (fun w => unclose_any k o w)
  have N4 := hide (fun w => runclose_any k o w)
  by_cases h : k.size = 16 ∧ s.size ≤ 20000
  · have hS : closeS k s = s ++ sealS k s := by rw [closeS, if_neg (by omega), if_neg (by omega)]
    have hE : closeE k s = 0 := by rw [closeE, if_neg (by omega), if_neg (by omega)]
    obtain ⟨u1, u2⟩ := uncl_clo k s h.1 h.2
    have N5 := hide (fun w => unclose_any k (s ++ sealS k s) w)
    rw [u1, u2] at N5
    rw [hS, hE] at N1 N2
    generalize s ++ sealS k s = x at *
    generalize unclS k o = y at *
    generalize unclE k o = z at *
    clear h hS hE u1 u2 m0 m1 m2
    go_enter Try.func3, Try.ntmps3
    go_wp2_with fail
    refine (unhide N1 _).mono ?_
    rintro e x1 ⟨rfl, b1⟩
    go_wp2_with fail
    refine (unhide N2 _).mono ?_
    rintro e x2 ⟨rfl, b2⟩
    have g2 := b1.trans (b2.mono b1.size)
    clear b1 b2
    go_wp2_with fail
    refine (unhide N3 _).mono ?_
    rintro e x3 ⟨rfl, b3⟩
    have g3 := g2.trans (b3.mono g2.size)
    clear b3 g2
    go_wp2_with fail
    refine (unhide N4 _).mono ?_
    rintro e x4 ⟨rfl, b4⟩
    have g4 := g3.trans (b4.mono g3.size)
    clear b4 g3
    go_wp2_with fail
    refine (unhide N5 _).mono ?_
    rintro e x5 ⟨rfl, b5⟩
    have g5 := g4.trans (b5.mono g4.size)
    clear b5 g4 N1 N2 N3 N4 N5
    go_wp2
    go_ret
    exact ⟨ret_bool (by simp), g5⟩
  · have hE : (closeE k s != 0) = true := by
      rw [bne_iff_ne, closeE]
      by_cases hk : k.size = 16
      · rw [if_neg (by omega), if_pos (by omega)]; decide
      · rw [if_pos hk]; decide
    have N5 := hide (fun w => unclose_any k (closeS k s) w)
    generalize unclS k (closeS k s) = y' at *
    generalize unclE k (closeS k s) = z' at *
    generalize closeS k s = x at *
    generalize closeE k s = v at *
    generalize unclS k o = y at *
    generalize unclE k o = z at *
    clear h m0 m1 m2
    go_enter Try.func3, Try.ntmps3
    go_wp2_with fail
    refine (unhide N1 _).mono ?_
    rintro e x1 ⟨rfl, b1⟩
    go_wp2_with fail
    refine (unhide N2 _).mono ?_
    rintro e x2 ⟨rfl, b2⟩
    have g2 := b1.trans (b2.mono b1.size)
    clear b1 b2
    go_wp2_with fail
    refine (unhide N3 _).mono ?_
    rintro e x3 ⟨rfl, b3⟩
    have g3 := g2.trans (b3.mono g2.size)
    clear b3 g2
    go_wp2_with fail
    refine (unhide N4 _).mono ?_
    rintro e x4 ⟨rfl, b4⟩
    have g4 := g3.trans (b4.mono g3.size)
    clear b4 g3
    go_wp2_with fail
    refine (unhide N5 _).mono ?_
    rintro e x5 ⟨rfl, b5⟩
    have g5 := g4.trans (b5.mono g4.size)
    clear b5 g4 N1 N2 N3 N4 N5
    go_wp2
    go_ret
    exact ⟨ret_bool (by simp), g5⟩

theorem ownWireCloses : ownKnob Try.prog.godebug = none := by kernel_rfl
set_option maxRecDepth 100000 in
theorem liftedWireCloses (os : Os) (started : os.Started) (H : Type) (enc : TypeId × Value → H) :
    ReturnsInHanded {} Try.checked os 3 .any (Rows.wireClosesSpec.pre6 enc Try.prog Try.f3 Rows.wireClosesRow.domain false) (Rows.wireClosesSpec.post enc Try.prog Try.f3 false true false false) := by
  refine returnsInHanded_of_change (C := Try.checked) ownWireCloses started (by kernel_rfl) Try.func3
    (ChangeSpec.witness6 (enc := enc) (C := Try.checked) false ⟨#[], #[.string ByteArray.empty, .string ByteArray.empty, .string ByteArray.empty], []⟩ 8 (by kernel_rfl) (by kernel_rfl) (by kernel_rfl) (by kernel_rfl)) ?_
  intro W base args ds gs before hval0 hW hcnd _
  have hval : ∀ (j : Nat) t v, Try.f3.params[j]? = some t → args[j]? = some v → Value.okWide Try.prog W .any base t v := hval0
  have hW' := hW
  obtain ⟨p, q, hA0, hV, rfl, hfz, hnd⟩ := hW
  have hA : DataW.TrodAll enc Try.prog W 0 (fun _ => true) true Try.f3.params.toList args.toList ds p := hA0
  rw [Try.params3] at hA hval
  obtain ⟨v0, vs0, d0, ds0, p0, q0, hargs, rfl, rfl, h0, r0⟩ := trodAll_cons hA
  obtain ⟨v1, vs1, d1, ds1, p1, q1, rfl, rfl, rfl, h1, r1⟩ := trodAll_cons r0
  obtain ⟨v2, vs2, d2, ds2, p2, q2, rfl, rfl, rfl, h2, r2⟩ := trodAll_cons r1
  obtain ⟨rfl, rfl, rfl⟩ := trodAll_nil r2
  obtain rfl : args = #[v0, v1, v2] := by cases args; simp_all
  obtain ⟨rfl, rfl⟩ := trodVars_none hV
  obtain ⟨a0, rfl, rfl, rfl, w0⟩ := open_string Try.underlying9 (hval 0 9 v0 rfl rfl) h0
  obtain ⟨a1, rfl, rfl, rfl, w1⟩ := open_string Try.underlying9 (hval 1 9 v1 rfl rfl) h1
  obtain ⟨a2, rfl, rfl, rfl, w2⟩ := open_string Try.underlying9 (hval 2 9 v2 rfl rfl) h2
  clear hA0 hval0
  simp only [List.append_nil] at hW'
  refine (walkWireCloses a0 a1 a2 w0 w1 w2 W).mono fun e W' ⟨he, bel⟩ => ?_
  subst he
  exact ⟨_, rfl, _, _, _, [], [], [], hW', trodAll_mk1 (shut_bool Try.underlying4 _), (trodAll_cons_mk (shut_string Try.underlying9 w0) (trodAll_cons_mk (shut_string Try.underlying9 w1) (trodAll_cons_mk (shut_string Try.underlying9 w2) trodAll_mk0))), rfl, bel.frame _, fun h => by cases h⟩

theorem overWireCloses : Rows.wireClosesRow.holds Try.pinned (OpenSpec.ofChange Rows.wireClosesSpec) :=
  OpenClaim.holds_of_wide 3 Try.f3 rfl rfl rfl rfl rfl rfl rfl ⟨rfl, rfl, rfl, rfl, rfl⟩ rfl rfl rfl rfl rfl (by kernel_rfl) Try.func3 (by kernel_rfl)
    (of_decide_eq_true (by kernel_rfl)) (by unfold Func.isWrapper; first | (rw [if_pos (by decide +kernel)]; kernel_rfl) | (rw [if_neg (by decide +kernel)]; exact ⟨rfl, rfl⟩))
    (fun os started H enc _ => liftedWireCloses os started H enc)

/-- THE STATEMENT -/
theorem wireCloses_holds : Rows.WireClosesSaid := overWireCloses
#print axioms wireCloses_holds
end Go.Proofs.Ytdlglcpghkoejaa
