/- For every text: Parse of the program answers as the document's own does. No conditions. -/
import Derived.Test.YthamjfgiklbifabRows
import Derived.Test.YthamjfgiklbifabRItems
import Derived.WalkKit
import Derived.ProofKit
import Derived.OpenShut
import Derived.ShutString
import Derived.ChangeOld
import Derived.Below
namespace Go.Proofs.Ythamjfgiklbifab
open Go.ChangeShapes Go.WideShapes Go.ChangeAt Go.RowKit
open Go.ChangeMaps (open_string shut_string)
set_option linter.unusedVariables false

set_option maxRecDepth 1000000 in
theorem rparse_any (s : ByteArray) (w : World) (hs : s.size ≤ maxLen) :
    Calls Try.prog 10 #[.string s] w fun e w' => ∃ ao cap, e = .returned (.tuple #[.slice ao (parsesL s).length cap, .int .i64 (parsesE s)]) ∧ IRowA w' (fun b => w.heap.size ≤ b) 8 ao (parsesL s) ∧ Below w.heap.size w w' := by
  unfold maxLen at hs
  by_cases hb : 65535 < s.size
  · have h1 : parsesL s = [] := by unfold parsesL; rw [if_pos hb]
    have h2 : parsesE s = 2 := by unfold parsesE; rw [if_pos hb]
    rw [h1, h2]
    have t1 : decide (65535 < (s.size : Int)) = true := by simp; omega
    clear h1 h2
    go_enter Try.func10, Try.ntmps10
    go_wp2
    go_ret2
    exact ⟨none, 0, rfl, IRowA.nil _ _ _ _, Below.refl _ _⟩
  · have n1 := fun w => itemsOf_any 8 (Nat.le_refl _) (s.size + 1) s w (by omega) (by omega)
    have h1 : parsesL s = (parseD 8 s).getD [] := by unfold parsesL; rw [if_neg hb]
    have h2 : parsesE s = if (parseD 8 s).isSome then 0 else 1 := by unfold parsesE; rw [if_neg hb]
    rw [h1, h2]
    have hd : (9 : Int) - ((8 : Nat) : Int) = 1 := by omega
    rw [hd] at n1
    have t1 : decide (65535 < (s.size : Int)) = false := by simp; omega
    clear h1 h2 hd
    cases hp : parseD 8 s with
    | none =>
      unfold ItemsRet at n1
      rw [hp] at n1
      have N1 := hide n1
      clear n1 hp hb
      go_enter Try.func10, Try.ntmps10
      go_wp2_with fail
      refine (unhide N1 _).mono ?_
      rintro e w2 ⟨⟨v, rs, rfl, _, _, _⟩, hb2⟩
      go_wp2
      go_ret2
      first
        | exact ⟨none, 0, rfl, IRowA.nil _ _ _ _, hb2⟩
        | exact ⟨none, ⟨0, rfl⟩, IRowA.nil _ _ _ _, hb2⟩
    | some l =>
      have HP := hide hp
      have N1 := hide n1
      clear n1 hp hb
      go_enter Try.func10, Try.ntmps10
      go_wp2_with fail
      refine (unhide N1 _).mono ?_
      rintro e w2 ⟨hret, hb2⟩
      obtain ⟨ao, cap, rfl, hcap, hrow⟩ := items_row hret (unhide HP)
      have HW := hide hrow
      clear hrow hret
      go_wp2
      go_ret2
      first
        | exact ⟨ao, cap, rfl, unhide HW, hb2⟩
        | exact ⟨ao, ⟨cap, rfl⟩, unhide HW, hb2⟩

set_option maxHeartbeats 1000000 in
theorem walkTagParses (a0 : ByteArray) (w0 : a0.size ≤ maxLen) (w : World) :
    Calls Try.prog 3 #[.string a0] w fun e w' => e = .returned (.bool true) ∧ Below w.heap.size w w' := by
  have n1 := fun w => parse_any a0 w w0
  have n2 := fun w => rparse_any a0 w w0
  have hwt := parses_wt a0
  generalize parsesL a0 = l at *
  generalize parsesE a0 = er at *
  have N1 := hide n1; have N2 := hide n2; have HW := hide hwt
  clear n1 n2 hwt
  go_enter Try.func3, Try.ntmps3
  go_wp2_with fail
  refine (unhide N1 _).mono ?_
  rintro e w1 ⟨ao, ac, rfl, _, hr1, hb1⟩
  go_wp2_with fail
  refine (unhide N2 _).mono ?_
  rintro e w2 ⟨bo, bc, rfl, hr2, hb2'⟩
  have hb2 := below_more hb1 hb1.size hb2'
  have hra := IRowA.row 8 (IRowA.below hb2' 8 hr1)
  have hrb := IRowA.row 8 hr2
  have N3 := hide (fun (w3 : World) (h : Below w2.heap.size w2 w3) => sameI_any 8 l ao bo ac bc w3 (IRow.below h 8 hra) (IRow.below h 8 hrb) (by have := unhide HW; omega))
  clear hr1 hr2 hra hrb hb2' hb1
  go_wp2_with fail
  refine (unhide N3 _ (Below.refl _ _)).mono ?_
  rintro e w3 ⟨rfl, q, hw3⟩
  subst hw3
  go_wp2
  go_ret
  exact ⟨rfl, below_draws hb2 _⟩

theorem ownTagParses : ownKnob Try.prog.godebug = none := by kernel_rfl
set_option maxRecDepth 100000 in
theorem liftedTagParses (os : Os) (started : os.Started) (H : Type) (enc : TypeId × Value → H) :
    ReturnsInHanded {} Try.checked os 3 .any (Rows.tagParsesSpec.pre6 enc Try.prog Try.f3 Rows.tagParsesRow.domain false) (Rows.tagParsesSpec.post enc Try.prog Try.f3 false true false false) := by
  refine returnsInHanded_of_change (C := Try.checked) ownTagParses started (by kernel_rfl) Try.func3
    (ChangeSpec.witness6 (enc := enc) (C := Try.checked) false ⟨#[], #[.string ByteArray.empty], []⟩ 8 (by kernel_rfl) (by kernel_rfl) (by kernel_rfl) (by kernel_rfl)) ?_
  intro W base args ds gs before hval0 hW hcnd _
  have hval : ∀ (j : Nat) t v, Try.f3.params[j]? = some t → args[j]? = some v → Value.okWide Try.prog W .any base t v := hval0
  have hW' := hW
  obtain ⟨p, q, hA0, hV, rfl, hfz, hnd⟩ := hW
  have hA : DataW.TrodAll enc Try.prog W 0 (fun _ => true) true Try.f3.params.toList args.toList ds p := hA0
  rw [Try.params3] at hA hval
  obtain ⟨v0, vs0, d0, ds0, p0, q0, hargs, rfl, rfl, h0, r0⟩ := trodAll_cons hA
  obtain ⟨rfl, rfl, rfl⟩ := trodAll_nil r0
  obtain rfl : args = #[v0] := by cases args; simp_all
  obtain ⟨rfl, rfl⟩ := trodVars_none hV
  obtain ⟨a0, rfl, rfl, rfl, w0⟩ := open_string Try.underlying9 (hval 0 9 v0 rfl rfl) h0
  clear hA0 hval0
  simp only [List.append_nil] at hW'
  refine (walkTagParses a0 w0 W).mono fun e W' ⟨he, bel⟩ => ?_
  subst he
  exact ⟨_, rfl, _, _, _, [], [], [], hW', trodAll_mk1 (shut_bool Try.underlying4 _), (trodAll_cons_mk (shut_string Try.underlying9 w0) trodAll_mk0), rfl, bel.frame _, fun h => by cases h⟩

theorem overTagParses : Rows.tagParsesRow.holds Try.pinned (OpenSpec.ofChange Rows.tagParsesSpec) :=
  OpenClaim.holds_of_wide 3 Try.f3 rfl rfl rfl rfl rfl rfl rfl ⟨rfl, rfl, rfl, rfl, rfl⟩ rfl rfl rfl rfl rfl (by kernel_rfl) Try.func3 (by kernel_rfl)
    (of_decide_eq_true (by kernel_rfl)) (by unfold Func.isWrapper; first | (rw [if_pos (by decide +kernel)]; kernel_rfl) | (rw [if_neg (by decide +kernel)]; exact ⟨rfl, rfl⟩))
    (fun os started H enc _ => liftedTagParses os started H enc)

/-- THE STATEMENT -/
theorem tagParses_holds : Rows.TagParsesSaid := overTagParses
#print axioms tagParses_holds
end Go.Proofs.Ythamjfgiklbifab
