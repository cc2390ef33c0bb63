/- For all bits and masks, whether the host can be asked or not: Decide of the program answers as the document's own does. No conditions. -/
import Derived.Test.YtklnbkfajjgkaafRDec
import Derived.Test.YtklnbkfajjgkaafMbox
import Derived.Test.YtklnbkfajjgkaafRows
import Derived.WalkKit
import Derived.ProofKit
import Derived.OpenShut
import Derived.ShutString
import Derived.ChangeOld
import Derived.Below
namespace Go.Proofs.Ytklnbkfajjgkaaf
open Go.ChangeShapes Go.WideShapes Go.ChangeAt Go.RowKit
open Go.ChangeMaps (open_string shut_string)
set_option linter.unusedVariables false



theorem walkRuleDecides (a0 : Int) (c s : XMasks) (able : Bool) (w : World) (w0 : -9223372036854775808 ≤ a0 ∧ a0 ≤ 9223372036854775807) (hc : okMasks w c) (hs : okMasks w s) :
    Calls Try.prog 8 #[.int .i64 a0, valMasks c, valMasks s, .bool able] w fun e w' => e = .returned (.bool true) ∧ Below w.heap.size w w' := by
  have n1 := fun w => decide_any a0 c s able w
  have n2 := fun w => rdecide_any a0 c s able w
  have hbx := below_mboxes c s w
  clear w0 hc hs
  generalize decA a0 c s able = ra at *
  generalize decE a0 c s = re at *
  unfold valMasks at n1 n2 ⊢
  have N1 := hide n1; have N2 := hide n2
  clear n1 n2
  go_enter Try.func8, Try.ntmps8
  go_wp2_with fail
  refine (unhide N1 _).mono ?_
  rintro e x1 ⟨rfl, hb1⟩
  have HB : Below (mboxes c s w).heap.size (mboxes c s w) x1 := hb1
  obtain ⟨i0, i1, i2, i3, i4, i5⟩ := inM HB
  clear hb1
  go_wp2_with fail
  refine (unhide N2 _).mono ?_
  rintro e x2 ⟨rfl, hb2⟩
  clear i0 i1 i2 i3 i4 i5
  go_wp2
  go_ret
  exact ⟨ret_bool (by simp), hbx.trans ((HB.trans (hb2.mono HB.size)).mono hbx.size)⟩
theorem ownRuleDecides : ownKnob Try.prog.godebug = none := by kernel_rfl
theorem laidOutRuleDecides : laidOutB Try.prog = true := by kernel_rfl
set_option maxRecDepth 100000 in
theorem contractRuleDecides (H : Type) (enc : TypeId × Value → H) (W : World) (base : Nat) (args : Array Value) (ds gs : List (DataW H)) (before : List MemPlace)
    (hval0 : ∀ (j : Nat) t v, Try.f8.params[j]? = some t → args[j]? = some v → Value.okWide Try.prog W .any base t v)
    (hW : DataW.Whole enc Try.prog Try.f8.params.toList Rows.ruleDecidesSpec.vars false W args.toList ds gs before) :
    Calls Try.prog 8 args W fun e W' => ∃ v, e = .returned v ∧ Rows.ruleDecidesSpec.post enc Try.prog Try.f8 false true false false W args v W' := by
  have hval : ∀ (j : Nat) t v, Try.f8.params[j]? = some t → args[j]? = some v → Value.okWide Try.prog W .any base t v := hval0
  have hW' := hW
  obtain ⟨p, q, hA0, hV, rfl, hfz, hnd⟩ := hW
  have hA : DataW.TrodAll enc Try.prog W 0 (fun _ => true) true Try.f8.params.toList args.toList ds p := hA0
  rw [Try.params8] at hA hval
  obtain ⟨v0, vs0, d0, ds0, p0, q0, hargs, rfl, rfl, h0, r0⟩ := trodAll_cons hA
  obtain ⟨v1, vs1, d1, ds1, p1, q1, rfl, rfl, rfl, h1, r1⟩ := trodAll_cons r0
  obtain ⟨v2, vs2, d2, ds2, p2, q2, rfl, rfl, rfl, h2, r2⟩ := trodAll_cons r1
  obtain ⟨v3, vs3, d3, ds3, p3, q3, rfl, rfl, rfl, h3, r3⟩ := trodAll_cons r2
  obtain ⟨rfl, rfl, rfl⟩ := trodAll_nil r3
  obtain rfl : args = #[v0, v1, v2, v3] := by cases args; simp_all
  obtain ⟨rfl, rfl⟩ := trodVars_none hV
  clear hA0 hval0
  simp only [List.append_nil] at hW'
  have hlt0 : ∀ x ∈ p0, x.block < W.heap.size := fun x hx => by simpa using hW'.lt x (by simp [hx])
  have hargs0 : ∀ (W' : World), Below W.heap.size W W' → DataW.Trod enc Try.prog W' 0 (fun b => decide (b < W.heap.size)) true 3 v0 d0 p0 :=
    fun W' hn => Below.trod laidOutRuleDecides (by kernel_rfl) (of_decide_eq_true (by kernel_rfl)) h0 hn hlt0
  have hlt1 : ∀ x ∈ p1, x.block < W.heap.size := fun x hx => by simpa using hW'.lt x (by simp [hx])
  have hargs1 : ∀ (W' : World), Below W.heap.size W W' → DataW.Trod enc Try.prog W' 0 (fun b => decide (b < W.heap.size)) true 59 v1 d1 p1 :=
    fun W' hn => Below.trod laidOutRuleDecides (by kernel_rfl) (of_decide_eq_true (by kernel_rfl)) h1 hn hlt1
  have hlt2 : ∀ x ∈ p2, x.block < W.heap.size := fun x hx => by simpa using hW'.lt x (by simp [hx])
  have hargs2 : ∀ (W' : World), Below W.heap.size W W' → DataW.Trod enc Try.prog W' 0 (fun b => decide (b < W.heap.size)) true 59 v2 d2 p2 :=
    fun W' hn => Below.trod laidOutRuleDecides (by kernel_rfl) (of_decide_eq_true (by kernel_rfl)) h2 hn hlt2
  have hlt3 : ∀ x ∈ p3, x.block < W.heap.size := fun x hx => by simpa using hW'.lt x (by simp [hx])
  have hargs3 : ∀ (W' : World), Below W.heap.size W W' → DataW.Trod enc Try.prog W' 0 (fun b => decide (b < W.heap.size)) true 4 v3 d3 p3 :=
    fun W' hn => Below.trod laidOutRuleDecides (by kernel_rfl) (of_decide_eq_true (by kernel_rfl)) h3 hn hlt3
  obtain ⟨a0, rfl, hd0, _, w0⟩ := open_int Try.underlying3 (hval 0 3 v0 rfl rfl) h0
  obtain ⟨x1, rfl, hr1⟩ := openMasks (hval 1 59 v1 rfl rfl) h1
  obtain ⟨x2, rfl, hr2⟩ := openMasks (hval 2 59 v2 rfl rfl) h2
  obtain ⟨a3, rfl, hd3, _⟩ := open_bool Try.underlying4 (hval 3 4 v3 rfl rfl) h3
  refine (walkRuleDecides a0 x1 x2 a3 W (bounds_i64 w0) hr1 hr2).mono fun e W' ⟨he, bel⟩ => ?_
  subst he
  exact ⟨_, rfl, _, _, _, [], _, [], hW', trodAll_mk1 (shut_bool Try.underlying4 _), (trodAll_cons_mk (hargs0 _ bel) (trodAll_cons_mk (hargs1 _ bel) (trodAll_cons_mk (hargs2 _ bel) (trodAll_cons_mk (hargs3 _ bel) trodAll_mk0)))), rfl, bel.frame _, fun h => by cases h⟩

set_option maxRecDepth 100000 in
theorem liftedRuleDecides (os : Os) (started : os.Started) (H : Type) (enc : TypeId × Value → H) :
    ReturnsInHanded {} Try.checked os 8 .any (Rows.ruleDecidesSpec.pre6 enc Try.prog Try.f8 Rows.ruleDecidesRow.domain false) (Rows.ruleDecidesSpec.post enc Try.prog Try.f8 false true false false) := by
  refine returnsInHanded_of_change (C := Try.checked) ownRuleDecides started (by kernel_rfl) Try.func8
    (ChangeSpec.witness6 (enc := enc) (C := Try.checked) false ⟨#[], #[.int .i64 0, .agg #[.int .i64 0, .int .i64 0, .int .i64 0], .agg #[.int .i64 0, .int .i64 0, .int .i64 0], .bool false], []⟩ 8 (by kernel_rfl) (by kernel_rfl) (by kernel_rfl) (by kernel_rfl)) ?_
  intro W base args ds gs before hval hW hcnd _
  exact contractRuleDecides H enc W base args ds gs before hval hW

theorem overRuleDecides : Rows.ruleDecidesRow.holds Try.pinned (OpenSpec.ofChange Rows.ruleDecidesSpec) :=
  OpenClaim.holds_of_wide 8 Try.f8 rfl rfl rfl rfl rfl rfl rfl ⟨rfl, rfl, rfl, rfl, rfl⟩ rfl rfl rfl rfl rfl (by kernel_rfl) Try.func8 (by kernel_rfl)
    (of_decide_eq_true (by kernel_rfl)) (by unfold Func.isWrapper; first | (rw [if_pos (by decide +kernel)]; kernel_rfl) | (rw [if_neg (by decide +kernel)]; exact ⟨rfl, rfl⟩))
    (fun os started H enc _ => liftedRuleDecides os started H enc)

/-- THE STATEMENT -/
theorem ruleDecides_holds : Rows.RuleDecidesSaid := overRuleDecides
#print axioms ruleDecides_holds
end Go.Proofs.Ytklnbkfajjgkaaf
