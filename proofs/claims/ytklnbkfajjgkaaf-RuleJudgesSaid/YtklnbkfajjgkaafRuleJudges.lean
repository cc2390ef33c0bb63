/- For every risk and everything that is seen of a card: CheckRisk and Judge of the program answer as the document's own do. No conditions. -/
import Derived.Test.YtklnbkfajjgkaafJudAll
import Derived.Test.YtklnbkfajjgkaafRows
import Derived.WalkKit
import Derived.ProofKit
import Derived.OpenShut
import Derived.ShutString
import Derived.ChangeOld
import Derived.Below
namespace Go.Proofs.Ytklnbkfajjgkaaf
open Go.ChangeShapes Go.WideShapes Go.ChangeAt Go.RowKit
open Go.ChangeMaps (open_string shut_string)
set_option linter.unusedVariables false



set_option maxHeartbeats 4000000 in
theorem walkRuleJudges (r : XRisk) (s : XSeen) (w : World) (hr : okRisk w r) (hs : okSeen w s) :
    Calls Try.prog 6 #[valRisk r, valSeen s] w fun e w' => e = .returned (.bool true) ∧ Below w.heap.size w w' := by
  have hrow : Rowstring w r.blacko r.black := hr.2.2.2.2.2.2
  have n1 := fun w' (h : Below w.heap.size w w') => judge_any r s w' (hrow.below h)
  have n2 := fun w' (h : Below w.heap.size w w') => rjudge_any r s w' (hrow.below h)
  have n3 := fun w' => checkRisk_any r w'
  have n4 := fun w' => rrisk_any r w'
  have hbx := below_jboxes r s w
  have hat := jboxes_at r s w
  clear hr hs hrow
  generalize judgeA r s = ja at *
  generalize judgeE r s = je at *
  generalize riskE r = re at *
  unfold valRisk valSeen at *
  have N1 := hide n1; have N2 := hide n2; have N3 := hide n3; have N4 := hide n4
  clear n1 n2 n3 n4
  go_enter Try.func6, Try.ntmps6
  go_wp2_with fail
  refine (unhide N1 _ hbx).mono ?_
  rintro e x1 ⟨rfl, hb1⟩
  have HB : Below (jboxes r s w).heap.size (jboxes r s w) x1 := hb1
  obtain ⟨r0, r1, r2, r3, r4, r5, r6⟩ := (hat.1.below HB).cells
  obtain ⟨s0, s1, s2, s3, s4, s5⟩ := (hat.2.below HB).cells
  have hbw := hbx.trans (HB.mono hbx.size)
  have N2' := hide (unhide N2 _ hbw)
  clear hb1 N2 hbw
  go_wp2_with fail
  refine (unhide N2').mono ?_
  rintro e x2 ⟨rfl, hb2⟩
  have HB2 : Below (jboxes r s w).heap.size (jboxes r s w) x2 := HB.trans (hb2.mono HB.size)
  clear r0 r1 r2 r3 r4 r5 r6 s0 s1 s2 s3 s4 s5 HB hb2 N2' N1
  have hS : ∀ w', Below x2.heap.size x2 w' → (w'.cell? ⟨w.heap.size, 0, none⟩ = some (.int .i64 r.floor) ∧ w'.cell? ⟨w.heap.size, 1, none⟩ = some (.int .i64 r.frm) ∧ w'.cell? ⟨w.heap.size, 2, none⟩ = some (.int .i64 r.share) ∧ w'.cell? ⟨w.heap.size, 3, none⟩ = some (.int .i64 r.most) ∧ w'.cell? ⟨w.heap.size, 4, none⟩ = some (.int .i64 r.lower) ∧ w'.cell? ⟨w.heap.size, 5, none⟩ = some (.int .i64 r.upper) ∧ w'.cell? ⟨w.heap.size, 6, none⟩ = some (.slice r.blacko r.black.length r.blackc)) :=
    fun w' hb => (hat.1.below (HB2.trans (hb.mono HB2.size))).cells
  clear hat
  go_wp2_with fail
  go_region_held3 (fun w' => w'.cell? ⟨w.heap.size, 0, none⟩ = some (.int .i64 r.floor) ∧ w'.cell? ⟨w.heap.size, 1, none⟩ = some (.int .i64 r.frm) ∧ w'.cell? ⟨w.heap.size, 2, none⟩ = some (.int .i64 r.share) ∧ w'.cell? ⟨w.heap.size, 3, none⟩ = some (.int .i64 r.most) ∧ w'.cell? ⟨w.heap.size, 4, none⟩ = some (.int .i64 r.lower) ∧ w'.cell? ⟨w.heap.size, 5, none⟩ = some (.int .i64 r.upper) ∧ w'.cell? ⟨w.heap.size, 6, none⟩ = some (.slice r.blacko r.black.length r.blackc))
    (first
      | exact hS _ (Below.refl _ _)
      | exact hS _ (Below.refl _ _).drew
      | exact hs2
      | exact hs3)
    ((first
      | (go_at_call 19; refine (unhide N3 _).mono ?_; rintro e y1 ⟨rfl, hy1⟩; have hy2 : Below x2.heap.size x2 y1 := (Below.refl _ _).drew.trans hy1; have hs2 := hS _ hy2)
      | (go_at_call 20; refine (unhide N4 _).mono ?_; rintro e y3 ⟨rfl, hy3⟩; have hy4 : Below x2.heap.size x2 y3 := hy2.trans (hy3.mono hy2.size); have hs3 := hS _ hy4)))
  all_goals
    go_wp2
    go_ret
    exact ⟨ret_bool (by simp), hbx.trans ((HB2.trans (hy4.mono HB2.size)).mono hbx.size)⟩

theorem ownRuleJudges : ownKnob Try.prog.godebug = none := by kernel_rfl
theorem laidOutRuleJudges : laidOutB Try.prog = true := by kernel_rfl
set_option maxRecDepth 100000 in
theorem contractRuleJudges (H : Type) (enc : TypeId × Value → H) (W : World) (base : Nat) (args : Array Value) (ds gs : List (DataW H)) (before : List MemPlace)
    (hval0 : ∀ (j : Nat) t v, Try.f6.params[j]? = some t → args[j]? = some v → Value.okWide Try.prog W .any base t v)
    (hW : DataW.Whole enc Try.prog Try.f6.params.toList Rows.ruleJudgesSpec.vars false W args.toList ds gs before) :
    Calls Try.prog 6 args W fun e W' => ∃ v, e = .returned v ∧ Rows.ruleJudgesSpec.post enc Try.prog Try.f6 false true false false W args v W' := by
  have hval : ∀ (j : Nat) t v, Try.f6.params[j]? = some t → args[j]? = some v → Value.okWide Try.prog W .any base t v := hval0
  have hW' := hW
  obtain ⟨p, q, hA0, hV, rfl, hfz, hnd⟩ := hW
  have hA : DataW.TrodAll enc Try.prog W 0 (fun _ => true) true Try.f6.params.toList args.toList ds p := hA0
  rw [Try.params6] at hA hval
  obtain ⟨v0, vs0, d0, ds0, p0, q0, hargs, rfl, rfl, h0, r0⟩ := trodAll_cons hA
  obtain ⟨v1, vs1, d1, ds1, p1, q1, rfl, rfl, rfl, h1, r1⟩ := trodAll_cons r0
  obtain ⟨rfl, rfl, rfl⟩ := trodAll_nil r1
  obtain rfl : args = #[v0, v1] := by cases args; simp_all
  obtain ⟨rfl, rfl⟩ := trodVars_none hV
  clear hA0 hval0
  simp only [List.append_nil] at hW'
  have hlt0 : ∀ x ∈ p0, x.block < W.heap.size := fun x hx => by simpa using hW'.lt x (by simp [hx])
  have hargs0 : ∀ (W' : World), Below W.heap.size W W' → DataW.Trod enc Try.prog W' 0 (fun b => decide (b < W.heap.size)) true 48 v0 d0 p0 :=
    fun W' hn => Below.trod laidOutRuleJudges (by kernel_rfl) (of_decide_eq_true (by kernel_rfl)) h0 hn hlt0
  have hlt1 : ∀ x ∈ p1, x.block < W.heap.size := fun x hx => by simpa using hW'.lt x (by simp [hx])
  have hargs1 : ∀ (W' : World), Below W.heap.size W W' → DataW.Trod enc Try.prog W' 0 (fun b => decide (b < W.heap.size)) true 50 v1 d1 p1 :=
    fun W' hn => Below.trod laidOutRuleJudges (by kernel_rfl) (of_decide_eq_true (by kernel_rfl)) h1 hn hlt1
  obtain ⟨x0, rfl, hr0⟩ := openRisk (hval 0 48 v0 rfl rfl) h0
  obtain ⟨x1, rfl, hr1⟩ := openSeen (hval 1 50 v1 rfl rfl) h1
  refine (walkRuleJudges x0 x1 W hr0 hr1).mono fun e W' ⟨he, bel⟩ => ?_
  subst he
  exact ⟨_, rfl, _, _, _, [], _, [], hW', trodAll_mk1 (shut_bool Try.underlying4 _), (trodAll_cons_mk (hargs0 _ bel) (trodAll_cons_mk (hargs1 _ bel) trodAll_mk0)), rfl, bel.frame _, fun h => by cases h⟩

set_option maxRecDepth 100000 in
theorem liftedRuleJudges (os : Os) (started : os.Started) (H : Type) (enc : TypeId × Value → H) :
    ReturnsInHanded {} Try.checked os 6 .any (Rows.ruleJudgesSpec.pre6 enc Try.prog Try.f6 Rows.ruleJudgesRow.domain false) (Rows.ruleJudgesSpec.post enc Try.prog Try.f6 false true false false) := by
  refine returnsInHanded_of_change (C := Try.checked) ownRuleJudges started (by kernel_rfl) Try.func6
    (ChangeSpec.witness6 (enc := enc) (C := Try.checked) false ⟨#[], #[.agg #[.int .i64 0, .int .i64 0, .int .i64 0, .int .i64 0, .int .i64 0, .int .i64 0, .slice none 0 0], .agg #[.string ByteArray.empty, .int .i64 0, .int .i64 0, .int .i64 0, .int .i64 0, .int .i64 0]], []⟩ 8 (by kernel_rfl) (by kernel_rfl) (by kernel_rfl) (by kernel_rfl)) ?_
  intro W base args ds gs before hval hW hcnd _
  exact contractRuleJudges H enc W base args ds gs before hval hW

theorem overRuleJudges : Rows.ruleJudgesRow.holds Try.pinned (OpenSpec.ofChange Rows.ruleJudgesSpec) :=
  OpenClaim.holds_of_wide 6 Try.f6 rfl rfl rfl rfl rfl rfl rfl ⟨rfl, rfl, rfl, rfl, rfl⟩ rfl rfl rfl rfl rfl (by kernel_rfl) Try.func6 (by kernel_rfl)
    (of_decide_eq_true (by kernel_rfl)) (by unfold Func.isWrapper; first | (rw [if_pos (by decide +kernel)]; kernel_rfl) | (rw [if_neg (by decide +kernel)]; exact ⟨rfl, rfl⟩))
    (fun os started H enc _ => liftedRuleJudges os started H enc)

/-- THE STATEMENT -/
theorem ruleJudges_holds : Rows.RuleJudgesSaid := overRuleJudges
#print axioms ruleJudges_holds
end Go.Proofs.Ytklnbkfajjgkaaf
