/- For every risk, everything that is seen of a card and every number: of the draws from 1 to 99 just as many are drawn as the percent says, at least Share and at most Most, Share below From, and not fewer where the amount is greater (below the floor); and where the risk is not right, Judge says so. No conditions. -/
import Derived.Test.YtklnbkfajjgkaafDrawn
import Derived.Test.YtklnbkfajjgkaafRows
import Derived.WalkKit
import Derived.ProofKit
import Derived.OpenShut
import Derived.ShutString
import Derived.ChangeOld
import Derived.Below
namespace Go.Proofs.Ytklnbkfajjgkaaf
open Go.ChangeShapes Go.WideShapes Go.ChangeAt Go.RowKit
open Go.ChangeMaps (open_string shut_string)
set_option linter.unusedVariables false




set_option maxHeartbeats 4000000 in
theorem walkDrawnBad (r : XRisk) (s : XSeen) (m : Int) (w : World) (hrow : Rowstring w r.blacko r.black) (h : riskE r ≠ 0) :
    Calls Try.prog 7 #[valRisk r, valSeen s, .int .i64 m] w fun e w' => e = .returned (.bool true) ∧ Below w.heap.size w w' := by
  have hje : judgeE r s = riskE r := by rw [judgeE, if_neg h]
  have hja : judgeA r s = 0 := by rw [judgeA, if_neg (by rw [hje]; exact h)]
  have n1 := fun w' (h : Below w.heap.size w w') => judge_any r s w' (hrow.below h)
  have n3 := fun w' => checkRisk_any r w'
  rw [hje, hja] at n1
  have hbx := below_jboxes r s w
  have hat := jboxes_at r s w
  have hne : (riskE r != 0) = true := by simpa using h
  clear hrow hje hja h
  generalize riskE r = re at *
  unfold valRisk valSeen at *
  have N1 := hide n1; have N3 := hide n3
  clear n1 n3
  go_enter Try.func7, Try.ntmps7
  go_wp2_with fail
  refine (unhide N3 _).mono ?_
  rintro e x1 ⟨rfl, hb1⟩
  have HB : Below (jboxes r s w).heap.size (jboxes r s w) x1 := hb1
  obtain ⟨r0, r1, r2, r3, r4, r5, r6⟩ := (hat.1.below HB).cells
  obtain ⟨s0, s1, s2, s3, s4, s5⟩ := (hat.2.below HB).cells
  have hbw := hbx.trans (HB.mono hbx.size)
  have N1' := hide (unhide N1 _ hbw)
  clear hb1 hbw N1
  go_wp2_with fail
  refine (unhide N1').mono ?_
  rintro e x2 ⟨rfl, hb2⟩
  have HB2 : Below (jboxes r s w).heap.size (jboxes r s w) x2 := HB.trans (hb2.mono HB.size)
  clear r0 r1 r2 r3 r4 r5 r6 s0 s1 s2 s3 s4 s5 HB hb2 N1'
  obtain ⟨r0, r1, r2, r3, r4, r5, r6⟩ := (hat.1.below HB2).cells
  go_wp2_with fail
  refine (unhide N3 _).mono ?_
  rintro e x3 ⟨rfl, hb3⟩
  clear r0 r1 r2 r3 r4 r5 r6
  go_wp2
  go_ret
  exact ⟨ret_bool (by simp), hbx.trans ((HB2.trans (hb3.mono HB2.size)).mono hbx.size)⟩

set_option maxHeartbeats 8000000 in
theorem walkRuleDrawn (r : XRisk) (s : XSeen) (m : Int) (w : World) (hr : okRisk w r) (hs : okSeen w s) (hm : -9223372036854775808 ≤ m ∧ m ≤ 9223372036854775807) :
    Calls Try.prog 7 #[valRisk r, valSeen s, .int .i64 m] w fun e w' => e = .returned (.bool true) ∧ Below w.heap.size w w' := by
  have hrow : Rowstring w r.blacko r.black := hr.2.2.2.2.2.2
  clear hr hs
  by_cases h : riskE r = 0
  case neg => exact walkDrawnBad r s m w hrow h
  have n1 := fun w' (h : Below w.heap.size w w') => judge_any r { s with draw := 1 } w' (hrow.below h)
  have n3 := fun w' => checkRisk_any r w'
  rw [h] at n3
  have hbx := below_jboxes r s w
  have hat := jboxes_at r s w
  obtain ⟨_, ho⟩ := riskE_zero h
  have hje : judgeE r { s with draw := 1 } = seenE { s with draw := 1 } := by rw [judgeE, if_pos h]
  rw [hje] at n1
  by_cases h2 : SeenOK { s with draw := 1 }
  · have hse : seenE { s with draw := 1 } = 0 := by rw [seenE, if_pos h2]
    rw [hse] at n1
    clear hse hje
    generalize judgeA r { s with draw := 1 } = ja at *
    have n4 := fun a (ha0 : 0 ≤ a) (haf : a < r.floor) am dr w' (hb : Below w.heap.size w w') (hs' : SAt w' (w.heap.size + 1) { s with amount := am, draw := dr }) (hra : RAt w' w.heap.size r) =>
      count_any r { s with amount := am, draw := dr } a (w.heap.size + 1) w.heap.size w w' hrow hb hs' hra (by omega) (by omega) h
        (fun d h1 h3 => ⟨⟨ha0, by have := ho.1.2; simp only; omega⟩, h2.2.1, h2.2.2.1, h2.2.2.2.1, ⟨h1, h3⟩⟩) haf
    have n5 := fun (n : Int) (w' : World) (h0 : 0 < n) (hn : n ≤ 999999999999) => choose_any m n w' h0 hn hm
    have hbnd := fun n (hn : n < r.floor) => pct_bounds r n ho hn
    have hris := fun a b (hab : a ≤ b) (hb : b < r.floor) => pct_rises r a b ho hab hb
    have hshare : s.amount < r.frm → pct r s.amount = r.share := fun hq => by unfold pct; rw [if_pos hq]
    have ha0 : 0 ≤ s.amount := h2.1.1
    have ha1 : s.amount ≤ 999999999999 := h2.1.2
    have hf1 : r.floor ≤ 999999999999 := ho.1.2
    clear h hrow ho h2 hm
    unfold valRisk valSeen at *
    have N1 := hide n1; have N3 := hide n3; have N4 := hide n4; have N5 := hide n5
    have HBN := hide hbnd; have HRI := hide hris; have HSH := hide hshare
    clear n1 n3 n4 n5 hbnd hris hshare
    by_cases hfl : s.amount < r.floor
    · go_enter Try.func7, Try.ntmps7
      go_wp2_with fail
      refine (unhide N3 _).mono ?_
      rintro e x1 ⟨rfl, hb1⟩
      have HB : Below (jboxes r s w).heap.size (jboxes r s w) x1 := hb1
      have hs1 := hat.2.below HB
      have hr1 := hat.1.below HB
      have hb1' := hbx.trans (HB.mono hbx.size)
      clear hb1 HB hat hbx
      have hs2 : SAt (x1.setCell ⟨w.heap.size + 1, 5, none⟩ (.int .i64 1)) (w.heap.size + 1) { s with draw := 1 } := hs1.draw 1
      have hr2 : RAt (x1.setCell ⟨w.heap.size + 1, 5, none⟩ (.int .i64 1)) w.heap.size r := hr1.set (by omega) _
      have hb2 : Below w.heap.size w (x1.setCell ⟨w.heap.size + 1, 5, none⟩ (.int .i64 1)) := hb1'.setCell (by simp) _
      obtain ⟨s0, s1, s2, s3, s4, s5⟩ := hs1.cells
      have t5 := hs1.thaw 5
      obtain ⟨q0, q1, q2, q3, q4, q5⟩ := hs2.cells
      obtain ⟨r0, r1, r2, r3, r4, r5, r6⟩ := hr2.cells
      have J := hide (unhide N1 _ hb2)
      have HS2 := hide hs2; have HR2 := hide hr2; have HB2 := hide hb2
      clear hs2 hr2 hb2 N1 hs1 hr1 hb1'
      go_wp2_with fail
      refine (unhide J).mono ?_
      rintro e x2 ⟨rfl, hb3⟩
      have hs3 := (unhide HS2).below hb3
      have hr3 := (unhide HR2).below hb3
      have hb4 := (unhide HB2).trans (hb3.mono (unhide HB2).size)
      clear q0 q1 q2 q3 q4 q5 r0 r1 r2 r3 r4 r5 r6 J s0 s1 s2 s3 s4 s5 t5 HS2 HR2 HB2 hb3 N3
      obtain ⟨q0, q1, q2, q3, q4, q5⟩ := hs3.cells
      obtain ⟨r0, r1, r2, r3, r4, r5, r6⟩ := hr3.cells
      have C1 := hide (unhide N4 s.amount ha0 hfl s.amount 1 x2 hb4 hs3 hr3)
      clear hs3 hr3 hb4
      go_wp2_with fail
      refine (unhide C1).mono ?_
      rintro e x3 ⟨rfl, ⟨am, dr, hs5⟩, hr5, hb5⟩
      clear q0 q1 q2 q3 q4 q5 r0 r1 r2 r3 r4 r5 r6 C1
      obtain ⟨q0, q1, q2, q3, q4, q5⟩ := hs5.cells
      obtain ⟨r0, r1, r2, r3, r4, r5, r6⟩ := hr5.cells
      have C5 := hide (fun a ha0 haf => unhide N4 a ha0 haf am dr x3 hb5 hs5 hr5)
      have hp := unhide HBN s.amount hfl
      have hsh := unhide HSH
      have HMore := hide (fun b hab hb => unhide HRI s.amount b hab hb)
      clear hs5 hr5 hb5 N4 HBN HSH HRI
      generalize pct r s.amount = p at *
      have hfp : 0 < r.floor - s.amount := by omega
      have CH := hide (unhide N5 (r.floor - s.amount) x3 hfp (by omega))
      by_cases hq : s.amount < r.frm
      · have hps := hsh hq
        have HPS : (p != r.share) = false := by simpa using hps
        clear hsh hps
        go_wp2_with fail
        refine (unhide CH).mono ?_
        rintro e x4 ⟨⟨v, rfl, hv0, hv1⟩, rfl⟩
        have C6 := hide (unhide C5 (s.amount + v) (by omega) (by omega))
        have HM := hide (unhide HMore (s.amount + v) (by omega) (by omega))
        go_wp2_with fail
        refine (unhide C6).mono ?_
        rintro e x5 ⟨rfl, _, _, hb6⟩
        go_wp2
        go_ret
        exact ⟨ret_bool (by simpa using unhide HM), hb6⟩
      · clear hsh
        go_wp2_with fail
        refine (unhide CH).mono ?_
        rintro e x4 ⟨⟨v, rfl, hv0, hv1⟩, rfl⟩
        have C6 := hide (unhide C5 (s.amount + v) (by omega) (by omega))
        have HM := hide (unhide HMore (s.amount + v) (by omega) (by omega))
        go_wp2_with fail
        refine (unhide C6).mono ?_
        rintro e x5 ⟨rfl, _, _, hb6⟩
        go_wp2
        go_ret
        exact ⟨ret_bool (by simpa using unhide HM), hb6⟩
    · go_enter Try.func7, Try.ntmps7
      go_wp2_with fail
      refine (unhide N3 _).mono ?_
      rintro e x1 ⟨rfl, hb1⟩
      have HB : Below (jboxes r s w).heap.size (jboxes r s w) x1 := hb1
      have hs1 := hat.2.below HB
      have hr1 := hat.1.below HB
      have hb1' := hbx.trans (HB.mono hbx.size)
      clear hb1 HB hat hbx
      have hs2 : SAt (x1.setCell ⟨w.heap.size + 1, 5, none⟩ (.int .i64 1)) (w.heap.size + 1) { s with draw := 1 } := hs1.draw 1
      have hr2 : RAt (x1.setCell ⟨w.heap.size + 1, 5, none⟩ (.int .i64 1)) w.heap.size r := hr1.set (by omega) _
      have hb2 : Below w.heap.size w (x1.setCell ⟨w.heap.size + 1, 5, none⟩ (.int .i64 1)) := hb1'.setCell (by simp) _
      obtain ⟨s0, s1, s2, s3, s4, s5⟩ := hs1.cells
      have t5 := hs1.thaw 5
      obtain ⟨q0, q1, q2, q3, q4, q5⟩ := hs2.cells
      obtain ⟨r0, r1, r2, r3, r4, r5, r6⟩ := hr2.cells
      have J := hide (unhide N1 _ hb2)
      have HS2 := hide hs2; have HR2 := hide hr2; have HB2 := hide hb2
      clear hs2 hr2 hb2 N1 hs1 hr1 hb1' N4 N5 HBN HSH HRI
      go_wp2_with fail
      refine (unhide J).mono ?_
      rintro e x2 ⟨rfl, hb3⟩
      have hs3 := (unhide HS2).below hb3
      have hr3 := (unhide HR2).below hb3
      have hb4 := (unhide HB2).trans (hb3.mono (unhide HB2).size)
      clear q0 q1 q2 q3 q4 q5 r0 r1 r2 r3 r4 r5 r6 J s0 s1 s2 s3 s4 s5 t5 HS2 HR2 HB2 hb3 N3
      obtain ⟨q0, q1, q2, q3, q4, q5⟩ := hs3.cells
      obtain ⟨r0, r1, r2, r3, r4, r5, r6⟩ := hr3.cells
      go_wp2
      go_ret
      exact ⟨ret_bool (by simp), hb4⟩
  · have hse : seenE { s with draw := 1 } = 3 := by rw [seenE, if_neg h2]
    rw [hse] at n1
    clear hse hje
    generalize judgeA r { s with draw := 1 } = ja at *
    clear h hrow ho h2 hm
    unfold valRisk valSeen at *
    have N1 := hide n1; have N3 := hide n3
    clear n1 n3
    go_enter Try.func7, Try.ntmps7
    go_wp2_with fail
    refine (unhide N3 _).mono ?_
    rintro e x1 ⟨rfl, hb1⟩
    have HB : Below (jboxes r s w).heap.size (jboxes r s w) x1 := hb1
    have hs1 := hat.2.below HB
    have hr1 := hat.1.below HB
    have hb1' := hbx.trans (HB.mono hbx.size)
    clear hb1 HB hat hbx
    have hs2 : SAt (x1.setCell ⟨w.heap.size + 1, 5, none⟩ (.int .i64 1)) (w.heap.size + 1) { s with draw := 1 } := hs1.draw 1
    have hr2 : RAt (x1.setCell ⟨w.heap.size + 1, 5, none⟩ (.int .i64 1)) w.heap.size r := hr1.set (by omega) _
    have hb2 : Below w.heap.size w (x1.setCell ⟨w.heap.size + 1, 5, none⟩ (.int .i64 1)) := hb1'.setCell (by simp) _
    obtain ⟨s0, s1, s2, s3, s4, s5⟩ := hs1.cells
    have t5 := hs1.thaw 5
    obtain ⟨q0, q1, q2, q3, q4, q5⟩ := hs2.cells
    obtain ⟨r0, r1, r2, r3, r4, r5, r6⟩ := hr2.cells
    have J := hide (unhide N1 _ hb2)
    have HB2 := hide hb2
    clear hs2 hr2 hb2 N1 hs1 hr1 hb1'
    go_wp2_with fail
    refine (unhide J).mono ?_
    rintro e x2 ⟨rfl, hb3⟩
    have hb4 := (unhide HB2).trans (hb3.mono (unhide HB2).size)
    go_wp2
    go_ret
    exact ⟨ret_bool (by simp), hb4⟩

theorem ownRuleDrawn : ownKnob Try.prog.godebug = none := by kernel_rfl
theorem laidOutRuleDrawn : laidOutB Try.prog = true := by kernel_rfl
set_option maxRecDepth 100000 in
theorem contractRuleDrawn (H : Type) (enc : TypeId × Value → H) (W : World) (base : Nat) (args : Array Value) (ds gs : List (DataW H)) (before : List MemPlace)
    (hval0 : ∀ (j : Nat) t v, Try.f7.params[j]? = some t → args[j]? = some v → Value.okWide Try.prog W .any base t v)
    (hW : DataW.Whole enc Try.prog Try.f7.params.toList Rows.ruleDrawnSpec.vars false W args.toList ds gs before) :
    Calls Try.prog 7 args W fun e W' => ∃ v, e = .returned v ∧ Rows.ruleDrawnSpec.post enc Try.prog Try.f7 false true false false W args v W' := by
  have hval : ∀ (j : Nat) t v, Try.f7.params[j]? = some t → args[j]? = some v → Value.okWide Try.prog W .any base t v := hval0
  have hW' := hW
  obtain ⟨p, q, hA0, hV, rfl, hfz, hnd⟩ := hW
  have hA : DataW.TrodAll enc Try.prog W 0 (fun _ => true) true Try.f7.params.toList args.toList ds p := hA0
  rw [Try.params7] at hA hval
  obtain ⟨v0, vs0, d0, ds0, p0, q0, hargs, rfl, rfl, h0, r0⟩ := trodAll_cons hA
  obtain ⟨v1, vs1, d1, ds1, p1, q1, rfl, rfl, rfl, h1, r1⟩ := trodAll_cons r0
  obtain ⟨v2, vs2, d2, ds2, p2, q2, rfl, rfl, rfl, h2, r2⟩ := trodAll_cons r1
  obtain ⟨rfl, rfl, rfl⟩ := trodAll_nil r2
  obtain rfl : args = #[v0, v1, v2] := by cases args; simp_all
  obtain ⟨rfl, rfl⟩ := trodVars_none hV
  clear hA0 hval0
  simp only [List.append_nil] at hW'
  have hlt0 : ∀ x ∈ p0, x.block < W.heap.size := fun x hx => by simpa using hW'.lt x (by simp [hx])
  have hargs0 : ∀ (W' : World), Below W.heap.size W W' → DataW.Trod enc Try.prog W' 0 (fun b => decide (b < W.heap.size)) true 48 v0 d0 p0 :=
    fun W' hn => Below.trod laidOutRuleDrawn (by kernel_rfl) (of_decide_eq_true (by kernel_rfl)) h0 hn hlt0
  have hlt1 : ∀ x ∈ p1, x.block < W.heap.size := fun x hx => by simpa using hW'.lt x (by simp [hx])
  have hargs1 : ∀ (W' : World), Below W.heap.size W W' → DataW.Trod enc Try.prog W' 0 (fun b => decide (b < W.heap.size)) true 50 v1 d1 p1 :=
    fun W' hn => Below.trod laidOutRuleDrawn (by kernel_rfl) (of_decide_eq_true (by kernel_rfl)) h1 hn hlt1
  have hlt2 : ∀ x ∈ p2, x.block < W.heap.size := fun x hx => by simpa using hW'.lt x (by simp [hx])
  have hargs2 : ∀ (W' : World), Below W.heap.size W W' → DataW.Trod enc Try.prog W' 0 (fun b => decide (b < W.heap.size)) true 3 v2 d2 p2 :=
    fun W' hn => Below.trod laidOutRuleDrawn (by kernel_rfl) (of_decide_eq_true (by kernel_rfl)) h2 hn hlt2
  obtain ⟨x0, rfl, hr0⟩ := openRisk (hval 0 48 v0 rfl rfl) h0
  obtain ⟨x1, rfl, hr1⟩ := openSeen (hval 1 50 v1 rfl rfl) h1
  obtain ⟨a2, rfl, hd2, _, w2⟩ := open_int Try.underlying3 (hval 2 3 v2 rfl rfl) h2
  refine (walkRuleDrawn x0 x1 a2 W hr0 hr1 (bounds_i64 w2)).mono fun e W' ⟨he, bel⟩ => ?_
  subst he
  exact ⟨_, rfl, _, _, _, [], _, [], hW', trodAll_mk1 (shut_bool Try.underlying4 _), (trodAll_cons_mk (hargs0 _ bel) (trodAll_cons_mk (hargs1 _ bel) (trodAll_cons_mk (hargs2 _ bel) trodAll_mk0))), rfl, bel.frame _, fun h => by cases h⟩

set_option maxRecDepth 100000 in
theorem liftedRuleDrawn (os : Os) (started : os.Started) (H : Type) (enc : TypeId × Value → H) :
    ReturnsInHanded {} Try.checked os 7 .any (Rows.ruleDrawnSpec.pre6 enc Try.prog Try.f7 Rows.ruleDrawnRow.domain false) (Rows.ruleDrawnSpec.post enc Try.prog Try.f7 false true false false) := by
  refine returnsInHanded_of_change (C := Try.checked) ownRuleDrawn started (by kernel_rfl) Try.func7
    (ChangeSpec.witness6 (enc := enc) (C := Try.checked) false ⟨#[], #[.agg #[.int .i64 0, .int .i64 0, .int .i64 0, .int .i64 0, .int .i64 0, .int .i64 0, .slice none 0 0], .agg #[.string ByteArray.empty, .int .i64 0, .int .i64 0, .int .i64 0, .int .i64 0, .int .i64 0], .int .i64 0], []⟩ 8 (by kernel_rfl) (by kernel_rfl) (by kernel_rfl) (by kernel_rfl)) ?_
  intro W base args ds gs before hval hW hcnd _
  exact contractRuleDrawn H enc W base args ds gs before hval hW

theorem overRuleDrawn : Rows.ruleDrawnRow.holds Try.pinned (OpenSpec.ofChange Rows.ruleDrawnSpec) :=
  OpenClaim.holds_of_wide 7 Try.f7 rfl rfl rfl rfl rfl rfl rfl ⟨rfl, rfl, rfl, rfl, rfl⟩ rfl rfl rfl rfl rfl (by kernel_rfl) Try.func7 (by kernel_rfl)
    (of_decide_eq_true (by kernel_rfl)) (by unfold Func.isWrapper; first | (rw [if_pos (by decide +kernel)]; kernel_rfl) | (rw [if_neg (by decide +kernel)]; exact ⟨rfl, rfl⟩))
    (fun os started H enc _ => liftedRuleDrawn os started H enc)

/-- THE STATEMENT -/
theorem ruleDrawn_holds : Rows.RuleDrawnSaid := overRuleDrawn
#print axioms ruleDrawn_holds
end Go.Proofs.Ytklnbkfajjgkaaf
