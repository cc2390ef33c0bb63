/- For all bits, more bits and masks, whether the host can be asked or not: Decide of the bits with the more answers no more than of the bits alone, with the same error, and it answers something just where there is none. No conditions. -/
import Derived.Test.YtklnbkfajjgkaagDecW
import Derived.Test.YtklnbkfajjgkaagMbox
import Derived.Test.YtklnbkfajjgkaagRows
import Derived.WalkKit
import Derived.ProofKit
import Derived.OpenShut
import Derived.ShutString
import Derived.ChangeOld
import Derived.Below
namespace Go.Proofs.Ytklnbkfajjgkaag
open Go.ChangeShapes Go.WideShapes Go.ChangeAt Go.RowKit
open Go.ChangeMaps (open_string shut_string)
set_option linter.unusedVariables false


theorem or_lt12 (b m : Nat) (hb : b < 4096) (hm : m < 4096) : b ||| m < 4096 := Nat.or_lt_two_pow (n := 12) hb hm

set_option maxHeartbeats 2000000 in
theorem walkRuleRises (a0 a1 : Int) (c s : XMasks) (able : Bool) (w : World) (w0 : -9223372036854775808 ≤ a0 ∧ a0 ≤ 9223372036854775807) (w1 : -9223372036854775808 ≤ a1 ∧ a1 ≤ 9223372036854775807) (hc : okMasks w c) (hs : okMasks w s) :
    Calls Try.prog 3 #[.int .i64 a0, .int .i64 a1, valMasks c, valMasks s, .bool able] w fun e w' => e = .returned (.bool true) ∧ Below w.heap.size w w' := by
  obtain ⟨b, hb⟩ := Int.eq_ofNat_of_zero_le (show 0 ≤ a0 % 4096 by omega)
  obtain ⟨m, hm⟩ := Int.eq_ofNat_of_zero_le (show 0 ≤ a1 % 4096 by omega)
  have hbl : b < 4096 := by omega
  have hml : m < 4096 := by omega
  have e0 : bits .and .i64 a0 4095 = (b : Int) := by rw [and_all, hb]
  have e1 : bits .and .i64 a1 4095 = (m : Int) := by rw [and_all, hm]
  have e2 : bits .or .i64 (b : Int) (m : Int) = ((b ||| m : Nat) : Int) := or_natR b m (by omega) (by omega)
  obtain ⟨d1, d2, d3⟩ := dec_more b m hbl hml c s able
  have n1 := fun w => decide_any (b : Int) c s able w
  have n2 := fun w => decide_any ((b ||| m : Nat) : Int) c s able w
  rw [d1] at n2
  have hbx := below_mboxes c s w
  clear d1 hb hm hbl hml w0 w1 hc hs
  generalize (b ||| m : Nat) = x at *
  generalize decA (b : Int) c s able = ra at *
  generalize decA (x : Int) c s able = rb at *
  generalize decE (b : Int) c s = re at *
  unfold valMasks at n1 n2 ⊢
  have N1 := hide n1; have N2 := hide n2
  have D3 := hide d3
  clear n1 n2 d3
  go_enter Try.func3, Try.ntmps3
  go_wp2_with fail
  refine (unhide N1 _).mono ?_
  rintro e x1 ⟨rfl, hb1⟩
  have HB : Below (mboxes c s w).heap.size (mboxes c s w) x1 := hb1
  obtain ⟨i0, i1, i2, i3, i4, i5⟩ := inM HB
  clear hb1
  go_wp2_with fail
  refine (unhide N2 _).mono ?_
  rintro e x2 ⟨rfl, hb2⟩
  clear i0 i1 i2 i3 i4 i5
  go_wp2_with fail
  go_ret
  exact ⟨ret_bool (by rw [unhide D3]; simp), hbx.trans ((HB.trans (hb2.mono HB.size)).mono hbx.size)⟩
theorem ownRuleRises : ownKnob Try.prog.godebug = none := by kernel_rfl
theorem laidOutRuleRises : laidOutB Try.prog = true := by kernel_rfl
set_option maxRecDepth 100000 in
theorem contractRuleRises (H : Type) (enc : TypeId × Value → H) (W : World) (base : Nat) (args : Array Value) (ds gs : List (DataW H)) (before : List MemPlace)
    (hval0 : ∀ (j : Nat) t v, Try.f3.params[j]? = some t → args[j]? = some v → Value.okWide Try.prog W .any base t v)
    (hW : DataW.Whole enc Try.prog Try.f3.params.toList Rows.ruleRisesSpec.vars false W args.toList ds gs before) :
    Calls Try.prog 3 args W fun e W' => ∃ v, e = .returned v ∧ Rows.ruleRisesSpec.post enc Try.prog Try.f3 false true false false W args v W' := by
  have hval : ∀ (j : Nat) t v, Try.f3.params[j]? = some t → args[j]? = some v → Value.okWide Try.prog W .any base t v := hval0
  have hW' := hW
  obtain ⟨p, q, hA0, hV, rfl, hfz, hnd⟩ := hW
  have hA : DataW.TrodAll enc Try.prog W 0 (fun _ => true) true Try.f3.params.toList args.toList ds p := hA0
  rw [Try.params3] at hA hval
  obtain ⟨v0, vs0, d0, ds0, p0, q0, hargs, rfl, rfl, h0, r0⟩ := trodAll_cons hA
  obtain ⟨v1, vs1, d1, ds1, p1, q1, rfl, rfl, rfl, h1, r1⟩ := trodAll_cons r0
  obtain ⟨v2, vs2, d2, ds2, p2, q2, rfl, rfl, rfl, h2, r2⟩ := trodAll_cons r1
  obtain ⟨v3, vs3, d3, ds3, p3, q3, rfl, rfl, rfl, h3, r3⟩ := trodAll_cons r2
  obtain ⟨v4, vs4, d4, ds4, p4, q4, rfl, rfl, rfl, h4, r4⟩ := trodAll_cons r3
  obtain ⟨rfl, rfl, rfl⟩ := trodAll_nil r4
  obtain rfl : args = #[v0, v1, v2, v3, v4] := by cases args; simp_all
  obtain ⟨rfl, rfl⟩ := trodVars_none hV
  clear hA0 hval0
  simp only [List.append_nil] at hW'
  have hlt0 : ∀ x ∈ p0, x.block < W.heap.size := fun x hx => by simpa using hW'.lt x (by simp [hx])
  have hargs0 : ∀ (W' : World), Below W.heap.size W W' → DataW.Trod enc Try.prog W' 0 (fun b => decide (b < W.heap.size)) true 3 v0 d0 p0 :=
    fun W' hn => Below.trod laidOutRuleRises (by kernel_rfl) (of_decide_eq_true (by kernel_rfl)) h0 hn hlt0
  have hlt1 : ∀ x ∈ p1, x.block < W.heap.size := fun x hx => by simpa using hW'.lt x (by simp [hx])
  have hargs1 : ∀ (W' : World), Below W.heap.size W W' → DataW.Trod enc Try.prog W' 0 (fun b => decide (b < W.heap.size)) true 3 v1 d1 p1 :=
    fun W' hn => Below.trod laidOutRuleRises (by kernel_rfl) (of_decide_eq_true (by kernel_rfl)) h1 hn hlt1
  have hlt2 : ∀ x ∈ p2, x.block < W.heap.size := fun x hx => by simpa using hW'.lt x (by simp [hx])
  have hargs2 : ∀ (W' : World), Below W.heap.size W W' → DataW.Trod enc Try.prog W' 0 (fun b => decide (b < W.heap.size)) true 23 v2 d2 p2 :=
    fun W' hn => Below.trod laidOutRuleRises (by kernel_rfl) (of_decide_eq_true (by kernel_rfl)) h2 hn hlt2
  have hlt3 : ∀ x ∈ p3, x.block < W.heap.size := fun x hx => by simpa using hW'.lt x (by simp [hx])
  have hargs3 : ∀ (W' : World), Below W.heap.size W W' → DataW.Trod enc Try.prog W' 0 (fun b => decide (b < W.heap.size)) true 23 v3 d3 p3 :=
    fun W' hn => Below.trod laidOutRuleRises (by kernel_rfl) (of_decide_eq_true (by kernel_rfl)) h3 hn hlt3
  have hlt4 : ∀ x ∈ p4, x.block < W.heap.size := fun x hx => by simpa using hW'.lt x (by simp [hx])
  have hargs4 : ∀ (W' : World), Below W.heap.size W W' → DataW.Trod enc Try.prog W' 0 (fun b => decide (b < W.heap.size)) true 4 v4 d4 p4 :=
    fun W' hn => Below.trod laidOutRuleRises (by kernel_rfl) (of_decide_eq_true (by kernel_rfl)) h4 hn hlt4
  obtain ⟨a0, rfl, hd0, _, w0⟩ := open_int Try.underlying3 (hval 0 3 v0 rfl rfl) h0
  obtain ⟨a1, rfl, hd1, _, w1⟩ := open_int Try.underlying3 (hval 1 3 v1 rfl rfl) h1
  obtain ⟨x2, rfl, hr2⟩ := openMasks (hval 2 23 v2 rfl rfl) h2
  obtain ⟨x3, rfl, hr3⟩ := openMasks (hval 3 23 v3 rfl rfl) h3
  obtain ⟨a4, rfl, hd4, _⟩ := open_bool Try.underlying4 (hval 4 4 v4 rfl rfl) h4
  refine (walkRuleRises a0 a1 x2 x3 a4 W (bounds_i64 w0) (bounds_i64 w1) hr2 hr3).mono fun e W' ⟨he, bel⟩ => ?_
  subst he
  exact ⟨_, rfl, _, _, _, [], _, [], hW', trodAll_mk1 (shut_bool Try.underlying4 _), (trodAll_cons_mk (hargs0 _ bel) (trodAll_cons_mk (hargs1 _ bel) (trodAll_cons_mk (hargs2 _ bel) (trodAll_cons_mk (hargs3 _ bel) (trodAll_cons_mk (hargs4 _ bel) trodAll_mk0))))), rfl, bel.frame _, fun h => by cases h⟩

set_option maxRecDepth 100000 in
theorem liftedRuleRises (os : Os) (started : os.Started) (H : Type) (enc : TypeId × Value → H) :
    ReturnsInHanded {} Try.checked os 3 .any (Rows.ruleRisesSpec.pre6 enc Try.prog Try.f3 Rows.ruleRisesRow.domain false) (Rows.ruleRisesSpec.post enc Try.prog Try.f3 false true false false) := by
  refine returnsInHanded_of_change (C := Try.checked) ownRuleRises started (by kernel_rfl) Try.func3
    (ChangeSpec.witness6 (enc := enc) (C := Try.checked) false ⟨#[], #[.int .i64 0, .int .i64 0, .agg #[.int .i64 0, .int .i64 0, .int .i64 0], .agg #[.int .i64 0, .int .i64 0, .int .i64 0], .bool false], []⟩ 8 (by kernel_rfl) (by kernel_rfl) (by kernel_rfl) (by kernel_rfl)) ?_
  intro W base args ds gs before hval hW hcnd _
  exact contractRuleRises H enc W base args ds gs before hval hW

theorem overRuleRises : Rows.ruleRisesRow.holds Try.pinned (OpenSpec.ofChange Rows.ruleRisesSpec) :=
  OpenClaim.holds_of_wide 3 Try.f3 rfl rfl rfl rfl rfl rfl rfl ⟨rfl, rfl, rfl, rfl, rfl⟩ rfl rfl rfl rfl rfl (by kernel_rfl) Try.func3 (by kernel_rfl)
    (of_decide_eq_true (by kernel_rfl)) (by unfold Func.isWrapper; first | (rw [if_pos (by decide +kernel)]; kernel_rfl) | (rw [if_neg (by decide +kernel)]; exact ⟨rfl, rfl⟩))
    (fun os started H enc _ => liftedRuleRises os started H enc)

/-- THE STATEMENT -/
theorem ruleRises_holds : Rows.RuleRisesSaid := overRuleRises
#print axioms ruleRises_holds
end Go.Proofs.Ytklnbkfajjgkaag
