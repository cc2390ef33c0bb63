/- For every number, count of bytes and text: Number and ReadNumber of the program answer as the document's own do, and what Number wrote ReadNumber reads. No conditions. -/
import Derived.Test.YthamjfgiklbifabRows
import Derived.Test.YthamjfgiklbifabNumAll
import Derived.WalkKit
import Derived.ProofKit
import Derived.OpenShut
import Derived.ShutString
import Derived.ChangeOld
import Derived.Below
namespace Go.Proofs.Ythamjfgiklbifab
open Go.ChangeShapes Go.WideShapes Go.ChangeAt Go.RowKit
open Go.ChangeMaps (open_string shut_string)
set_option linter.unusedVariables false

theorem ownTagNumbers : ownKnob Try.prog.godebug = none := by kernel_rfl

set_option maxHeartbeats 1000000 in
theorem walkTagNumbers (a0 : Int) (a1 : Int) (a2 : ByteArray) (w0 : (Lit.int .i64 a0).wf = true) (w1 : (Lit.int .i64 a1).wf = true) (w2 : a2.size ≤ maxLen) (w : World) :
    Calls Try.prog 8 #[.int .i64 a0, .int .i64 a1, .string a2] w fun e w' => e = .returned (.bool true) ∧ Below w.heap.size w w' := by
  have hb := bounds_i64 w0
  have hn : a0 ≤ 9223372036854775807 := by omega
  have hsz := numS_size a0 a1
  have hsm : (numS a0 a1).size ≤ maxLen := by unfold maxLen; omega
  have hfin : (numE a0 a1 = 0 ∧ readV (numS a0 a1) = a0 ∧ readE (numS a0 a1) = 0) ∨ numE a0 a1 = 3 := by
    by_cases h : numOk a0 a1
    · exact .inl ⟨numE_yes h, (read_num a0 a1 hn h).1, (read_num a0 a1 hn h).2⟩
    · exact .inr (numE_no h)
  have n1 := fun w => number_all a0 a1 w hn
  have n2 := fun w => rnumber_all a0 a1 w hn
  have r1 := fun w => read_all a2 w w2
  have r2 := fun w => rread_all a2 w w2
  have r3 := fun w => read_all (numS a0 a1) w hsm
  generalize numS a0 a1 = t at *
  generalize numE a0 a1 = er at *
  generalize readV a2 = m at *
  generalize readE a2 = f at *
  generalize readV t = m' at *
  generalize readE t = f' at *
  have N1 := hide n1; have N2 := hide n2; have R1 := hide r1; have R2 := hide r2; have R3 := hide r3
  have HF := hide hfin
  clear n1 n2 r1 r2 r3 hfin hsz hsm hb hn w0 w1 w2
  go_enter Try.func8, Try.ntmps8
  go_wp2_with fail
  refine (unhide N1 _).mono ?_
  rintro e x1 ⟨rfl, b1⟩
  go_wp2_with fail
  refine (unhide N2 _).mono ?_
  rintro e x2 ⟨rfl, b2⟩
  go_wp2_with fail
  refine (unhide R1 _).mono ?_
  rintro e x3 ⟨rfl, rfl⟩
  go_wp2_with fail
  refine (unhide R2 _).mono ?_
  rintro e x4 ⟨rfl, rfl⟩
  go_wp2_with fail
  refine (unhide R3 _).mono ?_
  rintro e x5 ⟨rfl, rfl⟩
  have hbel : Below w.heap.size w x5 := b1.trans (b2.mono b1.size)
  rcases unhide HF with ⟨g1, g2, g3⟩ | g1
  · have t1 : (er != 0) = false := by rw [g1]; rfl
    have t2 : (f' == 0) = true := by rw [g3]; rfl
    have t3 : (m' == a0) = true := by rw [g2]; exact beq_self_eq_true _
    clear g1 g2 g3
    go_wp2
    go_ret
    exact ⟨rfl, hbel⟩
  · have t1 : (er != 0) = true := by rw [g1]; rfl
    clear g1
    go_wp2
    go_ret
    exact ⟨rfl, hbel⟩

set_option maxRecDepth 100000 in
theorem liftedTagNumbers (os : Os) (started : os.Started) (H : Type) (enc : TypeId × Value → H) :
    ReturnsInHanded {} Try.checked os 8 .any (Rows.tagNumbersSpec.pre6 enc Try.prog Try.f8 Rows.tagNumbersRow.domain false) (Rows.tagNumbersSpec.post enc Try.prog Try.f8 false true false false) := by
  refine returnsInHanded_of_change (C := Try.checked) ownTagNumbers started (by kernel_rfl) Try.func8
    (ChangeSpec.witness6 (enc := enc) (C := Try.checked) false ⟨#[], #[.int .i64 0, .int .i64 0, .string ByteArray.empty], []⟩ 8 (by kernel_rfl) (by kernel_rfl) (by kernel_rfl) (by kernel_rfl)) ?_
  intro W base args ds gs before hval0 hW hcnd _
  have hval : ∀ (j : Nat) t v, Try.f8.params[j]? = some t → args[j]? = some v → Value.okWide Try.prog W .any base t v := hval0
  have hW' := hW
  obtain ⟨p, q, hA0, hV, rfl, hfz, hnd⟩ := hW
  have hA : DataW.TrodAll enc Try.prog W 0 (fun _ => true) true Try.f8.params.toList args.toList ds p := hA0
  rw [Try.params8] at hA hval
  obtain ⟨v0, vs0, d0, ds0, p0, q0, hargs, rfl, rfl, h0, r0⟩ := trodAll_cons hA
  obtain ⟨v1, vs1, d1, ds1, p1, q1, rfl, rfl, rfl, h1, r1⟩ := trodAll_cons r0
  obtain ⟨v2, vs2, d2, ds2, p2, q2, rfl, rfl, rfl, h2, r2⟩ := trodAll_cons r1
  obtain ⟨rfl, rfl, rfl⟩ := trodAll_nil r2
  obtain rfl : args = #[v0, v1, v2] := by cases args; simp_all
  obtain ⟨rfl, rfl⟩ := trodVars_none hV
  obtain ⟨a0, rfl, rfl, rfl, w0⟩ := open_int Try.underlying3 (hval 0 3 v0 rfl rfl) h0
  obtain ⟨a1, rfl, rfl, rfl, w1⟩ := open_int Try.underlying3 (hval 1 3 v1 rfl rfl) h1
  obtain ⟨a2, rfl, rfl, rfl, w2⟩ := open_string Try.underlying9 (hval 2 9 v2 rfl rfl) h2
  clear hA0 hval0
  simp only [List.append_nil] at hW'
  refine (walkTagNumbers a0 a1 a2 w0 w1 w2 W).mono fun e W' ⟨he, bel⟩ => ?_
  subst he
  exact ⟨_, rfl, _, _, _, [], [], [], hW', trodAll_mk1 (shut_bool Try.underlying4 _), (trodAll_cons_mk (shut_int Try.underlying3 w0) (trodAll_cons_mk (shut_int Try.underlying3 w1) (trodAll_cons_mk (shut_string Try.underlying9 w2) trodAll_mk0))), rfl, bel.frame _, fun h => by cases h⟩

theorem overTagNumbers : Rows.tagNumbersRow.holds Try.pinned (OpenSpec.ofChange Rows.tagNumbersSpec) :=
  OpenClaim.holds_of_wide 8 Try.f8 rfl rfl rfl rfl rfl rfl rfl ⟨rfl, rfl, rfl, rfl, rfl⟩ rfl rfl rfl rfl rfl (by kernel_rfl) Try.func8 (by kernel_rfl)
    (of_decide_eq_true (by kernel_rfl)) (by unfold Func.isWrapper; first | (rw [if_pos (by decide +kernel)]; kernel_rfl) | (rw [if_neg (by decide +kernel)]; exact ⟨rfl, rfl⟩))
    (fun os started H enc _ => liftedTagNumbers os started H enc)

/-- THE STATEMENT -/
theorem tagNumbers_holds : Rows.TagNumbersSaid := overTagNumbers
#print axioms tagNumbers_holds
end Go.Proofs.Ythamjfgiklbifab
