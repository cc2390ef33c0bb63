/- For every key, label, text and seal (of bulk at most 1,048,576 together): Derive, Seal and Sealed of the program answer as the document's own do, and what is no key is refused. -/
import Derived.Test.YtdclilpnpobanacRows
import Derived.Test.YtdclilpnpobanacMillS
import Derived.WalkKit
import Derived.ProofKit
import Derived.OpenShut
import Derived.ShutString
import Derived.JoinedCond
import Derived.Below
import Derived.Carry
namespace Go.Proofs.Ytdclilpnpobanac
open Go.ChangeShapes Go.WideShapes Go.ChangeAt Go.RowKit
open Go.ChangeMaps (open_string shut_string)
set_option linter.unusedVariables false

set_option maxHeartbeats 4000000 in
set_option maxRecDepth 100000 in
theorem walkMillSeals (k l t s : ByteArray) (w : World) (h0 : k.size ≤ 1048576) (h1 : l.size ≤ 1048576) (h2 : t.size ≤ 1048576) (h3 : s.size ≤ 1048576) :
    Calls Try.prog 7 #[.string k, .string l, .string t, .string s] w fun e w' => e = .returned (.bool true) ∧ Below w.heap.size w w' := by
  by_cases hk : k.size = 16
  · have N1 := hide (fun w => derive_yes k l t hk h1 h2 w)
    have N2 := hide (fun w => seal_yes k t hk h2 w)
    have N3 := hide (fun w => rseal_any k t hk h2 w)
    have N4 := hide (fun w => rderive_any k l t hk h1 h2 w)
    have N5 := hide (fun w => sealed_yes k t (sealS k t) hk h2 w)
    have N6 := hide (fun w => sealed_yes k t s hk h2 w)
    rw [decide_eq_true rfl] at N5
    have t0 := len_eq k hk
    generalize sealS k t = x at *
    generalize deriveS k l t = y at *
    clear hk h0 h1 h2 h3
    go_enter Try.func7, Try.ntmps7
    go_wp2_with fail
    refine (unhide N1 _).mono ?_
    rintro e x1 ⟨rfl, b1⟩
    go_wp2_with fail
    refine (unhide N2 _).mono ?_
    rintro e x2 ⟨rfl, b2⟩
    have g2 := b1.trans (b2.mono b1.size)
    clear b1 b2
    go_wp2_with fail
    refine (unhide N3 _).mono ?_
    rintro e x3 ⟨rfl, b3⟩
    have g3 := g2.trans (b3.mono g2.size)
    clear b3 g2
    go_wp2_with fail
    refine (unhide N4 _).mono ?_
    rintro e x4 ⟨rfl, b4⟩
    have g4 := g3.trans (b4.mono g3.size)
    clear b4 g3
    go_wp2_with fail
    refine (unhide N5 _).mono ?_
    rintro e x5 ⟨rfl, b5⟩
    have g5 := g4.trans (b5.mono g4.size)
    clear b5 g4
    go_wp2_with fail
    refine (unhide N6 _).mono ?_
    rintro e x6 ⟨rfl, b6⟩
    have g6 := g5.trans (b6.mono g5.size)
    clear b6 g5 N1 N2 N3 N4 N5 N6
    by_cases h : s = x
    · subst h
      rw [decide_eq_true rfl]
      go_wp2
      go_ret
      exact ⟨ret_bool (by simp), g6⟩
    · rw [decide_eq_false h]
      have hne := seal_ne h
      clear h
      go_wp2
      go_ret
      exact ⟨ret_bool (by simp), g6⟩
  · have N1 := hide (fun w => derive_no k l t hk w)
    have N2 := hide (fun w => seal_no k t hk h2 w)
    have N3 := hide (fun w => sealed_no k t s hk h2 w)
    have t0 := len_ne k hk
    clear hk h0 h1 h2 h3
    go_enter Try.func7, Try.ntmps7
    go_wp2_with fail
    refine (unhide N1 _).mono ?_
    rintro e x1 ⟨rfl, rfl⟩
    go_wp2_with fail
    refine (unhide N2 _).mono ?_
    rintro e x2 ⟨rfl, b2⟩
    go_wp2_with fail
    refine (unhide N3 _).mono ?_
    rintro e x3 ⟨rfl, b3⟩
    have g3 := b2.trans (b3.mono b2.size)
    clear b2 b3 N1 N2 N3
    go_wp2
    go_ret
    exact ⟨ret_bool (by simp), g3⟩

theorem ownMillSeals : ownKnob Try.prog.godebug = none := by kernel_rfl
theorem laidOutMillSeals : laidOutB Try.prog = true := by kernel_rfl
set_option maxRecDepth 100000 in
theorem contractMillSeals (H : Type) (enc : TypeId × Value → H) (W : World) (base : Nat) (args : Array Value) (ds gs : List (DataW H)) (before : List MemPlace)
    (hval0 : ∀ (j : Nat) t v, Try.f7.params[j]? = some t → args[j]? = some v → Value.okWide Try.prog W .any base t v)
    (hW : DataW.Whole enc Try.prog Try.f7.params.toList Rows.millSealsSpec.vars false W args.toList ds gs before) (hk : Rows.uptoSmall H (ds ++ gs) = true) :
    Calls Try.prog 7 args W fun e W' => ∃ v, e = .returned v ∧ Rows.millSealsSpec.post enc Try.prog Try.f7 false true false false W args v W' := by
  have hval : ∀ (j : Nat) t v, Try.f7.params[j]? = some t → args[j]? = some v → Value.okWide Try.prog W .any base t v := hval0
  have hW' := hW
  obtain ⟨p, q, hA0, hV, rfl, hfz, hnd⟩ := hW
  have hA : DataW.TrodAll enc Try.prog W 0 (fun _ => true) true Try.f7.params.toList args.toList ds p := hA0
  rw [Try.params7] at hA hval
  obtain ⟨v0, vs0, d0, ds0, p0, q0, hargs, rfl, rfl, h0, r0⟩ := trodAll_cons hA
  obtain ⟨v1, vs1, d1, ds1, p1, q1, rfl, rfl, rfl, h1, r1⟩ := trodAll_cons r0
  obtain ⟨v2, vs2, d2, ds2, p2, q2, rfl, rfl, rfl, h2, r2⟩ := trodAll_cons r1
  obtain ⟨v3, vs3, d3, ds3, p3, q3, rfl, rfl, rfl, h3, r3⟩ := trodAll_cons r2
  obtain ⟨rfl, rfl, rfl⟩ := trodAll_nil r3
  obtain rfl : args = #[v0, v1, v2, v3] := by cases args; simp_all
  obtain ⟨rfl, rfl⟩ := trodVars_none hV
  clear hA0 hval0
  simp only [List.append_nil] at hW' hk
  have hbulk : Rows.uptoBulk d0 + Rows.uptoBulk d1 + Rows.uptoBulk d2 + Rows.uptoBulk d3 ≤ 1048576 := by
    have h : Rows.uptoBulkAll _ ≤ 1048576 := of_decide_eq_true hk
    simp only [Rows.uptoBulkAll] at h
    omega
  obtain ⟨a0, rfl, rfl, rfl, w0⟩ := open_string Try.underlying9 (hval 0 9 v0 rfl rfl) h0
  have l0 : a0.data.toList.length = a0.size := by simp
  obtain ⟨a1, rfl, rfl, rfl, w1⟩ := open_string Try.underlying9 (hval 1 9 v1 rfl rfl) h1
  have l1 : a1.data.toList.length = a1.size := by simp
  obtain ⟨a2, rfl, rfl, rfl, w2⟩ := open_string Try.underlying9 (hval 2 9 v2 rfl rfl) h2
  have l2 : a2.data.toList.length = a2.size := by simp
  obtain ⟨a3, rfl, rfl, rfl, w3⟩ := open_string Try.underlying9 (hval 3 9 v3 rfl rfl) h3
  have l3 : a3.data.toList.length = a3.size := by simp
  simp only [Rows.uptoBulk] at hbulk
  refine (walkMillSeals a0 a1 a2 a3 W (by omega) (by omega) (by omega) (by omega)).mono fun e W' ⟨he, bel⟩ => ?_
  subst he
  exact ⟨_, rfl, _, _, _, [], _, [], hW', trodAll_mk1 (shut_bool Try.underlying4 _), (trodAll_cons_mk (shut_string Try.underlying9 w0) (trodAll_cons_mk (shut_string Try.underlying9 w1) (trodAll_cons_mk (shut_string Try.underlying9 w2) (trodAll_cons_mk (shut_string Try.underlying9 w3) trodAll_mk0)))), rfl, bel.frame _, fun h => by cases h⟩

set_option maxRecDepth 100000 in
theorem liftedMillSeals (os : Os) (started : os.Started) (H : Type) (enc : TypeId × Value → H) (F : Stop.Interp) :
    ReturnsInHanded {} Try.checked os 7 .any ((Rows.OpenSpec.upto Rows.millSealsSpec).pre6 enc Try.prog Try.f7 Rows.millSealsUptoRow.domain false) (((Rows.OpenSpec.upto Rows.millSealsSpec).at F).post enc Try.prog Try.f7 false true false false) := by
  refine returnsInHanded_of_cond (C := Try.checked) (s := Rows.OpenSpec.upto Rows.millSealsSpec) (k := Rows.uptoSmall) rfl ownMillSeals started (by kernel_rfl) Try.func7
    (OpenSpec.witness (enc := enc) (C := Try.checked) (s := Rows.OpenSpec.upto Rows.millSealsSpec) (k := Rows.uptoSmall) rfl false ⟨#[], #[.string ByteArray.empty, .string ByteArray.empty, .string ByteArray.empty, .string ByteArray.empty], []⟩ 8 (by kernel_rfl) (by kernel_rfl) (by kernel_rfl)
      (x := ([.lit (.string []), .lit (.string []), .lit (.string []), .lit (.string [])], [], [])) (by kernel_rfl) rfl (by kernel_rfl)) ?_
  intro W base args ds gs before hval hW _ hk _
  exact contractMillSeals H enc W base args ds gs before hval hW hk

/-- THE STATEMENT -/
theorem millSeals_upto : Rows.MillSealsUptoSaid :=
  OpenClaim.holds_of_cond 7 Try.f7 rfl rfl rfl rfl rfl rfl rfl ⟨rfl, rfl, rfl, rfl, rfl⟩ rfl rfl rfl rfl rfl (by kernel_rfl) Try.func7 (by kernel_rfl)
    (of_decide_eq_true (by kernel_rfl)) (by unfold Func.isWrapper; first | (rw [if_pos (by decide +kernel)]; kernel_rfl) | (rw [if_neg (by decide +kernel)]; exact ⟨rfl, rfl⟩))
    (fun os started H enc _ F => liftedMillSeals os started H enc F)
#print axioms millSeals_upto
end Go.Proofs.Ytdclilpnpobanac
