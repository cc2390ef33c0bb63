/- For every text and every list of texts (of bulk at most 1,048,576 together): Fold and Row of the program answer as the document's own do. -/
import Derived.Test.YtdclilpnpobanacRows
import Derived.Test.YtdclilpnpobanacMillF3
import Derived.Test.YtdclilpnpobanacMillW2
import Derived.Test.YtdclilpnpobanacMillRef2
import Derived.WalkKit
import Derived.ProofKit
import Derived.OpenShut
import Derived.ShutString
import Derived.JoinedCond
import Derived.Below
import Derived.Carry
namespace Go.Proofs.Ytdclilpnpobanac
open Go.ChangeShapes Go.WideShapes Go.ChangeAt Go.RowKit
open Go.ChangeMaps (open_string shut_string)
set_option linter.unusedVariables false

set_option maxHeartbeats 2000000 in
set_option maxRecDepth 100000 in
theorem walkMillFolds (s : ByteArray) (fs : List ByteArray) (ao : Option Addr) (c : Nat) (w : World) (hs : s.size ≤ 1048576) (hf : TRow w ao fs) (hb : bulkT fs ≤ 1048576) :
    Calls Try.prog 5 #[.string s, .slice ao fs.length c] w fun e w' => e = .returned (.bool true) ∧ Below w.heap.size w w' := by
  have l1 := bulkT_length fs
  have l2 := rowN_bulk fs
  have N1 := hide (fun w => fold_any s (by omega) w)
  have N2 := hide (fun w => rfold_any s (by omega) w)
  have N3 := hide (fun w' (h : Below w.heap.size w w') => row_any fs ao c w' (hf.below h) (by omega))
  have N4 := hide (fun w' (h : Below w.heap.size w w') => rrow_any fs ao c w' (hf.below h) (by omega) (by omega))
  clear l1 l2 hf hb hs
  generalize foldS s = x at *
  generalize rowS fs = y at *
  go_enter Try.func5, Try.ntmps5
  go_wp2_with fail
  refine (unhide N1 _).mono ?_
  rintro e x1 ⟨rfl, b1⟩
  go_wp2_with fail
  refine (unhide N2 _).mono ?_
  rintro e x2 ⟨rfl, b2⟩
  have h2 := b1.trans (b2.mono b1.size)
  go_wp2_with fail
  refine (unhide N3 _ h2).mono ?_
  rintro e x3 ⟨rfl, b3⟩
  have h3 := h2.trans (b3.mono h2.size)
  go_wp2_with fail
  refine (unhide N4 _ h3).mono ?_
  rintro e x4 ⟨rfl, b4⟩
  have h4 := h3.trans (b4.mono h3.size)
  clear N1 N2 N3 N4 b1 b2 b3 b4 h2 h3
  go_wp2
  go_ret
  exact ⟨ret_bool (by simp), h4⟩

theorem ownMillFolds : ownKnob Try.prog.godebug = none := by kernel_rfl
theorem laidOutMillFolds : laidOutB Try.prog = true := by kernel_rfl
set_option maxRecDepth 100000 in
theorem contractMillFolds (H : Type) (enc : TypeId × Value → H) (W : World) (base : Nat) (args : Array Value) (ds gs : List (DataW H)) (before : List MemPlace)
    (hval0 : ∀ (j : Nat) t v, Try.f5.params[j]? = some t → args[j]? = some v → Value.okWide Try.prog W .any base t v)
    (hW : DataW.Whole enc Try.prog Try.f5.params.toList Rows.millFoldsSpec.vars false W args.toList ds gs before) (hk : Rows.uptoSmall H (ds ++ gs) = true) :
    Calls Try.prog 5 args W fun e W' => ∃ v, e = .returned v ∧ Rows.millFoldsSpec.post enc Try.prog Try.f5 false true false false W args v W' := by
  have hval : ∀ (j : Nat) t v, Try.f5.params[j]? = some t → args[j]? = some v → Value.okWide Try.prog W .any base t v := hval0
  have hW' := hW
  obtain ⟨p, q, hA0, hV, rfl, hfz, hnd⟩ := hW
  have hA : DataW.TrodAll enc Try.prog W 0 (fun _ => true) true Try.f5.params.toList args.toList ds p := hA0
  rw [Try.params5] at hA hval
  obtain ⟨v0, vs0, d0, ds0, p0, q0, hargs, rfl, rfl, h0, r0⟩ := trodAll_cons hA
  obtain ⟨v1, vs1, d1, ds1, p1, q1, rfl, rfl, rfl, h1, r1⟩ := trodAll_cons r0
  obtain ⟨rfl, rfl, rfl⟩ := trodAll_nil r1
  obtain rfl : args = #[v0, v1] := by cases args; simp_all
  obtain ⟨rfl, rfl⟩ := trodVars_none hV
  clear hA0 hval0
  simp only [List.append_nil] at hW' hk
  have hbulk : Rows.uptoBulk d0 + Rows.uptoBulk d1 ≤ 1048576 := by
    have h : Rows.uptoBulkAll _ ≤ 1048576 := of_decide_eq_true hk
    simp only [Rows.uptoBulkAll] at h
    omega
  have hlt1 : ∀ x ∈ p1, x.block < W.heap.size := fun x hx => by simpa using hW'.lt x (by simp [hx])
  obtain ⟨a0, rfl, rfl, rfl, w0⟩ := open_string Try.underlying9 (hval 0 9 v0 rfl rfl) h0
  have l0 : a0.data.toList.length = a0.size := by simp
  obtain ⟨ao1, len1, cap1, rfl⟩ := okWide_slice Try.underlying28 (hval 1 28 v1 rfl rfl)
  have hargs1 : ∀ (W' : World), Below W.heap.size W W' → DataW.Trod enc Try.prog W' 0 (fun b => decide (b < W.heap.size)) true 28 (.slice ao1 len1 cap1) d1 p1 :=
    fun W' hn => Below.trod laidOutMillFolds (by kernel_rfl) (of_decide_eq_true (by kernel_rfl)) h1 hn hlt1
  obtain ⟨fs1, rfl, hr1, hb1, _⟩ := open_texts h1
  simp only [Rows.uptoBulk] at hbulk
  refine (walkMillFolds a0 fs1 ao1 cap1 W (by omega) hr1 (by omega)).mono fun e W' ⟨he, bel⟩ => ?_
  subst he
  exact ⟨_, rfl, _, _, _, [], _, [], hW', trodAll_mk1 (shut_bool Try.underlying4 _), (trodAll_cons_mk (shut_string Try.underlying9 w0) (trodAll_cons_mk (hargs1 _ bel) trodAll_mk0)), rfl, bel.frame _, fun h => by cases h⟩

set_option maxRecDepth 100000 in
theorem liftedMillFolds (os : Os) (started : os.Started) (H : Type) (enc : TypeId × Value → H) (F : Stop.Interp) :
    ReturnsInHanded {} Try.checked os 5 .any ((Rows.OpenSpec.upto Rows.millFoldsSpec).pre6 enc Try.prog Try.f5 Rows.millFoldsUptoRow.domain false) (((Rows.OpenSpec.upto Rows.millFoldsSpec).at F).post enc Try.prog Try.f5 false true false false) := by
  refine returnsInHanded_of_cond (C := Try.checked) (s := Rows.OpenSpec.upto Rows.millFoldsSpec) (k := Rows.uptoSmall) rfl ownMillFolds started (by kernel_rfl) Try.func5
    (OpenSpec.witness (enc := enc) (C := Try.checked) (s := Rows.OpenSpec.upto Rows.millFoldsSpec) (k := Rows.uptoSmall) rfl false ⟨#[], #[.string ByteArray.empty, .slice none 0 0], []⟩ 8 (by kernel_rfl) (by kernel_rfl) (by kernel_rfl)
      (x := ([.lit (.string []), .nil], [], [])) (by kernel_rfl) rfl (by kernel_rfl)) ?_
  intro W base args ds gs before hval hW _ hk _
  exact contractMillFolds H enc W base args ds gs before hval hW hk

/-- THE STATEMENT -/
theorem millFolds_upto : Rows.MillFoldsUptoSaid :=
  OpenClaim.holds_of_cond 5 Try.f5 rfl rfl rfl rfl rfl rfl rfl ⟨rfl, rfl, rfl, rfl, rfl⟩ rfl rfl rfl rfl rfl (by kernel_rfl) Try.func5 (by kernel_rfl)
    (of_decide_eq_true (by kernel_rfl)) (by unfold Func.isWrapper; first | (rw [if_pos (by decide +kernel)]; kernel_rfl) | (rw [if_neg (by decide +kernel)]; exact ⟨rfl, rfl⟩))
    (fun os started H enc _ F => liftedMillFolds os started H enc F)
#print axioms millFolds_upto
end Go.Proofs.Ytdclilpnpobanac
