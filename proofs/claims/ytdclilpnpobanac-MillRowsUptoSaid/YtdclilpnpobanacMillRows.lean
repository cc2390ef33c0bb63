/- For every two lists of texts (of bulk at most 1,048,576 together): their rows are alike just where the lists are. -/
import Derived.Test.YtdclilpnpobanacRows
import Derived.Test.YtdclilpnpobanacMillW2
import Derived.Test.YtdclilpnpobanacSameT
import Derived.WalkKit
import Derived.ProofKit
import Derived.OpenShut
import Derived.JoinedCond
import Derived.Below
import Derived.Carry
namespace Go.Proofs.Ytdclilpnpobanac
open Go.ChangeShapes Go.WideShapes Go.ChangeAt Go.RowKit
set_option linter.unusedVariables false

theorem ownMillRows : ownKnob Try.prog.godebug = none := by kernel_rfl
theorem laidOutMillRows : laidOutB Try.prog = true := by kernel_rfl
set_option maxHeartbeats 2000000 in
set_option maxRecDepth 100000 in
theorem walkMillRows (fs gs : List ByteArray) (ao bo : Option Addr) (c d : Nat) (w : World) (hf : TRow w ao fs) (hg : TRow w bo gs) (hb : bulkT fs ≤ 1048576) (hc : bulkT gs ≤ 1048576) :
    Calls Try.prog 6 #[.slice ao fs.length c, .slice bo gs.length d] w fun e w' => e = .returned (.bool true) ∧ Below w.heap.size w w' := by
  have l1 := bulkT_length fs
  have l2 := bulkT_length gs
  have N1 := hide (fun w' (h : Below w.heap.size w w') => row_any fs ao c w' (hf.below h) (by omega))
  have N2 := hide (fun w' (h : Below w.heap.size w w') => row_any gs bo d w' (hg.below h) (by omega))
  have N3 := hide (fun w' (h : Below w.heap.size w w') => sameS_any fs gs ao bo c d w' (hf.below h) (hg.below h) (by omega) (by omega))
  have hi := rowS_inj fs gs (fun p hp => by have := bulkT_mem hp; omega) (fun p hp => by have := bulkT_mem hp; omega)
  have HI := hide hi
  clear hi l1 l2 hf hg hb hc
  go_enter Try.func6, Try.ntmps6
  go_wp2_with fail
  refine (unhide N1 _ (Below.refl _ _)).mono ?_
  rintro e x1 ⟨rfl, b1⟩
  go_wp2_with fail
  refine (unhide N2 _ b1).mono ?_
  rintro e x2 ⟨rfl, b2⟩
  have h2 := b1.trans (b2.mono b1.size)
  go_wp2_with fail
  refine (unhide N3 _ h2).mono ?_
  rintro e x3 ⟨rfl, b3⟩
  have h3 := h2.trans (b3.mono h2.size)
  clear N1 N2 N3 b1 b2 b3 h2
  by_cases h : fs = gs
  · subst h
    rw [decide_eq_true rfl]
    go_wp2
    go_ret
    exact ⟨ret_bool (by simp), h3⟩
  · have hne := toList_neT (fun e => h ((unhide HI).1 e))
    rw [decide_eq_false h]
    generalize rowS fs = x at *
    generalize rowS gs = y at *
    clear h HI
    go_wp2
    go_ret
    exact ⟨ret_bool (by simp), h3⟩

theorem contractMillRows (H : Type) (enc : TypeId × Value → H) (W : World) (base : Nat) (args : Array Value) (ds gs : List (DataW H)) (before : List MemPlace)
    (hval0 : ∀ (j : Nat) t v, Try.f6.params[j]? = some t → args[j]? = some v → Value.okWide Try.prog W .any base t v)
    (hW : DataW.Whole enc Try.prog Try.f6.params.toList Rows.millRowsSpec.vars false W args.toList ds gs before) (hk : Rows.uptoSmall H (ds ++ gs) = true) :
    Calls Try.prog 6 args W fun e W' => ∃ v, e = .returned v ∧ Rows.millRowsSpec.post enc Try.prog Try.f6 false true false false W args v W' := by
  have hval : ∀ (j : Nat) t v, Try.f6.params[j]? = some t → args[j]? = some v → Value.okWide Try.prog W .any base t v := hval0
  have hW' := hW
  obtain ⟨p, q, hA0, hV, rfl, hfz, hnd⟩ := hW
  have hA : DataW.TrodAll enc Try.prog W 0 (fun _ => true) true Try.f6.params.toList args.toList ds p := hA0
  rw [Try.params6] at hA hval
  obtain ⟨v0, v1, d0, d1, p0, p1, rfl, rfl, rfl, h0, h1⟩ := trodAll_two hA
  obtain ⟨rfl, rfl⟩ := trodVars_none hV
  obtain ⟨a0, len, cap, rfl⟩ := okWide_slice Try.underlying28 (hval 0 28 v0 rfl rfl)
  obtain ⟨a1, len1, cap1, rfl⟩ := okWide_slice Try.underlying28 (hval 1 28 v1 rfl rfl)
  clear hA0 hval0
  simp only [List.append_nil] at hW' hk
  have hlt : ∀ x ∈ p0, x.block < W.heap.size := fun x hx => by simpa using hW'.lt x (by simp [hx])
  have hlt1 : ∀ x ∈ p1, x.block < W.heap.size := fun x hx => by simpa using hW'.lt x (by simp [hx])
  have hargs : ∀ (W' : World), Below W.heap.size W W' → DataW.Trod enc Try.prog W' 0 (fun b => decide (b < W.heap.size)) true 28 (.slice a0 len cap) d0 p0 :=
    fun W' hn => Below.trod laidOutMillRows (by kernel_rfl) (of_decide_eq_true (by kernel_rfl)) h0 hn hlt
  have hargs1 : ∀ (W' : World), Below W.heap.size W W' → DataW.Trod enc Try.prog W' 0 (fun b => decide (b < W.heap.size)) true 28 (.slice a1 len1 cap1) d1 p1 :=
    fun W' hn => Below.trod laidOutMillRows (by kernel_rfl) (of_decide_eq_true (by kernel_rfl)) h1 hn hlt1
  have hbulk : Rows.uptoBulk d0 + Rows.uptoBulk d1 ≤ 1048576 := by
    have h : Rows.uptoBulkAll _ ≤ 1048576 := of_decide_eq_true hk
    simp only [Rows.uptoBulkAll] at h
    omega
  obtain ⟨fs, rfl, hr, hb, _⟩ := open_texts h0
  obtain ⟨es, rfl, hr1, hb1, _⟩ := open_texts h1
  refine (walkMillRows fs es a0 a1 cap cap1 W hr hr1 (by omega) (by omega)).mono fun e W' ⟨he, bel⟩ => ?_
  subst he
  exact ⟨_, rfl, _, _, _, [], _, [], hW', trodAll_mk1 (shut_bool Try.underlying4 _), trodAll_mk2 (hargs _ bel) (hargs1 _ bel), rfl, bel.frame _, fun h => by cases h⟩

set_option maxRecDepth 100000 in
theorem liftedMillRows (os : Os) (started : os.Started) (H : Type) (enc : TypeId × Value → H) (F : Stop.Interp) :
    ReturnsInHanded {} Try.checked os 6 .any ((Rows.OpenSpec.upto Rows.millRowsSpec).pre6 enc Try.prog Try.f6 Rows.millRowsUptoRow.domain false) (((Rows.OpenSpec.upto Rows.millRowsSpec).at F).post enc Try.prog Try.f6 false true false false) := by
  refine returnsInHanded_of_cond (C := Try.checked) (s := Rows.OpenSpec.upto Rows.millRowsSpec) (k := Rows.uptoSmall) rfl ownMillRows started (by kernel_rfl) Try.func6
    (OpenSpec.witness (enc := enc) (C := Try.checked) (s := Rows.OpenSpec.upto Rows.millRowsSpec) (k := Rows.uptoSmall) rfl false ⟨#[], #[.slice none 0 0, .slice none 0 0], []⟩ 8 (by kernel_rfl) (by kernel_rfl) (by kernel_rfl)
      (x := ([.nil, .nil], [], [])) (by kernel_rfl) rfl (by kernel_rfl)) ?_
  intro W base args ds gs before hval hW _ hk _
  exact contractMillRows H enc W base args ds gs before hval hW hk

/-- THE STATEMENT -/
theorem millRows_upto : Rows.MillRowsUptoSaid :=
  OpenClaim.holds_of_cond 6 Try.f6 rfl rfl rfl rfl rfl rfl rfl ⟨rfl, rfl, rfl, rfl, rfl⟩ rfl rfl rfl rfl rfl (by kernel_rfl) Try.func6 (by kernel_rfl)
    (of_decide_eq_true (by kernel_rfl)) (by unfold Func.isWrapper; first | (rw [if_pos (by decide +kernel)]; kernel_rfl) | (rw [if_neg (by decide +kernel)]; exact ⟨rfl, rfl⟩))
    (fun os started H enc _ F => liftedMillRows os started H enc F)
#print axioms millRows_upto
end Go.Proofs.Ytdclilpnpobanac
