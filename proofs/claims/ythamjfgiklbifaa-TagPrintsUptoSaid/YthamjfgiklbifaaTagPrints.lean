/- For every list of items (with what they hold, of bulk at most 1,048,576): Print of the program answers as the document's own does. -/
import Derived.Test.YthamjfgiklbifaaRows
import Derived.Test.YthamjfgiklbifaaRItemsText
import Derived.WalkKit
import Derived.ProofKit
import Derived.OpenShut
import Derived.JoinedCond
import Derived.Below
import Derived.Carry
namespace Go.Proofs.Ythamjfgiklbifaa
open Go.ChangeShapes Go.WideShapes Go.ChangeAt Go.RowKit
set_option linter.unusedVariables false

set_option maxRecDepth 1000000 in
set_option maxHeartbeats 2000000 in
theorem rprint_any (d : Nat) (l : List It) (ao : Option Addr) (cap : Nat) (w : World) (hr : IRow w d ao l) (hw : wt d l ≤ 1048576) (hd : d ≤ 1048576) :
    Calls Try.prog 8 #[.slice ao l.length cap] w fun e w' => e = .returned (.tuple #[.string (printsS d l), .int .i64 (printsE (measD d l))]) ∧ Below w.heap.size w w' := by
  have n1 := formed_any d l ao cap w hr hw hd
  have hps : printsS d l = if printsE (measD d l) = 0 then strOfNums (textD d l) else ⟨#[]⟩ := rfl
  cases hm : measD d l with
  | none =>
    rw [hm] at n1 hps
    have h1 : printsE none = 1 := rfl
    rw [h1] at hps ⊢
    simp only [Int.reduceEq, if_false] at hps
    rw [hps]
    have N1 := hide n1
    clear n1 hps h1 hm hw hr
    go_enter Try.func8, Try.ntmps8
    go_wp2_with fail
    refine (unhide N1).mono ?_
    rintro e w1 ⟨he, hb1⟩
    have he2 : e = .returned (.tuple #[.bool false, .int .i64 0]) := he
    subst he2
    clear he
    go_wp2
    go_ret2
    exact ⟨rfl, hb1⟩
  | some sp =>
    obtain ⟨s, p⟩ := sp
    have hle := meas_le d l s p hm
    have hpm : (p : Int) ≤ 1048576 := by omega
    have n2 := fun (w2 : World) (h : Below w.heap.size w w2) => itemsText_any d l ao cap w2 s p (IRow.below h d hr) hw hm
    rw [hm] at n1 hps
    have h1 : printsE (some (s, p)) = if 8 < p ∨ 65535 < s then 2 else 0 := rfl
    have N1 := hide n1
    by_cases hc : 65535 < s
    · rw [if_pos (.inr hc)] at h1
      rw [h1] at hps ⊢
      simp only [Int.reduceEq, if_false] at hps
      rw [hps]
      have htv : txtV s (textD d l) = .tuple #[.string ⟨#[]⟩, .bool false] := by unfold txtV; rw [if_neg (by omega)]
      rw [htv] at n2
      have N2 := hide n2
      clear n1 n2 hps h1 hm hw hr hle hc htv
      go_enter Try.func8, Try.ntmps8
      go_wp2_with fail
      refine (unhide N1).mono ?_
      rintro e w1 ⟨he, hb1⟩
      have he2 : e = .returned (.tuple #[.bool true, .int .i64 p]) := he
      subst he2
      clear he
      go_wp2_with fail
      refine (unhide N2 _ hb1).mono ?_
      rintro e w2 ⟨rfl, hb2'⟩
      have hb2 := below_more hb1 hb1.size hb2'
      go_wp2
      all_goals
        go_ret2
        exact ⟨rfl, hb2⟩
    · have htv : txtV s (textD d l) = .tuple #[.string (strOfNums (textD d l)), .bool true] := by unfold txtV; rw [if_pos (by omega)]
      rw [htv] at n2
      have N2 := hide n2
      by_cases h8 : 8 < p
      · rw [if_pos (.inl h8)] at h1
        rw [h1] at hps ⊢
        simp only [Int.reduceEq, if_false] at hps
        rw [hps]
        have t1 : decide ((8 : Int) < (p : Int)) = true := decide_eq_true (by omega)
        clear n1 n2 hps h1 hm hw hr hle hc htv
        go_enter Try.func8, Try.ntmps8
        go_wp2_with fail
        refine (unhide N1).mono ?_
        rintro e w1 ⟨he, hb1⟩
        have he2 : e = .returned (.tuple #[.bool true, .int .i64 p]) := he
        subst he2
        clear he
        go_wp2_with fail
        refine (unhide N2 _ hb1).mono ?_
        rintro e w2 ⟨rfl, hb2'⟩
        have hb2 := below_more hb1 hb1.size hb2'
        go_wp2
        all_goals
          go_ret2
          exact ⟨rfl, hb2⟩
      · rw [if_neg (by omega)] at h1
        rw [h1] at hps ⊢
        simp only [if_true] at hps
        rw [hps]
        have t1 : decide ((8 : Int) < (p : Int)) = false := decide_eq_false (by omega)
        clear n1 n2 hps h1 hm hw hr hle hc htv
        go_enter Try.func8, Try.ntmps8
        go_wp2_with fail
        refine (unhide N1).mono ?_
        rintro e w1 ⟨he, hb1⟩
        have he2 : e = .returned (.tuple #[.bool true, .int .i64 p]) := he
        subst he2
        clear he
        go_wp2_with fail
        refine (unhide N2 _ hb1).mono ?_
        rintro e w2 ⟨rfl, hb2'⟩
        have hb2 := below_more hb1 hb1.size hb2'
        go_wp2
        all_goals
          go_ret2
          exact ⟨rfl, hb2⟩

set_option maxHeartbeats 1000000 in
theorem walkTagPrints (d : Nat) (l : List It) (ao : Option Addr) (cap : Nat) (w : World) (hr : IRow w d ao l) (hw : wt d l ≤ 1048576) (hd : d ≤ 1048576) :
    Calls Try.prog 4 #[.slice ao l.length cap] w fun e w' => e = .returned (.bool true) ∧ Below w.heap.size w w' := by
  have n1 := print_any d l ao cap w hr hw hd
  have n2 := fun (w2 : World) (h : Below w.heap.size w w2) => rprint_any d l ao cap w2 (IRow.below h d hr) hw hd
  generalize printsS d l = ft at *
  generalize printsE (measD d l) = fb at *
  have N1 := hide n1; have N2 := hide n2
  clear n1 n2 hr hw hd
  go_enter Try.func4, Try.ntmps4
  go_wp2_with fail
  refine (unhide N1).mono ?_
  rintro e w1 ⟨rfl, hb1⟩
  go_wp2_with fail
  refine (unhide N2 _ hb1).mono ?_
  rintro e w2 ⟨rfl, hb2'⟩
  have hb2 := below_more hb1 hb1.size hb2'
  go_wp2
  all_goals
    go_ret
    exact ⟨by first | rfl | simp, hb2⟩

theorem ownTagPrints : ownKnob Try.prog.godebug = none := by kernel_rfl
theorem laidOutPrints : laidOutB Try.prog = true := by kernel_rfl

theorem contractTagPrints (H : Type) (enc : TypeId × Value → H) (W : World) (base : Nat) (args : Array Value) (ds gs : List (DataW H)) (before : List MemPlace)
    (hval0 : ∀ (j : Nat) t v, Try.f4.params[j]? = some t → args[j]? = some v → Value.okWide Try.prog W .any base t v)
    (hW : DataW.Whole enc Try.prog Try.f4.params.toList Rows.tagPrintsSpec.vars false W args.toList ds gs before) (hk : Rows.uptoSmall H (ds ++ gs) = true) :
    Calls Try.prog 4 args W fun e W' => ∃ v, e = .returned v ∧ Rows.tagPrintsSpec.post enc Try.prog Try.f4 false true false false W args v W' := by
  have hval : ∀ (j : Nat) t v, Try.f4.params[j]? = some t → args[j]? = some v → Value.okWide Try.prog W .any base t v := hval0
  have hW' := hW
  obtain ⟨p, q, hA0, hV, rfl, hfz, hnd⟩ := hW
  have hA : DataW.TrodAll enc Try.prog W 0 (fun _ => true) true Try.f4.params.toList args.toList ds p := hA0
  rw [Try.params4] at hA hval
  obtain ⟨v0, vs0, d0, ds0, p0, q0, hargs0, rfl, rfl, h0, r0⟩ := trodAll_cons hA
  obtain ⟨rfl, rfl, rfl⟩ := trodAll_nil r0
  obtain rfl : args = #[v0] := by cases args; simp_all
  obtain ⟨rfl, rfl⟩ := trodVars_none hV
  obtain ⟨a0, len, cap, rfl⟩ := okWide_slice Try.underlying23 (hval 0 23 v0 rfl rfl)
  clear hA0 hval0
  simp only [List.append_nil] at hW' hk
  have hlt : ∀ x ∈ p0, x.block < W.heap.size := fun x hx => by simpa using hW'.lt x (by simpa using hx)
  have hargs : ∀ (W' : World), Below W.heap.size W W' → DataW.Trod enc Try.prog W' 0 (fun b => decide (b < W.heap.size)) true 23 (.slice a0 len cap) d0 p0 :=
    fun W' hn => Below.trod laidOutPrints (by kernel_rfl) (of_decide_eq_true (by kernel_rfl)) h0 hn hlt
  have hbulk : Rows.uptoBulk d0 ≤ 1048576 := by
    have h : Rows.uptoBulkAll _ ≤ 1048576 := of_decide_eq_true hk
    simp only [Rows.uptoBulkAll] at h
    omega
  obtain ⟨fuel, hf⟩ := h0
  obtain ⟨ao, cap', l, hcs, _, hr, hw⟩ := open_items 1048576 fuel hf hbulk
  simp [Value.cells] at hcs
  obtain ⟨rfl, rfl, rfl⟩ := hcs
  refine (walkTagPrints 1048576 l a0 cap W hr (by have hw2 : wt 1048576 l + 1 ≤ Rows.uptoBulk d0 := hw; omega) (Nat.le_refl _)).mono fun e W' ⟨he, bel⟩ => ?_
  subst he
  exact ⟨_, rfl, _, _, _, [], _, [], hW', trodAll_mk1 (shut_bool Try.underlying4 _), trodAll_mk1 (hargs _ bel), rfl, bel.frame _, fun h => by cases h⟩

set_option maxRecDepth 100000 in
theorem liftedTagPrints (os : Os) (started : os.Started) (H : Type) (enc : TypeId × Value → H) (F : Stop.Interp) :
    ReturnsInHanded {} Try.checked os 4 .any ((Rows.OpenSpec.upto Rows.tagPrintsSpec).pre6 enc Try.prog Try.f4 Rows.tagPrintsUptoRow.domain false) (((Rows.OpenSpec.upto Rows.tagPrintsSpec).at F).post enc Try.prog Try.f4 false true false false) := by
  refine returnsInHanded_of_cond (C := Try.checked) (s := Rows.OpenSpec.upto Rows.tagPrintsSpec) (k := Rows.uptoSmall) rfl ownTagPrints started (by kernel_rfl) Try.func4
    (OpenSpec.witness (enc := enc) (C := Try.checked) (s := Rows.OpenSpec.upto Rows.tagPrintsSpec) (k := Rows.uptoSmall) rfl false ⟨#[], #[.slice none 0 0], []⟩ 8 (by kernel_rfl) (by kernel_rfl) (by kernel_rfl)
      (x := ([.nil], [], [])) (by kernel_rfl) rfl (by kernel_rfl)) ?_
  intro W base args ds gs before hval hW _ hk _
  exact contractTagPrints H enc W base args ds gs before hval hW hk

/-- THE STATEMENT -/
theorem tagPrints_upto : Rows.TagPrintsUptoSaid :=
  OpenClaim.holds_of_cond 4 Try.f4 rfl rfl rfl rfl rfl rfl rfl ⟨rfl, rfl, rfl, rfl, rfl⟩ rfl rfl rfl rfl rfl (by kernel_rfl) Try.func4 (by kernel_rfl)
    (of_decide_eq_true (by kernel_rfl)) (by unfold Func.isWrapper; first | (rw [if_pos (by decide +kernel)]; kernel_rfl) | (rw [if_neg (by decide +kernel)]; exact ⟨rfl, rfl⟩))
    (fun os started H enc _ F => liftedTagPrints os started H enc F)
#print axioms tagPrints_upto
end Go.Proofs.Ythamjfgiklbifaa
