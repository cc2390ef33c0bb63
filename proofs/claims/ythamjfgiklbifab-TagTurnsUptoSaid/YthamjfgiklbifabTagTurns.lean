/- For every list of items (with the text, of bulk at most 1,048,576) and every text: what Print wrote Parse reads as it was, and what Parse can read Print writes in that one way. -/
import Derived.Test.YthamjfgiklbifabRows
import Derived.Test.YthamjfgiklbifabTurns0
import Derived.WalkKit
import Derived.ProofKit
import Derived.OpenShut
import Derived.ShutString
import Derived.JoinedCond
import Derived.Below
import Derived.Carry
namespace Go.Proofs.Ythamjfgiklbifab
open Go.ChangeShapes Go.WideShapes Go.ChangeAt Go.RowKit
open Go.ChangeMaps (open_string shut_string)
set_option linter.unusedVariables false

theorem turn1 {W : World} {D : Nat} {ao : Option Addr} {l : List It} (hr : IRow W D ao l) (h : printsE (measD D l) = 0) : parsesL (printsS D l) = l ∧ parsesE (printsS D l) = 0 ∧ IRow W 8 ao l ∧ (printsS D l).size ≤ maxLen := by
  have hs : printsS D l = strOfNums (textD D l) := by unfold printsS; rw [if_pos h]
  cases hm : measD D l with
  | none => rw [hm] at h; simp [printsE] at h
  | some sp =>
    obtain ⟨s, p⟩ := sp
    rw [hm] at h
    have hc : ¬ (8 < p ∨ 65535 < s) := fun hc => by
      unfold printsE at h
      simp only at h
      rw [if_pos hc] at h
      cases h
    have hp := print_parse 8 D ao l s p hr hm (by omega) (by omega)
    have hz : (strOfNums (textD D l)).size = s := by rw [strOfNums_size]; exact meas_text D l s p hm
    rw [hs]
    refine ⟨?_, ?_, row_depth 8 D hr hm (by omega), by rw [hz]; unfold maxLen; omega⟩
    · unfold parsesL; rw [if_neg (by omega), hp]; rfl
    · unfold parsesE; rw [if_neg (by omega), hp]; rfl
theorem turn2 {s : ByteArray} (h : parsesE s = 0) : printsE (measD 8 (parsesL s)) = 0 ∧ printsS 8 (parsesL s) = s := by
  unfold parsesE at h
  split at h
  · cases h
  · rename_i hb
    cases hp : parseD 8 s with
    | none => rw [hp] at h; simp at h
    | some l =>
      have hl : parsesL s = l := by unfold parsesL; rw [if_neg hb, hp]; rfl
      obtain ⟨p, h1, h2, h3⟩ := parse_print 8 s l hp
      rw [hl]
      have he : printsE (measD 8 l) = 0 := by
        rw [h1]
        unfold printsE
        simp only
        rw [if_neg (by omega)]
      refine ⟨he, ?_⟩
      unfold printsS
      rw [if_pos he, h3, strOf_strL]
theorem turn3 {s : ByteArray} (h : parsesE s ≠ 0) : parsesL s = [] ∧ s.size ≠ 0 := by
  unfold parsesE at h
  by_cases hb : 65535 < s.size
  · exact ⟨by unfold parsesL; rw [if_pos hb], by omega⟩
  · rw [if_neg hb] at h
    cases hp : parseD 8 s with
    | none =>
      refine ⟨by unfold parsesL; rw [if_neg hb, hp]; rfl, fun hz => ?_⟩
      rw [show parseD 8 s = some [] from listP_empty _ _ hz] at hp
      cases hp
    | some l => rw [hp] at h; simp at h

set_option maxRecDepth 1000000 in
set_option maxHeartbeats 4000000 in
theorem walkTagTurns (D : Nat) (l : List It) (ao : Option Addr) (cap : Nat) (s : ByteArray) (w : World) (hr : IRow w D ao l) (hw : wt D l ≤ 1048576) (hd : D ≤ 1048576) (hs : s.size ≤ maxLen) :
    Calls Try.prog 4 #[.slice ao l.length cap, .string s] w fun e w' => e = .returned (.bool true) ∧ Below w.heap.size w w' := by
  have n1 := print_any D l ao cap w hr hw hd
  have n3 := fun w => parse_any s w hs
  have hw3 := parses_wt s
  have ht2 := @turn2 s
  have ht3 := @turn3 s
  have n4 := fun (w2 : World) (mo : Option Addr) (mc : Nat) (h : IRow w2 8 mo (parsesL s)) => print_any 8 (parsesL s) mo mc w2 h (by omega) (by omega)
  by_cases h0 : parsesE s = 0
  · obtain ⟨g1, g2⟩ := ht2 h0
    rw [h0] at n3
    rw [g1, g2] at n4
    generalize parsesL s = m at *
    have N3 := hide n3; have N4 := hide n4
    clear n3 n4 ht2 ht3 h0 g1 g2 hw3
    by_cases he : printsE (measD D l) = 0
    · obtain ⟨q1, q2, q3, q4⟩ := turn1 hr he
      have n2 := fun w => parse_any (printsS D l) w q4
      rw [q1, q2] at n2
      rw [he] at n1
      have hwl := parses_wt (printsS D l)
      rw [q1] at hwl
      have N5 := hide (fun (w2 : World) (mo : Option Addr) (mc : Nat) (h : IRow w2 8 mo l) (hb : Below w.heap.size w w2) => sameI_any 8 l mo ao mc cap w2 h (IRow.below hb 8 q3) (by omega))
      generalize printsS D l = T at *
      have N1 := hide n1; have N2 := hide n2
      clear n1 n2 hr hw hd hs q1 q2 q3 q4 hwl he
      go_enter Try.func4, Try.ntmps4
      go_wp2_with fail
      refine (unhide N1).mono ?_
      rintro e w1 ⟨rfl, hb1⟩
      go_wp2_with fail
      refine (unhide N2 _).mono ?_
      rintro e w2 ⟨mo, mc, rfl, _, hm2, hb2'⟩
      have hb2 := below_more hb1 hb1.size hb2'
      have hm2r := IRowA.row 8 hm2
      clear hm2 hb2' hb1
      go_wp2_with fail
      refine (unhide N5 _ _ _ hm2r hb2).mono ?_
      rintro e w3 ⟨rfl, q, hw3⟩
      subst hw3
      have hbB := below_draws hb2 q
      clear hm2r hb2 N5
      go_wp2_with fail
      refine (unhide N3 _).mono ?_
      rintro e w5 ⟨po, pc, rfl, _, hp5, hb5'⟩
      have hb5 := below_more hbB hbB.size hb5'
      have hp5r := IRowA.row 8 hp5
      clear hp5 hb5' hbB
      go_wp2_with fail
      refine (unhide N4 _ _ _ hp5r).mono ?_
      rintro e w6 ⟨rfl, hb6'⟩
      have hb6 := below_more hb5 hb5.size hb6'
      go_wp2
      all_goals
        go_ret
        exact ⟨by first | rfl | simp, hb6⟩
    · have t0 : (printsE (measD D l) == 0) = false := by simpa using he
      generalize printsE (measD D l) = er at *
      generalize printsS D l = T at *
      have N1 := hide n1
      clear n1 hr hw hd hs he
      go_enter Try.func4, Try.ntmps4
      go_wp2_with fail
      refine (unhide N1).mono ?_
      rintro e w1 ⟨rfl, hbB⟩
      go_wp2_with fail
      refine (unhide N3 _).mono ?_
      rintro e w5 ⟨po, pc, rfl, _, hp5, hb5'⟩
      have hb5 := below_more hbB hbB.size hb5'
      have hp5r := IRowA.row 8 hp5
      clear hp5 hb5' hbB
      go_wp2_with fail
      refine (unhide N4 _ _ _ hp5r).mono ?_
      rintro e w6 ⟨rfl, hb6'⟩
      have hb6 := below_more hb5 hb5.size hb6'
      go_wp2
      all_goals
        go_ret
        exact ⟨by first | rfl | simp, hb6⟩
  · obtain ⟨g1, g2⟩ := ht3 h0
    have hem := full_of g2
    have t9 : (parsesE s != 0) = true := by simpa using h0
    have n3' : ∀ w, Calls Try.prog 9 #[.string s] w fun e w' => ∃ ao cap, e = .returned (.tuple #[.slice ao 0 cap, .int .i64 (parsesE s)]) ∧ Below w.heap.size w w' := fun w =>
      (n3 w).mono fun e w' ⟨ao, cap, h1, _, _, h4⟩ => ⟨ao, cap, by rw [g1] at h1; exact h1, h4⟩
    generalize parsesE s = es at *
    have N3 := hide n3'
    clear n3 n3' n4 ht2 ht3 h0 g1 g2 hw3
    by_cases he : printsE (measD D l) = 0
    · obtain ⟨q1, q2, q3, q4⟩ := turn1 hr he
      have n2 := fun w => parse_any (printsS D l) w q4
      rw [q1, q2] at n2
      rw [he] at n1
      have hwl := parses_wt (printsS D l)
      rw [q1] at hwl
      have N5 := hide (fun (w2 : World) (mo : Option Addr) (mc : Nat) (h : IRow w2 8 mo l) (hb : Below w.heap.size w w2) => sameI_any 8 l mo ao mc cap w2 h (IRow.below hb 8 q3) (by omega))
      generalize printsS D l = T at *
      have N1 := hide n1; have N2 := hide n2
      clear n1 n2 hr hw hd hs q1 q2 q3 q4 hwl he
      go_enter Try.func4, Try.ntmps4
      go_wp2_with fail
      refine (unhide N1).mono ?_
      rintro e w1 ⟨rfl, hb1⟩
      go_wp2_with fail
      refine (unhide N2 _).mono ?_
      rintro e w2 ⟨mo, mc, rfl, _, hm2, hb2'⟩
      have hb2 := below_more hb1 hb1.size hb2'
      have hm2r := IRowA.row 8 hm2
      clear hm2 hb2' hb1
      go_wp2_with fail
      refine (unhide N5 _ _ _ hm2r hb2).mono ?_
      rintro e w3 ⟨rfl, q, hw3⟩
      subst hw3
      have hbB := below_draws hb2 q
      clear hm2r hb2 N5
      go_wp2_with fail
      refine (unhide N3 _).mono ?_
      rintro e w5 ⟨po, pc, rfl, hb5'⟩
      have hb5 := below_more hbB hbB.size hb5'
      go_wp2
      all_goals
        go_ret
        exact ⟨by first | rfl | simp, hb5⟩
    · have t0 : (printsE (measD D l) == 0) = false := by simpa using he
      generalize printsE (measD D l) = er at *
      generalize printsS D l = T at *
      have N1 := hide n1
      clear n1 hr hw hd hs he
      go_enter Try.func4, Try.ntmps4
      go_wp2_with fail
      refine (unhide N1).mono ?_
      rintro e w1 ⟨rfl, hbB⟩
      go_wp2_with fail
      refine (unhide N3 _).mono ?_
      rintro e w5 ⟨po, pc, rfl, hb5'⟩
      have hb5 := below_more hbB hbB.size hb5'
      go_wp2
      all_goals
        go_ret
        exact ⟨by first | rfl | simp, hb5⟩

theorem ownTagTurns : ownKnob Try.prog.godebug = none := by kernel_rfl
theorem laidOutTurns : laidOutB Try.prog = true := by kernel_rfl

theorem contractTagTurns (H : Type) (enc : TypeId × Value → H) (W : World) (base : Nat) (args : Array Value) (ds gs : List (DataW H)) (before : List MemPlace)
    (hval0 : ∀ (j : Nat) t v, Try.f4.params[j]? = some t → args[j]? = some v → Value.okWide Try.prog W .any base t v)
    (hW : DataW.Whole enc Try.prog Try.f4.params.toList Rows.tagTurnsSpec.vars false W args.toList ds gs before) (hk : Rows.uptoSmall H (ds ++ gs) = true) :
    Calls Try.prog 4 args W fun e W' => ∃ v, e = .returned v ∧ Rows.tagTurnsSpec.post enc Try.prog Try.f4 false true false false W args v W' := by
  have hval : ∀ (j : Nat) t v, Try.f4.params[j]? = some t → args[j]? = some v → Value.okWide Try.prog W .any base t v := hval0
  have hW' := hW
  obtain ⟨p, q, hA0, hV, rfl, hfz, hnd⟩ := hW
  have hA : DataW.TrodAll enc Try.prog W 0 (fun _ => true) true Try.f4.params.toList args.toList ds p := hA0
  rw [Try.params4] at hA hval
  obtain ⟨v0, v1, d0, d1, p0, p1, rfl, rfl, rfl, h0, h1⟩ := trodAll_two hA
  obtain ⟨rfl, rfl⟩ := trodVars_none hV
  obtain ⟨a1, rfl, rfl, rfl, w1⟩ := open_string Try.underlying9 (hval 1 9 v1 rfl rfl) h1
  obtain ⟨a0, len, cap, rfl⟩ := okWide_slice Try.underlying22 (hval 0 22 v0 rfl rfl)
  clear hA0 hval0
  simp only [List.append_nil] at hW' hk
  have hlt : ∀ x ∈ p0, x.block < W.heap.size := fun x hx => by simpa using hW'.lt x (by simpa using hx)
  have hargs : ∀ (W' : World), Below W.heap.size W W' → DataW.Trod enc Try.prog W' 0 (fun b => decide (b < W.heap.size)) true 22 (.slice a0 len cap) d0 p0 :=
    fun W' hn => Below.trod laidOutTurns (by kernel_rfl) (of_decide_eq_true (by kernel_rfl)) h0 hn hlt
  have hbulk : Rows.uptoBulk d0 ≤ 1048576 := by
    have h : Rows.uptoBulkAll _ ≤ 1048576 := of_decide_eq_true hk
    simp only [Rows.uptoBulkAll] at h
    omega
  obtain ⟨fuel, hf⟩ := h0
  obtain ⟨ao, cap', l, hcs, _, hr, hw⟩ := open_items 1048576 fuel hf hbulk
  simp [Value.cells] at hcs
  obtain ⟨rfl, rfl, rfl⟩ := hcs
  refine (walkTagTurns 1048576 l a0 cap a1 W hr (by have hw2 : wt 1048576 l + 1 ≤ Rows.uptoBulk d0 := hw; omega) (Nat.le_refl _) w1).mono fun e W' ⟨he, bel⟩ => ?_
  subst he
  exact ⟨_, rfl, _, _, _, [], _, [], hW', trodAll_mk1 (shut_bool Try.underlying4 _), trodAll_mk2 (hargs _ bel) (shut_string Try.underlying9 w1), rfl, bel.frame _, fun h => by cases h⟩

set_option maxRecDepth 100000 in
theorem liftedTagTurns (os : Os) (started : os.Started) (H : Type) (enc : TypeId × Value → H) (F : Stop.Interp) :
    ReturnsInHanded {} Try.checked os 4 .any ((Rows.OpenSpec.upto Rows.tagTurnsSpec).pre6 enc Try.prog Try.f4 Rows.tagTurnsUptoRow.domain false) (((Rows.OpenSpec.upto Rows.tagTurnsSpec).at F).post enc Try.prog Try.f4 false true false false) := by
  refine returnsInHanded_of_cond (C := Try.checked) (s := Rows.OpenSpec.upto Rows.tagTurnsSpec) (k := Rows.uptoSmall) rfl ownTagTurns started (by kernel_rfl) Try.func4
    (OpenSpec.witness (enc := enc) (C := Try.checked) (s := Rows.OpenSpec.upto Rows.tagTurnsSpec) (k := Rows.uptoSmall) rfl false ⟨#[], #[.slice none 0 0, .string ByteArray.empty], []⟩ 8 (by kernel_rfl) (by kernel_rfl) (by kernel_rfl)
      (x := ([.nil, .lit (.string [])], [], [])) (by kernel_rfl) rfl (by kernel_rfl)) ?_
  intro W base args ds gs before hval hW _ hk _
  exact contractTagTurns H enc W base args ds gs before hval hW hk

/-- THE STATEMENT -/
theorem tagTurns_upto : Rows.TagTurnsUptoSaid :=
  OpenClaim.holds_of_cond 4 Try.f4 rfl rfl rfl rfl rfl rfl rfl ⟨rfl, rfl, rfl, rfl, rfl⟩ rfl rfl rfl rfl rfl (by kernel_rfl) Try.func4 (by kernel_rfl)
    (of_decide_eq_true (by kernel_rfl)) (by unfold Func.isWrapper; first | (rw [if_pos (by decide +kernel)]; kernel_rfl) | (rw [if_neg (by decide +kernel)]; exact ⟨rfl, rfl⟩))
    (fun os started H enc _ F => liftedTagTurns os started H enc F)
#print axioms tagTurns_upto
end Go.Proofs.Ythamjfgiklbifab
