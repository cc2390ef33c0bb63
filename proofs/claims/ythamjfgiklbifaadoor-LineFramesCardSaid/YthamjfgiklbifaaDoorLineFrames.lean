/- For every block and all bytes: Frame and Unframe of the program answer as the document's own do. The table of the sum starts as the program's text lays it (tied). No other conditions. -/
import Derived.Test.YthamjfgiklbifaaDoorRows
import Derived.Test.YthamjfgiklbifaaDoorLineCard
import Derived.Test.YthamjfgiklbifaaDoorCards
import Derived.WalkKit
import Derived.ProofKit
import Derived.OpenShut
import Derived.ShutString
import Derived.ChangeOld
import Derived.Below
namespace Go.Proofs.YthamjfgiklbifaaDoor
open Go.ChangeShapes Go.WideShapes Go.ChangeAt Go.RowKit
open Go.ChangeMaps (open_string shut_string)
set_option linter.unusedVariables false

set_option maxRecDepth 100000 in
set_option maxHeartbeats 2000000 in
theorem walkLineFrames (t n : Int) (m h : Bool) (b : ByteArray) (s : ByteArray) (w : World) (p0 : -9223372036854775808 ≤ t) (p1 : t ≤ 9223372036854775807) (q0 : -9223372036854775808 ≤ n) (q1 : n ≤ 9223372036854775807) (hb : b.size ≤ maxLen) (hs : s.size ≤ maxLen)
    (ht : Tab w) (hw0 : 0 < w.heap.size) :
    Calls Tryd.prog 3 #[blk t n m h b, .string s] w fun e w' => e = .returned (.bool true) ∧ Below w.heap.size w w' := by
  have n1 := fun w' (ht : Tab w') (h0 : 0 < w'.heap.size) => frame_all t n m h b w' ht h0 hb
  have n2 := fun w' => rframe_all t n m h b w' hb p0 p1 q0 q1
  have n3 := fun w' (ht : Tab w') (h0 : 0 < w'.heap.size) => unframe_all s w' ht h0 hs
  have n4 := fun w' => runframe_all s w' hs
  generalize fText t n m h b = x at *
  generalize checkE t n m h b = e at *
  generalize uT s = t' at *
  generalize uN s = n' at *
  generalize uM s = m' at *
  generalize uH s = h' at *
  generalize uB s = b' at *
  generalize unfE s = f at *
  have N1 := hide n1; have N2 := hide n2; have N3 := hide n3; have N4 := hide n4
  clear n1 n2 n3 n4 p0 p1 q0 q1 hb hs
  have b0 := fun o => (Below.refl w.heap.size w).alloc (Nat.le_refl _) o
  go_enter Tryd.func3, Tryd.ntmps3
  go_wp2_with fail
  refine (unhide N1 _ ?_ ?_).mono ?_
  · exact ht.below (b0 _) hw0
  · simp
  rintro e1 w1 ⟨rfl, hb1⟩
  have c0 : w1.cell? ⟨w.heap.size, 0, none⟩ = some (.int .i64 t) := below_keep hb1 (a := ⟨w.heap.size, 0, none⟩) (v := .int .i64 t) (by simp)
  have c1 : w1.cell? ⟨w.heap.size, 1, none⟩ = some (.int .i64 n) := below_keep hb1 (a := ⟨w.heap.size, 1, none⟩) (v := .int .i64 n) (by simp)
  have c2 : w1.cell? ⟨w.heap.size, 2, none⟩ = some (.bool m) := below_keep hb1 (a := ⟨w.heap.size, 2, none⟩) (v := .bool m) (by simp)
  have c3 : w1.cell? ⟨w.heap.size, 3, none⟩ = some (.bool h) := below_keep hb1 (a := ⟨w.heap.size, 3, none⟩) (v := .bool h) (by simp)
  have c4 : w1.cell? ⟨w.heap.size, 4, none⟩ = some (.string b) := below_keep hb1 (a := ⟨w.heap.size, 4, none⟩) (v := .string b) (by simp)
  have hw1 : Below w.heap.size w w1 := (b0 _).trans (hb1.mono (by simp))
  clear hb1 b0
  go_wp2_with fail
  refine (unhide N2 _).mono ?_
  rintro e1 w2 ⟨rfl, hb2⟩
  have hw2 : Below w.heap.size w w2 := hw1.trans (hb2.mono hw1.size)
  clear hb2 c0 c1 c2 c3 c4 hw1
  go_wp2_with fail
  refine (unhide N3 _ ?_ ?_).mono ?_
  · exact ht.below hw2 hw0
  · have := hw2.size; omega
  rintro e1 w3 ⟨rfl, hb3⟩
  have hw3 : Below w.heap.size w w3 := hw2.trans (hb3.mono hw2.size)
  clear hb3 hw2
  go_wp2_with fail
  refine (unhide N4 _).mono ?_
  rintro e1 w4 ⟨rfl, hb4⟩
  have c0 : w4.cell? ⟨w3.heap.size, 0, none⟩ = some (.int .i64 t') := below_keep hb4 (a := ⟨w3.heap.size, 0, none⟩) (v := .int .i64 t') (by simp)
  have c1 : w4.cell? ⟨w3.heap.size, 1, none⟩ = some (.int .i64 n') := below_keep hb4 (a := ⟨w3.heap.size, 1, none⟩) (v := .int .i64 n') (by simp)
  have c2 : w4.cell? ⟨w3.heap.size, 2, none⟩ = some (.bool m') := below_keep hb4 (a := ⟨w3.heap.size, 2, none⟩) (v := .bool m') (by simp)
  have c3 : w4.cell? ⟨w3.heap.size, 3, none⟩ = some (.bool h') := below_keep hb4 (a := ⟨w3.heap.size, 3, none⟩) (v := .bool h') (by simp)
  have c4 : w4.cell? ⟨w3.heap.size, 4, none⟩ = some (.string b') := below_keep hb4 (a := ⟨w3.heap.size, 4, none⟩) (v := .string b') (by simp)
  have hz : w3.heap.size < w4.heap.size := by have := hb4.size; simp at this; omega
  have hw4 : Below w.heap.size w w4 := (hw3.trans (((Below.refl _ _).alloc (Nat.le_refl _) _).mono hw3.size)).trans (hb4.mono (by have := hw3.size; simp; omega))
  clear hb4
  go_wp2
  go_ret
  exact ⟨rfl, hw4.alloc hw4.size _⟩

set_option maxRecDepth 100000 in
theorem liftedLineFrames (os : Os) (started : os.Started) (H : Type) (enc : TypeId × Value → H) :
    ReturnsInHanded {} Tryd.checked os 3 .any (fun w args => (Rows.lineFramesSpec.pre enc Tryd.prog Tryd.f3 [] false w args ∧ laidMetH Tryd.prog laidLine w) ∧ sizedMet enc Tryd.prog Tryd.f3 (OpenSpec.ofChange Rows.lineFramesSpec) false w args)
      (Rows.lineFramesSpec.post enc Tryd.prog Tryd.f3 false true false false) := by
  refine returnsInHanded_of_change_and (C := Tryd.checked) (X := fun w _ => laidMetH Tryd.prog laidLine w) (fun _ _ _ hh h => h.of_heap hh) ownLine started (by kernel_rfl) Tryd.func3
    (ChangeSpec.witness_shaped (enc := enc) (C := Tryd.checked) (os := os) (X := fun w _ => laidMetH Tryd.prog laidLine w) false (World.doorLaid Tryd.prog 14 os) #[blk 0 0 false false ByteArray.empty, .string ByteArray.empty] 8 rfl (World.shaped_of_RefB (by kernel_rfl) (by kernel_rfl)) (by kernel_rfl) (by kernel_rfl) (by kernel_rfl) (door_met os _)) ?_
  intro W base args ds gs before hval0 hW _ _ hL _
  have hval : ∀ (j : Nat) t v, Tryd.f3.params[j]? = some t → args[j]? = some v → Value.okWide Tryd.prog W .any base t v := hval0
  have hW' := hW
  obtain ⟨p, q, hA0, hV, rfl, hfz, hnd⟩ := hW
  have hA : DataW.TrodAll enc Tryd.prog W 0 (fun _ => true) true Tryd.f3.params.toList args.toList ds p := hA0
  rw [Tryd.params3] at hA hval
  obtain ⟨v0, vs0, d0, ds0, p0, q0, hargs, rfl, rfl, h0, r0⟩ := trodAll_cons hA
  obtain ⟨v1, vs1, d1, ds1, p1, q1, rfl, rfl, rfl, h1, r1⟩ := trodAll_cons r0
  obtain ⟨rfl, rfl, rfl⟩ := trodAll_nil r1
  obtain rfl : args = #[v0, v1] := by cases args; simp_all
  obtain ⟨rfl, rfl⟩ := trodVars_none hV
  have k0 := h0
  have lt0 : ∀ x ∈ p0, x.block < W.heap.size := by obtain ⟨m, hm⟩ := k0; exact DataW.trod_lt m _ _ _ hm
  obtain ⟨t, n, m, hh, b, rfl, w0, w1, w4⟩ := open_blk (hval 0 23 v0 rfl rfl) h0
  obtain ⟨a1, rfl, rfl, rfl, w2⟩ := open_string Tryd.underlying9 (hval 1 9 v1 rfl rfl) h1
  have ht := tab_of_laid hL
  have b0 := bounds_i64 w0
  have b1 := bounds_i64 w1
  clear hA0 hval0
  refine (walkLineFrames t n m hh b a1 W b0.1 b0.2 b1.1 b1.2 w4 w2 ht (tab_block ht)).mono fun e W' ⟨he, bel⟩ => ?_
  subst he
  exact ⟨_, rfl, _, _, _, [], _, [], hW', trodAll_mk1 (shut_bool Tryd.underlying4 _), (trodAll_cons_mk (Below.trod laidOutLine (by kernel_rfl) (of_decide_eq_true (by kernel_rfl)) k0 bel lt0) (trodAll_cons_mk (shut_string Tryd.underlying9 w2) trodAll_mk0)), rfl, bel.frame _, fun h => by cases h⟩

theorem overLineFrames : Rows.LineFramesSaid :=
  OpenClaim.holds_of_wide 3 Tryd.f3 rfl rfl rfl rfl rfl rfl rfl ⟨rfl, rfl, rfl, rfl, rfl⟩ rfl rfl rfl rfl rfl (by kernel_rfl) Tryd.func3 (by kernel_rfl)
    (of_decide_eq_true (by kernel_rfl)) (by unfold Func.isWrapper; first | (rw [if_pos (by decide +kernel)]; kernel_rfl) | (rw [if_neg (by decide +kernel)]; exact ⟨rfl, rfl⟩))
    (fun os started H enc _ => liftedLineFrames os started H enc)

/-- THE STATEMENT: the tied card -/
theorem lineFrames_holds : Rows.LineFramesCardSaid :=
  Claim7.holds_tied_plain_at .later [] [.data] true Rows.lineFramesCard.stood.harness false
    overLineFrames (fun _ h => by cases h) (by kernel_rfl) (fun _ h => by cases h) lineFrames_row_tie rfl ⟨rfl, rfl⟩ (by kernel_rfl) rfl
    (fun f fn hf hfn => by
      obtain rfl : f = 3 := Option.some.inj ((show Tryd.prog.funcNamed Rows.lineFramesRow.func = some 3 by kernel_rfl).symm.trans hf) |>.symm
      obtain rfl : fn = Tryd.f3 := (Option.some.inj (Tryd.func3.symm.trans hfn)).symm
      exact ⟨by kernel_rfl, fun j t ht => by
        rw [Tryd.params3] at ht
        have hm : t ∈ [23, 9] := by simpa using Array.mem_of_getElem? ht
        have hall : ([23, 9].all fun u => !Tryd.prog.wantsStandIn u) = true := by kernel_rfl
        exact (show Tryd.prog.wantsStandIn t = false by simpa using List.all_eq_true.1 hall t hm)⟩)
    (by kernel_rfl)
#print axioms lineFrames_holds
end Go.Proofs.YthamjfgiklbifaaDoor
