/- For all ways and every scene: CheckWays and Walk of the program answer as the document's own do. No conditions. -/
import Derived.Test.YtklnbkfajjgkaafWalkAll
import Derived.Test.YtklnbkfajjgkaafRows
import Derived.WalkKit
import Derived.ProofKit
import Derived.OpenShut
import Derived.ShutString
import Derived.ChangeOld
import Derived.Below
namespace Go.Proofs.Ytklnbkfajjgkaaf
open Go.ChangeShapes Go.WideShapes Go.ChangeAt Go.RowKit
open Go.ChangeMaps (open_string shut_string)
set_option linter.unusedVariables false





set_option maxHeartbeats 4000000 in
theorem walkRuleWalks (v : XWays) (s : XScene) (w : World) (hv : okWays w v) (hs : okScene w s) :
    Calls Try.prog 4 #[valWays v, valScene s] w fun e w' => e = .returned (.bool true) ∧ Below w.heap.size w w' := by
  have hr : RowWay w v.listo v.list := hv.2.2
  have hra : Rowint w s.ableo s.able := hs.2.1
  have hrw : Rowint w s.wello s.well := hs.2.2
  have n1 := fun w' (h : Below w.heap.size w w') => walk_any v s w' (hr.below h) (hra.below h) (hrw.below h)
  have n2 := fun w' (h : Below w.heap.size w w') => rwalk_any v s w' (hr.below h) (hra.below h) (hrw.below h)
  have n3 := fun w' (h : Below w.heap.size w w') => checkWays_any v w' (hr.below h)
  have n4 := fun w' (h : Below w.heap.size w w') => rways_any v w' (hr.below h)
  have hbx := below_lboxes v s w
  have hat := lboxes_at v s w
  clear hv hs hr hra hrw
  generalize walkE v s = we at *
  generalize walkA v s = wa at *
  generalize waysE v = ye at *
  obtain ⟨a0, a1, a2⟩ := wa
  unfold valWays valScene valWalked at *
  simp only at n1 n2
  have N1 := hide n1; have N2 := hide n2; have N3 := hide n3; have N4 := hide n4
  clear n1 n2 n3 n4
  go_enter Try.func4, Try.ntmps4
  go_wp2_with fail
  refine (unhide N1 _ hbx).mono ?_
  rintro e x1 ⟨rfl, hb1⟩
  have HB : Below (lboxes v s w).heap.size (lboxes v s w) x1 := hb1
  have hw1 := hat.1.below HB
  have hs1 := hat.2.below HB
  obtain ⟨r0, r1, r2⟩ := hw1.cells
  obtain ⟨s0, s1, s2, s3⟩ := hs1.cells
  have hz0 : w.heap.size < x1.heap.size := block_ltW hw1
  have hz1 : w.heap.size + 1 < x1.heap.size := block_ltW hs1
  have hbw := hbx.trans (HB.mono hbx.size)
  have N2' := hide (fun o => unhide N2 (x1.alloc o) (hbw.alloc hbw.size o))
  have HW1 := hide hw1
  have HBW := hide hbw
  clear hb1 N2 N1 hat hbx hw1 hs1 hbw HB
  go_wp2_with fail
  refine (unhide N2' _).mono ?_
  rintro e x2 ⟨rfl, hb2⟩
  have k0 : x2.cell? ⟨x1.heap.size, 0, none⟩ = some (.int .i64 a0) := (hb2.cell (by simp)).trans (by rw [World.cell?_alloc_at _ _ _ _ rfl]; rfl)
  have k1 : x2.cell? ⟨x1.heap.size, 1, none⟩ = some (.bool a1) := (hb2.cell (by simp)).trans (by rw [World.cell?_alloc_at _ _ _ _ rfl]; rfl)
  have k2 : x2.cell? ⟨x1.heap.size, 2, none⟩ = some (.int .i64 a2) := (hb2.cell (by simp)).trans (by rw [World.cell?_alloc_at _ _ _ _ rfl]; rfl)
  have hb12 : Below x1.heap.size x1 x2 := ((Below.refl _ _).alloc (Nat.le_refl _) _).trans (hb2.mono (by simp))
  have hbw2 := (unhide HBW).trans (hb12.mono (unhide HBW).size)
  have hw2 := (unhide HW1).below hb12
  have hbw3 := hbw2.alloc hbw2.size (Obj.cells #[.int .i64 a0, .bool a1, .int .i64 a2] 37)
  have hS : ∀ w', Below (x2.alloc (Obj.cells #[.int .i64 a0, .bool a1, .int .i64 a2] 37)).heap.size (x2.alloc (Obj.cells #[.int .i64 a0, .bool a1, .int .i64 a2] 37)) w' →
      (w'.cell? ⟨w.heap.size, 0, none⟩ = some (.int .i64 v.x) ∧ w'.cell? ⟨w.heap.size, 1, none⟩ = some (.int .i64 v.y) ∧ w'.cell? ⟨w.heap.size, 2, none⟩ = some (.slice v.listo v.list.length v.listc) ∧ w'.cell? ⟨x1.heap.size, 0, none⟩ = some (.int .i64 a0) ∧ w'.cell? ⟨x1.heap.size, 1, none⟩ = some (.bool a1) ∧ w'.cell? ⟨x1.heap.size, 2, none⟩ = some (.int .i64 a2) ∧ w'.cell? ⟨x2.heap.size, 0, none⟩ = some (.int .i64 a0) ∧ w'.cell? ⟨x2.heap.size, 1, none⟩ = some (.bool a1) ∧ w'.cell? ⟨x2.heap.size, 2, none⟩ = some (.int .i64 a2)) := fun w' hb => by
    have hx : Below x2.heap.size x2 w' := ((Below.refl _ _).alloc (Nat.le_refl _) _).trans (hb.mono (by simp))
    obtain ⟨c0, c1, c2⟩ := (hw2.below hx).cells
    exact ⟨c0, c1, c2, (hx.cell (World.block_lt_of_cell? _ _ k0)).trans k0, (hx.cell (World.block_lt_of_cell? _ _ k1)).trans k1, (hx.cell (World.block_lt_of_cell? _ _ k2)).trans k2,
      (hb.cell (by simp)).trans (by rw [World.cell?_alloc_at _ _ _ _ rfl]; rfl), (hb.cell (by simp)).trans (by rw [World.cell?_alloc_at _ _ _ _ rfl]; rfl), (hb.cell (by simp)).trans (by rw [World.cell?_alloc_at _ _ _ _ rfl]; rfl)⟩
  have N3' := hide (fun w' (hb : Below (x2.alloc (Obj.cells #[.int .i64 a0, .bool a1, .int .i64 a2] 37)).heap.size (x2.alloc (Obj.cells #[.int .i64 a0, .bool a1, .int .i64 a2] 37)) w') => unhide N3 w' (hbw3.trans (hb.mono hbw3.size)))
  have N4' := hide (fun w' (hb : Below (x2.alloc (Obj.cells #[.int .i64 a0, .bool a1, .int .i64 a2] 37)).heap.size (x2.alloc (Obj.cells #[.int .i64 a0, .bool a1, .int .i64 a2] 37)) w') => unhide N4 w' (hbw3.trans (hb.mono hbw3.size)))
  have HB3 := hide hbw3
  clear r0 r1 r2 s0 s1 s2 s3 hb2 hb12 hbw2 hw2 N2' N3 N4 hz0 hz1 k0 k1 k2 hbw3 HW1 HBW
  go_wp2_with fail
  generalize x2.alloc (Obj.cells #[.int .i64 a0, .bool a1, .int .i64 a2] 37) = x3 at *
  go_region_held3 (fun w' => w'.cell? ⟨w.heap.size, 0, none⟩ = some (.int .i64 v.x) ∧ w'.cell? ⟨w.heap.size, 1, none⟩ = some (.int .i64 v.y) ∧ w'.cell? ⟨w.heap.size, 2, none⟩ = some (.slice v.listo v.list.length v.listc) ∧ w'.cell? ⟨x1.heap.size, 0, none⟩ = some (.int .i64 a0) ∧ w'.cell? ⟨x1.heap.size, 1, none⟩ = some (.bool a1) ∧ w'.cell? ⟨x1.heap.size, 2, none⟩ = some (.int .i64 a2) ∧ w'.cell? ⟨x2.heap.size, 0, none⟩ = some (.int .i64 a0) ∧ w'.cell? ⟨x2.heap.size, 1, none⟩ = some (.bool a1) ∧ w'.cell? ⟨x2.heap.size, 2, none⟩ = some (.int .i64 a2))
    (first
      | exact hS _ (Below.refl _ _)
      | exact hS _ (Below.refl _ _).drew
      | exact hs2
      | exact hs3)
    ((first
      | (go_at_call 13; refine (unhide N3' _ (Below.refl _ _).drew).mono ?_; rintro e y1 ⟨rfl, hy1⟩; have hy2 : Below x3.heap.size x3 y1 := (Below.refl _ _).drew.trans hy1; have hs2 := hS _ hy2)
      | (go_at_call 14; refine (unhide N4' _ hy2).mono ?_; rintro e y3 ⟨rfl, hy3⟩; have hy4 : Below x3.heap.size x3 y3 := hy2.trans (hy3.mono hy2.size); have hs3 := hS _ hy4)))
  all_goals
    go_wp2
    go_ret
    exact ⟨ret_bool (by simp), (unhide HB3).trans (hy4.mono (unhide HB3).size)⟩

theorem ownRuleWalks : ownKnob Try.prog.godebug = none := by kernel_rfl
theorem laidOutRuleWalks : laidOutB Try.prog = true := by kernel_rfl
set_option maxRecDepth 100000 in
theorem contractRuleWalks (H : Type) (enc : TypeId × Value → H) (W : World) (base : Nat) (args : Array Value) (ds gs : List (DataW H)) (before : List MemPlace)
    (hval0 : ∀ (j : Nat) t v, Try.f4.params[j]? = some t → args[j]? = some v → Value.okWide Try.prog W .any base t v)
    (hW : DataW.Whole enc Try.prog Try.f4.params.toList Rows.ruleWalksSpec.vars false W args.toList ds gs before) :
    Calls Try.prog 4 args W fun e W' => ∃ v, e = .returned v ∧ Rows.ruleWalksSpec.post enc Try.prog Try.f4 false true false false W args v W' := by
  have hval : ∀ (j : Nat) t v, Try.f4.params[j]? = some t → args[j]? = some v → Value.okWide Try.prog W .any base t v := hval0
  have hW' := hW
  obtain ⟨p, q, hA0, hV, rfl, hfz, hnd⟩ := hW
  have hA : DataW.TrodAll enc Try.prog W 0 (fun _ => true) true Try.f4.params.toList args.toList ds p := hA0
  rw [Try.params4] at hA hval
  obtain ⟨v0, vs0, d0, ds0, p0, q0, hargs, rfl, rfl, h0, r0⟩ := trodAll_cons hA
  obtain ⟨v1, vs1, d1, ds1, p1, q1, rfl, rfl, rfl, h1, r1⟩ := trodAll_cons r0
  obtain ⟨rfl, rfl, rfl⟩ := trodAll_nil r1
  obtain rfl : args = #[v0, v1] := by cases args; simp_all
  obtain ⟨rfl, rfl⟩ := trodVars_none hV
  clear hA0 hval0
  simp only [List.append_nil] at hW'
  have hlt0 : ∀ x ∈ p0, x.block < W.heap.size := fun x hx => by simpa using hW'.lt x (by simp [hx])
  have hargs0 : ∀ (W' : World), Below W.heap.size W W' → DataW.Trod enc Try.prog W' 0 (fun b => decide (b < W.heap.size)) true 32 v0 d0 p0 :=
    fun W' hn => Below.trod laidOutRuleWalks (by kernel_rfl) (of_decide_eq_true (by kernel_rfl)) h0 hn hlt0
  have hlt1 : ∀ x ∈ p1, x.block < W.heap.size := fun x hx => by simpa using hW'.lt x (by simp [hx])
  have hargs1 : ∀ (W' : World), Below W.heap.size W W' → DataW.Trod enc Try.prog W' 0 (fun b => decide (b < W.heap.size)) true 35 v1 d1 p1 :=
    fun W' hn => Below.trod laidOutRuleWalks (by kernel_rfl) (of_decide_eq_true (by kernel_rfl)) h1 hn hlt1
  obtain ⟨x0, rfl, hr0⟩ := openWays (hval 0 32 v0 rfl rfl) h0
  obtain ⟨x1, rfl, hr1⟩ := openScene (hval 1 35 v1 rfl rfl) h1
  refine (walkRuleWalks x0 x1 W hr0 hr1).mono fun e W' ⟨he, bel⟩ => ?_
  subst he
  exact ⟨_, rfl, _, _, _, [], _, [], hW', trodAll_mk1 (shut_bool Try.underlying4 _), (trodAll_cons_mk (hargs0 _ bel) (trodAll_cons_mk (hargs1 _ bel) trodAll_mk0)), rfl, bel.frame _, fun h => by cases h⟩

set_option maxRecDepth 100000 in
theorem liftedRuleWalks (os : Os) (started : os.Started) (H : Type) (enc : TypeId × Value → H) :
    ReturnsInHanded {} Try.checked os 4 .any (Rows.ruleWalksSpec.pre6 enc Try.prog Try.f4 Rows.ruleWalksRow.domain false) (Rows.ruleWalksSpec.post enc Try.prog Try.f4 false true false false) := by
  refine returnsInHanded_of_change (C := Try.checked) ownRuleWalks started (by kernel_rfl) Try.func4
    (ChangeSpec.witness6 (enc := enc) (C := Try.checked) false ⟨#[], #[.agg #[.int .i64 0, .int .i64 0, .slice none 0 0], .agg #[.int .i64 0, .bool false, .slice none 0 0, .slice none 0 0]], []⟩ 8 (by kernel_rfl) (by kernel_rfl) (by kernel_rfl) (by kernel_rfl)) ?_
  intro W base args ds gs before hval hW hcnd _
  exact contractRuleWalks H enc W base args ds gs before hval hW

theorem overRuleWalks : Rows.ruleWalksRow.holds Try.pinned (OpenSpec.ofChange Rows.ruleWalksSpec) :=
  OpenClaim.holds_of_wide 4 Try.f4 rfl rfl rfl rfl rfl rfl rfl ⟨rfl, rfl, rfl, rfl, rfl⟩ rfl rfl rfl rfl rfl (by kernel_rfl) Try.func4 (by kernel_rfl)
    (of_decide_eq_true (by kernel_rfl)) (by unfold Func.isWrapper; first | (rw [if_pos (by decide +kernel)]; kernel_rfl) | (rw [if_neg (by decide +kernel)]; exact ⟨rfl, rfl⟩))
    (fun os started H enc _ => liftedRuleWalks os started H enc)

/-- THE STATEMENT -/
theorem ruleWalks_holds : Rows.RuleWalksSaid := overRuleWalks
#print axioms ruleWalks_holds
end Go.Proofs.Ytklnbkfajjgkaaf
