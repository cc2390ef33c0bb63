/- An answer read, by the program: answerOf. Made by drafts/genTfR.py. -/
import Derived.Test.YtfpglpefofcdeaaGreatDoorM23
import Derived.Test.YtfpglpefofcdeaaGreatDoorM25
import Derived.Deep.MidRow
import Derived.Deep.RegionHeld3
namespace Go.Proofs.YtfpglpefofcdeaaGreatDoor
open Go.RowKit
set_option linter.unusedVariables false
set_option linter.unusedSimpArgs false
set_option maxRecDepth 100000

theorem step_call2T {P : Program} {ops : Array Oper} {o : Oper} {a : Act} {w : World} {K : Act → World → Prop} {Q : Exit → Act → World → Prop} {E : Prop} (hw : Region.wanted o (yielded ops a.tmps) = true) (f : FuncId) (x y : Operand) (ts : Array TypeId)
    (ho : o.op = .call { callee := .value (.func f), args := #[x, y], argTypes := ts }) (v u : Value) (hx : a.eval x = v) (hy : a.eval y = u) (hf : ∀ args w, (callFunc f args).run P w = .ok (.enter f args) w)
    {S : Ending → World → Prop} (hc : Calls P f #[v, u] w S) (hv : ∀ e w', S e w' → ∃ v, e = .returned v ∧ K (a.put o.dst v) w') :
    if Region.wanted o (yielded ops a.tmps) = true then Oper.wp P o a w K Q else E := by
  rw [if_pos hw]
  obtain ⟨dst, op, ty, pos, after, guard⟩ := o
  cases ho
  have hrun : (execOp a.eval { dst, op := .call { callee := .value (.func f), args := #[x, y], argTypes := ts }, type := ty, pos, after, guard }).run P w = .ok (.enter f #[v, u]) w := by
    show (callFunc f (#[] ++ #[x, y].map a.eval ++ #[])).run P w = _
    have e : (#[] ++ #[x, y].map a.eval ++ #[]) = #[v, u] := by simp [hx, hy]
    rw [e]; exact hf _ _
  unfold Oper.wp
  rw [hrun, Oper.upon_enter]
  refine hc.mono fun e w' hh => ?_
  obtain ⟨v, rfl, hk⟩ := hv e w' hh
  exact hk
theorem step_call3T {P : Program} {ops : Array Oper} {o : Oper} {a : Act} {w : World} {K : Act → World → Prop} {Q : Exit → Act → World → Prop} {E : Prop} (hw : Region.wanted o (yielded ops a.tmps) = true) (f : FuncId) (x y z : Operand) (ts : Array TypeId)
    (ho : o.op = .call { callee := .value (.func f), args := #[x, y, z], argTypes := ts }) (v u t : Value) (hx : a.eval x = v) (hy : a.eval y = u) (hz : a.eval z = t) (hf : ∀ args w, (callFunc f args).run P w = .ok (.enter f args) w)
    {S : Ending → World → Prop} (hc : Calls P f #[v, u, t] w S) (hv : ∀ e w', S e w' → ∃ v, e = .returned v ∧ K (a.put o.dst v) w') :
    if Region.wanted o (yielded ops a.tmps) = true then Oper.wp P o a w K Q else E := by
  rw [if_pos hw]
  obtain ⟨dst, op, ty, pos, after, guard⟩ := o
  cases ho
  have hrun : (execOp a.eval { dst, op := .call { callee := .value (.func f), args := #[x, y, z], argTypes := ts }, type := ty, pos, after, guard }).run P w = .ok (.enter f #[v, u, t]) w := by
    show (callFunc f (#[] ++ #[x, y, z].map a.eval ++ #[])).run P w = _
    have e : (#[] ++ #[x, y, z].map a.eval ++ #[]) = #[v, u, t] := by simp [hx, hy, hz]
    rw [e]; exact hf _ _
  unfold Oper.wp
  rw [hrun, Oper.upon_enter]
  refine hc.mono fun e w' hh => ?_
  obtain ⟨v, rfl, hk⟩ := hv e w' hh
  exact hk
theorem step_loadT {P : Program} {ops : Array Oper} {o : Oper} {a : Act} {w : World} {K : Act → World → Prop} {Q : Exit → Act → World → Prop} {E : Prop} (hw : Region.wanted o (yielded ops a.tmps) = true) (ty : TypeId) (x : Operand) (ho : o.op = .load ty x)
    (b k : Nat) (hx : a.eval x = .pointer (some ⟨b, k, none⟩)) (cs : List Value) (d : TypeDesc) (hc : w.rangeAt b k cs)
    (hu : P.underlying ty = some d) (hd : d.isRow = true) (hi : (P.info? ty).map (·.size) = some cs.length) (h : K (a.put o.dst (.agg cs.toArray)) w) :
    if Region.wanted o (yielded ops a.tmps) = true then Oper.wp P o a w K Q else E := by
  rw [if_pos hw]; exact wp_load_mid ty x ho b k hx cs d hc hu hd hi h
theorem range_rowT {w : World} {b : Nat} {l : List Value} {t : TypeId} (h : w.heap[b]? = some (.cells l.toArray t (0, 0))) : w.rangeAt b 0 l := fun j v hv => by
  rw [Nat.zero_add, cell_of_row _ _ j _ _ _ h, List.getElem?_toArray]
  exact hv
theorem ent_hnumber (args : Array Value) (w : World) : (callFunc 61 args).run Tryz.prog w = .ok (.enter 61 args) w := by kernel_rfl
theorem ent_htext (args : Array Value) (w : World) : (callFunc 59 args).run Tryz.prog w = .ok (.enter 59 args) w := by kernel_rfl
theorem ent_hcert (args : Array Value) (w : World) : (callFunc 60 args).run Tryz.prog w = .ok (.enter 60 args) w := by kernel_rfl
theorem ent_happs (args : Array Value) (w : World) : (callFunc 62 args).run Tryz.prog w = .ok (.enter 62 args) w := by kernel_rfl
theorem one24 {v0 v1 v2 v3 v4 v5 v6 v7 v8 v9 v10 v11 v12 v13 v14 v15 v16 v17 v18 v19 v20 v21 v22 v23 : Value} (h : [v0, v1, v2, v3, v4, v5, v6, v7, v8, v9, v10, v11, v12, v13, v14, v15, v16, v17, v18, v19, v20, v21, v22, v23].all (·.oneCell') = true) : (#[v0, v1, v2, v3, v4, v5, v6, v7, v8, v9, v10, v11, v12, v13, v14, v15, v16, v17, v18, v19, v20, v21, v22, v23] : Array Value).all (·.oneCell') = true := by simpa using h
theorem nob24 : NoB #[Value.int .i64 0, .int .i64 0, .slice none 0 0, .int .i64 0, .int .i64 0, .int .i64 0, .string ⟨#[]⟩, .slice none 0 0, .string ⟨#[]⟩, .string ⟨#[]⟩, .string ⟨#[]⟩, .string ⟨#[]⟩, .int .i64 0, .int .i64 0, .slice none 0 0, .int .i64 0, .int .i64 0, .int .i64 0, .slice none 0 0, .int .i64 0, .int .i64 0, .string ⟨#[]⟩, .string ⟨#[]⟩, .string ⟨#[]⟩] := noB_of rfl
set_option maxHeartbeats 8000000 in
theorem answerOf_any (D : List It) (ao : Option Addr) (cap : Nat) (w : World) (hr : IRow w 8 ao D) (hw : wt 8 D ≤ 65535) :
    Calls Tryz.prog 26 #[.slice ao D.length cap] w fun e w' => (∃ a, e = .returned (.agg (anC a)) ∧ AnOK w' a ∧ a.strip = anP D ∧ ∀ p, a.fl.ro = some p → w.heap.size < p.block) ∧ Below w.heap.size w w' := by
  have hfz : (gotT 133 8 D).size ≤ 65535 := Nat.le_trans (got_size _ _ _) hw
  have haz : (gotT 130 8 D).size ≤ maxLen := by have := got_size 130 8 D; unfold maxLen; omega
  obtain ⟨W1, hW1⟩ : ∃ W1, W1 = w.alloc (.cells #[.int .i64 0, .int .i64 0, .slice none 0 0, .int .i64 0, .int .i64 0, .int .i64 0, .string ⟨#[]⟩, .slice none 0 0, .string ⟨#[]⟩, .string ⟨#[]⟩, .string ⟨#[]⟩, .string ⟨#[]⟩, .int .i64 0, .int .i64 0, .slice none 0 0, .int .i64 0, .int .i64 0, .int .i64 0, .slice none 0 0, .int .i64 0, .int .i64 0, .string ⟨#[]⟩, .string ⟨#[]⟩, .string ⟨#[]⟩] 37) := ⟨_, rfl⟩
  have hB1 : Below w.heap.size w W1 := by rw [hW1]; exact (Below.refl _ _).alloc (Nat.le_refl _) _
  have hX1 : W1.heap[w.heap.size]? = some (.cells #[.int .i64 0, .int .i64 0, .slice none 0 0, .int .i64 0, .int .i64 0, .int .i64 0, .string ⟨#[]⟩, .slice none 0 0, .string ⟨#[]⟩, .string ⟨#[]⟩, .string ⟨#[]⟩, .string ⟨#[]⟩, .int .i64 0, .int .i64 0, .slice none 0 0, .int .i64 0, .int .i64 0, .int .i64 0, .slice none 0 0, .int .i64 0, .int .i64 0, .string ⟨#[]⟩, .string ⟨#[]⟩, .string ⟨#[]⟩] 37 (0, 0)) := by rw [hW1]; exact heap_alloc_new _ _
  have hr1 := IRow.below hB1 8 hr
  have N0 := hide (fun W (hb : Below W1.heap.size W1 W) => htext_any 133 8 D ao cap W (IRow.below hb 8 hr1) (by omega))
  have NF := hide (fun W => fileOf_any (gotT 133 8 D) W hfz)
  have NC := hide (fun W (hb : Below W1.heap.size W1 W) => hcert_any 134 135 8 D ao cap W (IRow.below hb 8 hr1) (by omega))
  have ND := hide (fun W (hb : Below W1.heap.size W1 W) => hcert_any 136 137 8 D ao cap W (IRow.below hb 8 hr1) (by omega))
  have M1 := hide (fun W (hb : Below W1.heap.size W1 W) => hnumber_any 128 8 D ao cap W (IRow.below hb 8 hr1) (by omega))
  have M2 := hide (fun W (hb : Below W1.heap.size W1 W) => hnumber_any 129 8 D ao cap W (IRow.below hb 8 hr1) (by omega))
  have M3 := hide (fun W (hb : Below W1.heap.size W1 W) => happs_any 130 8 D ao cap W (IRow.below hb 8 hr1) (by omega) haz)
  have M4 := hide (fun W (hb : Below W1.heap.size W1 W) => hnumber_any 131 8 D ao cap W (IRow.below hb 8 hr1) (by omega))
  have M5 := hide (fun W (hb : Below W1.heap.size W1 W) => hnumber_any 132 8 D ao cap W (IRow.below hb 8 hr1) (by omega))
  have M6 := hide (fun W (hb : Below W1.heap.size W1 W) => hnumber_any 138 8 D ao cap W (IRow.below hb 8 hr1) (by omega))
  have M7 := hide (fun W (hb : Below W1.heap.size W1 W) => hnumber_any 139 8 D ao cap W (IRow.below hb 8 hr1) (by omega))
  have M8 := hide (fun W (hb : Below W1.heap.size W1 W) => hnumber_any 140 8 D ao cap W (IRow.below hb 8 hr1) (by omega))
  have M9 := hide (fun W (hb : Below W1.heap.size W1 W) => htext_any 141 8 D ao cap W (IRow.below hb 8 hr1) (by omega))
  have MA := hide (fun W (hb : Below W1.heap.size W1 W) => hcert_any 142 143 8 D ao cap W (IRow.below hb 8 hr1) (by omega))
  have HRN := hide (show (readV (gotT 128 8 D) ≤ 9223372036854775807 ∧ readV (gotT 129 8 D) ≤ 9223372036854775807 ∧ readV (gotT 131 8 D) ≤ 9223372036854775807 ∧ readV (gotT 132 8 D) ≤ 9223372036854775807 ∧ readV (gotT 138 8 D) ≤ 9223372036854775807 ∧ readV (gotT 139 8 D) ≤ 9223372036854775807 ∧ readV (gotT 140 8 D) ≤ 9223372036854775807) from
    ⟨(readV_bound _).2, (readV_bound _).2, (readV_bound _).2, (readV_bound _).2, (readV_bound _).2, (readV_bound _).2, (readV_bound _).2⟩)
  unfold anP
  clear hfz haz
  generalize readV (gotT 128 8 D) = er at *
  generalize readV (gotT 129 8 D) = dO at *
  generalize readsL (gotT 130 8 D) = apps at *
  generalize readV (gotT 131 8 D) = cnt at *
  generalize readV (gotT 132 8 D) = lst at *
  generalize readV (gotT 138 8 D) = lft at *
  generalize flP (gotT 133 8 D) = FP at *
  generalize readV (gotT 139 8 D) = knd at *
  generalize readV (gotT 140 8 D) = rcn at *
  generalize gotT 133 8 D = s133 at *
  generalize gotT 134 8 D = s134 at *
  generalize gotT 135 8 D = s135 at *
  generalize gotT 136 8 D = s136 at *
  generalize gotT 137 8 D = s137 at *
  generalize gotT 141 8 D = s141 at *
  generalize gotT 142 8 D = s142 at *
  generalize gotT 143 8 D = s143 at *
  generalize gotT 130 8 D = s130 at *
  generalize D.length = ll at *
  have HB1 := hide hB1; have HX1 := hide hX1; have HW1 := hide hW1
  clear hr hr1 hw hB1 hX1 hW1
  go_enter Tryz.func26, Tryz.ntmps26
  go_upto_region 1 with fail
  rw [← unhide HW1]
  go_wp2_with fail
  refine (unhide N0 _ (Below.refl _ _)).mono ?_
  rintro e y1 ⟨rfl, k1⟩
  have HK1 := hide k1
  clear k1 N0
  go_wp2_with fail
  refine (unhide NF _).mono ?_
  rintro e y2 ⟨⟨f, rfl, hfok, hfs, hfro⟩, k2⟩
  obtain ⟨W3, hW3⟩ : ∃ W3, W3 = (y2.alloc (.cells #[.string ⟨#[]⟩, .slice none 0 0, .string ⟨#[]⟩, .string ⟨#[]⟩, .string ⟨#[]⟩, .string ⟨#[]⟩, .int .i64 0, .int .i64 0, .slice none 0 0, .int .i64 0, .int .i64 0, .int .i64 0, .slice none 0 0] 33)).setRow y2.heap.size (flC f) := ⟨_, rfl⟩
  have hz3 : (y2.alloc (.cells #[.string ⟨#[]⟩, .slice none 0 0, .string ⟨#[]⟩, .string ⟨#[]⟩, .string ⟨#[]⟩, .string ⟨#[]⟩, .int .i64 0, .int .i64 0, .slice none 0 0, .int .i64 0, .int .i64 0, .int .i64 0, .slice none 0 0] 33)).heap[y2.heap.size]? = some (.cells #[.string ⟨#[]⟩, .slice none 0 0, .string ⟨#[]⟩, .string ⟨#[]⟩, .string ⟨#[]⟩, .string ⟨#[]⟩, .int .i64 0, .int .i64 0, .slice none 0 0, .int .i64 0, .int .i64 0, .int .i64 0, .slice none 0 0] 33 (0, 0)) := heap_alloc_new _ _
  have hX3 : W3.heap[y2.heap.size]? = some (.cells (flC f) 33 (0, 0)) := by rw [hW3, setRow_heap _ _ _ _ _ _ hz3]
  have hB3 : Below y2.heap.size y2 W3 := by rw [hW3]; exact setRow_belowT ((Below.refl _ _).alloc (Nat.le_refl _) _) (Nat.le_refl _)
  have hS3 : W3.heap.size = y2.heap.size + 1 := by rw [hW3, setRow_sizeT]; simp
  have k12 : Below W1.heap.size W1 y2 := (unhide HK1).trans (k2.mono (unhide HK1).size)
  have HFS := hide hfs
  have HFO := hide hfok
  have HFRO : Hid (∀ p, f.ro = some p → w.heap.size < p.block) := hide (fun p hp => by
    have h1 := hfro p hp; have h2 := block_ltQ (unhide HX1); have h3 := (unhide HK1).size
    omega)
  have HX3 := hide hX3; have HB3 := hide hB3; have HW3 := hide hW3; have HS3 := hide hS3; have HK12 := hide k12
  have HZ3 := hide hz3
  clear hfok hfs hfro k2 hX3 hB3 hW3 hS3 k12 NF HK1 hz3
  go_upto_region 2 with (refine wpList_store_row rfl _ _ _ rfl y2.heap.size (flC f) rfl rfl _ _ (unhide HZ3) infoFl rfl (flC_one _) ?_)
  rw [← unhide HW3]
  go_wp2_with fail
  refine (unhide NC _ ((unhide HK12).trans ((unhide HB3).mono (unhide HK12).size))).mono ?_
  rintro e y4 ⟨rfl, k4⟩
  have x4 := (k4.block _ (block_ltQ (unhide HX3))).trans (unhide HX3)
  have b4 : Below y2.heap.size y2 y4 := (unhide HB3).trans (k4.mono (unhide HB3).size)
  have c2 : y4.cell? ⟨y2.heap.size, 2, none⟩ = some (.string f.isig) := cell_of_row _ _ 2 _ _ _ x4
  have c3 : y4.cell? ⟨y2.heap.size, 3, none⟩ = some (.string f.irest) := cell_of_row _ _ 3 _ _ _ x4
  have d2 : y4.frozen? ⟨y2.heap.size, 2, none⟩ = false := frozen_of_row _ _ 2 _ _ x4
  have d3 : y4.frozen? ⟨y2.heap.size, 3, none⟩ = false := frozen_of_row _ _ 3 _ _ x4
  obtain ⟨W5, hW5⟩ : ∃ W5, W5 = (y4.setCell ⟨y2.heap.size, 2, none⟩ (.string s134)).setCell ⟨y2.heap.size, 3, none⟩ (.string s135) := ⟨_, rfl⟩
  have hX5 : W5.heap[y2.heap.size]? = some (.cells (flC { f with isig := s134, irest := s135 }) 33 (0, 0)) := by rw [hW5]; simp [World.setCell, Array.getElem?_modify, x4, flC]
  have hB5 : Below y2.heap.size y2 W5 := by rw [hW5]; exact (b4.setCell (p := ⟨y2.heap.size, 2, none⟩) (Nat.le_refl _) _).setCell (p := ⟨y2.heap.size, 3, none⟩) (Nat.le_refl _) _
  have HX5 := hide hX5; have HB5 := hide hB5; have HW5 := hide hW5
  clear k4 x4 b4 hX5 hB5 hW5 NC
  go_upto_region 3 with fail
  rw [← unhide HW5]
  clear c2 c3 d2 d3
  go_wp2_with fail
  refine (unhide ND _ ((unhide HK12).trans ((unhide HB5).mono (unhide HK12).size))).mono ?_
  rintro e y6 ⟨rfl, k6⟩
  have x6 := (k6.block _ (block_ltQ (unhide HX5))).trans (unhide HX5)
  have b6 : Below y2.heap.size y2 y6 := (unhide HB5).trans (k6.mono (unhide HB5).size)
  have c4 : y6.cell? ⟨y2.heap.size, 4, none⟩ = some (.string f.csig) := cell_of_row _ _ 4 _ _ _ x6
  have c5 : y6.cell? ⟨y2.heap.size, 5, none⟩ = some (.string f.crest) := cell_of_row _ _ 5 _ _ _ x6
  have d4 : y6.frozen? ⟨y2.heap.size, 4, none⟩ = false := frozen_of_row _ _ 4 _ _ x6
  have d5 : y6.frozen? ⟨y2.heap.size, 5, none⟩ = false := frozen_of_row _ _ 5 _ _ x6
  obtain ⟨W7, hW7⟩ : ∃ W7, W7 = (y6.setCell ⟨y2.heap.size, 4, none⟩ (.string s136)).setCell ⟨y2.heap.size, 5, none⟩ (.string s137) := ⟨_, rfl⟩
  have hX7 : W7.heap[y2.heap.size]? = some (.cells ([.string f.id, .slice f.apo f.apps.length f.apc, .string s134, .string s135, .string s136, .string s137, .int .i64 f.ways.x, .int .i64 f.ways.y, .slice f.ways.listo f.ways.list.length f.ways.listc, .int .i64 f.md, .int .i64 f.mo, .int .i64 f.mf, .slice f.ro f.row.length f.rc]).toArray 33 (0, 0)) := by rw [hW7]; simp [World.setCell, Array.getElem?_modify, x6, flC]
  have hB7 : Below y2.heap.size y2 W7 := by rw [hW7]; exact (b6.setCell (p := ⟨y2.heap.size, 4, none⟩) (Nat.le_refl _) _).setCell (p := ⟨y2.heap.size, 5, none⟩) (Nat.le_refl _) _
  have hK7 : Below W1.heap.size W1 W7 := (unhide HK12).trans (hB7.mono (unhide HK12).size)
  have HBW := hide (fun W (b : Below W7.heap.size W7 W) => hK7.trans (b.mono hK7.size))
  have HSX := hide (fun W (b : Below W7.heap.size W7 W) => (b.block _ (block_ltQ hX7)).trans hX7)
  have HNE : Hid (y2.heap.size ≠ w.heap.size) := hide (by have := block_ltQ (unhide HX1); have := (unhide HK12).size; omega)
  have hXR := (hK7.block _ (block_ltQ (unhide HX1))).trans (unhide HX1)
  have HXR := hide (fun W (b : Below W7.heap.size W7 W) => (b.block _ (block_ltQ hXR)).trans hXR)
  have HB7 := hide hB7; have HW7 := hide hW7
  clear k6 x6 b6 hX7 hB7 hW7 hXR ND hK7 HX5 HB5 HW5 HX3 HB3 HW3 HW1 HZ3 HS3
  go_upto_region 4 with fail
  rw [← unhide HW7]
  clear c4 c5 d4 d5
  go_wp2_with fail
  refine wp_region_noPanic ?_
  refine wp_region_held_drew (S := (fun W => W.heap[y2.heap.size]? = some (.cells ([.string f.id, .slice f.apo f.apps.length f.apc, .string s134, .string s135, .string s136, .string s137, .int .i64 f.ways.x, .int .i64 f.ways.y, .slice f.ways.listo f.ways.list.length f.ways.listc, .int .i64 f.md, .int .i64 f.mo, .int .i64 f.mf, .slice f.ro f.row.length f.rc]).toArray 33 (0, 0)))) (by kernel_rfl) ?_ (fun hHeld => ?_)
  · exact unhide HSX _ (Below.refl _ _).drew
  refine wpAnyH_take (i := 0) (oi := _) (v := ?_) rfl (by kernel_rfl) (by kernel_rfl) (by kernel_rfl) (fun _ _ _ h => h) (Or.inl ⟨by rfl, ?_⟩) (by assumption) ?_
  rotate_left
  · intro w9 hSw
    go_simp
    try with_reducible rfl
  try simp only [Act.put, List.setIfInBounds_toArray, List.set_cons_zero, List.set_cons_succ]
  refine wpAnyH_take (i := 2) (oi := _) (v := ?_) rfl (by kernel_rfl) (by kernel_rfl) (by kernel_rfl) (fun _ _ _ h => h) (Or.inl ⟨by rfl, ?_⟩) (by assumption) ?_
  rotate_left
  · intro w9 hSw
    go_simp
    try with_reducible rfl
  try simp only [Act.put, List.setIfInBounds_toArray, List.set_cons_zero, List.set_cons_succ]
  refine wpAnyH_take (i := 4) (oi := _) (v := ?_) rfl (by kernel_rfl) (by kernel_rfl) (by kernel_rfl) (fun _ _ _ h => h) (Or.inl ⟨by rfl, ?_⟩) (by assumption) ?_
  rotate_left
  · intro w9 hSw
    go_simp
    try with_reducible rfl
  try simp only [Act.put, List.setIfInBounds_toArray, List.set_cons_zero, List.set_cons_succ]
  refine wpAnyH_take (i := 6) (oi := _) (v := ?_) rfl (by kernel_rfl) (by kernel_rfl) (by kernel_rfl) (fun _ _ _ h => h) (Or.inl ⟨by rfl, ?_⟩) (by assumption) ?_
  rotate_left
  · intro w9 hSw
    go_simp
    try with_reducible rfl
  try simp only [Act.put, List.setIfInBounds_toArray, List.set_cons_zero, List.set_cons_succ]
  refine wpAnyH_take (i := 8) (oi := _) (v := ?_) rfl (by kernel_rfl) (by kernel_rfl) (by kernel_rfl) (fun _ _ _ h => h) (Or.inl ⟨by rfl, ?_⟩) (by assumption) ?_
  rotate_left
  · intro w9 hSw
    go_simp
    try with_reducible rfl
  try simp only [Act.put, List.setIfInBounds_toArray, List.set_cons_zero, List.set_cons_succ]
  refine wpAnyH_take (i := 10) (oi := _) (v := ?_) rfl (by kernel_rfl) (by kernel_rfl) (by kernel_rfl) (fun _ _ _ h => h) (Or.inl ⟨by rfl, ?_⟩) (by assumption) ?_
  rotate_left
  · intro w9 hSw
    go_simp
    try with_reducible rfl
  try simp only [Act.put, List.setIfInBounds_toArray, List.set_cons_zero, List.set_cons_succ]
  refine wpAnyH_take (i := 12) (oi := _) rfl (by kernel_rfl) (by kernel_rfl) (by kernel_rfl) (fun _ _ _ h => h) (yieldsIf_load_mid (by rfl) _ _ rfl y2.heap.size 0 rfl [.string f.id, .slice f.apo f.apps.length f.apc, .string s134, .string s135, .string s136, .string s137, .int .i64 f.ways.x, .int .i64 f.ways.y, .slice f.ways.listo f.ways.list.length f.ways.listc, .int .i64 f.md, .int .i64 f.mo, .int .i64 f.mf, .slice f.ro f.row.length f.rc] _ (fun W h => range_rowT h) Tryz.underlying33 rfl infoFl) (by assumption) ?_
  try simp only [Act.put, List.setIfInBounds_toArray, List.set_cons_zero, List.set_cons_succ]
  refine wpAnyH_take (i := 13) (oi := _) (v := ?_) rfl (by kernel_rfl) (by kernel_rfl) (by kernel_rfl) (fun _ _ _ h => h) (Or.inl ⟨by rfl, ?_⟩) (by assumption) ?_
  rotate_left
  · intro w9 hSw
    go_simp
    try with_reducible rfl
  try simp only [Act.put, List.setIfInBounds_toArray, List.set_cons_zero, List.set_cons_succ]
  refine wpAnyH_take (i := 15) (oi := _) (v := ?_) rfl (by kernel_rfl) (by kernel_rfl) (by kernel_rfl) (fun _ _ _ h => h) (Or.inl ⟨by rfl, ?_⟩) (by assumption) ?_
  rotate_left
  · intro w9 hSw
    go_simp
    try with_reducible rfl
  try simp only [Act.put, List.setIfInBounds_toArray, List.set_cons_zero, List.set_cons_succ]
  refine wpAnyH_take (i := 17) (oi := _) (v := ?_) rfl (by kernel_rfl) (by kernel_rfl) (by kernel_rfl) (fun _ _ _ h => h) (Or.inl ⟨by rfl, ?_⟩) (by assumption) ?_
  rotate_left
  · intro w9 hSw
    go_simp
    try with_reducible rfl
  try simp only [Act.put, List.setIfInBounds_toArray, List.set_cons_zero, List.set_cons_succ]
  refine wpAnyH_take (i := 19) (oi := _) (v := ?_) rfl (by kernel_rfl) (by kernel_rfl) (by kernel_rfl) (fun _ _ _ h => h) (Or.inl ⟨by rfl, ?_⟩) (by assumption) ?_
  rotate_left
  · intro w9 hSw
    go_simp
    try with_reducible rfl
  try simp only [Act.put, List.setIfInBounds_toArray, List.set_cons_zero, List.set_cons_succ]
  refine wpAnyH_ready (rs := [1]) (by kernel_rfl) (by simp) ?_
  refine AllReadyH.cons (o := _) rfl (fun K hK => ?_) ?_
  rotate_left
  · exact AllReadyH.nil
  go_simp
  refine (unhide M1 _ (unhide HBW _ (Below.refl _ _).drew)).mono ?_
  rintro ev z1 ⟨rfl, j1⟩
  go_wp2_with fail
  have b1 : Below W7.heap.size W7 z1 := (Below.refl _ _).drew.trans j1
  clear hHeld
  refine hK.out _ _ ?_ (fun hHeld => ?_)
  · exact unhide HSX _ b1
  clear hK K
  try simp only [Act.put, List.setIfInBounds_toArray, List.set_cons_zero, List.set_cons_succ]
  refine wpAnyH_ready (rs := [3]) (by kernel_rfl) (by simp) ?_
  refine AllReadyH.cons (o := _) rfl (fun K hK => ?_) ?_
  rotate_left
  · exact AllReadyH.nil
  go_simp
  refine (unhide M2 _ (unhide HBW _ b1)).mono ?_
  rintro ev z2 ⟨rfl, j2⟩
  go_wp2_with fail
  have b2 : Below W7.heap.size W7 z2 := b1.trans (j2.mono b1.size)
  clear hHeld
  refine hK.out _ _ ?_ (fun hHeld => ?_)
  · exact unhide HSX _ b2
  clear hK K
  try simp only [Act.put, List.setIfInBounds_toArray, List.set_cons_zero, List.set_cons_succ]
  refine wpAnyH_ready (rs := [5]) (by kernel_rfl) (by simp) ?_
  refine AllReadyH.cons (o := _) rfl (fun K hK => ?_) ?_
  rotate_left
  · exact AllReadyH.nil
  go_simp
  refine (unhide M3 _ (unhide HBW _ b2)).mono ?_
  rintro ev z3 ⟨⟨xo, xc, rfl, hra⟩, j3⟩
  go_wp2_with fail
  have b3 : Below W7.heap.size W7 z3 := b2.trans (j3.mono b2.size)
  clear hHeld
  refine hK.out _ _ ?_ (fun hHeld => ?_)
  · exact unhide HSX _ b3
  clear hK K
  try simp only [Act.put, List.setIfInBounds_toArray, List.set_cons_zero, List.set_cons_succ]
  refine wpAnyH_ready (rs := [7]) (by kernel_rfl) (by simp) ?_
  refine AllReadyH.cons (o := _) rfl (fun K hK => ?_) ?_
  rotate_left
  · exact AllReadyH.nil
  go_simp
  refine (unhide M4 _ (unhide HBW _ b3)).mono ?_
  rintro ev z4 ⟨rfl, j4⟩
  go_wp2_with fail
  have b4 : Below W7.heap.size W7 z4 := b3.trans (j4.mono b3.size)
  clear hHeld
  refine hK.out _ _ ?_ (fun hHeld => ?_)
  · exact unhide HSX _ b4
  clear hK K
  try simp only [Act.put, List.setIfInBounds_toArray, List.set_cons_zero, List.set_cons_succ]
  refine wpAnyH_ready (rs := [9]) (by kernel_rfl) (by simp) ?_
  refine AllReadyH.cons (o := _) rfl (fun K hK => ?_) ?_
  rotate_left
  · exact AllReadyH.nil
  go_simp
  refine (unhide M5 _ (unhide HBW _ b4)).mono ?_
  rintro ev z5 ⟨rfl, j5⟩
  go_wp2_with fail
  have b5 : Below W7.heap.size W7 z5 := b4.trans (j5.mono b4.size)
  clear hHeld
  refine hK.out _ _ ?_ (fun hHeld => ?_)
  · exact unhide HSX _ b5
  clear hK K
  try simp only [Act.put, List.setIfInBounds_toArray, List.set_cons_zero, List.set_cons_succ]
  refine wpAnyH_ready (rs := [11]) (by kernel_rfl) (by simp) ?_
  refine AllReadyH.cons (o := _) rfl (fun K hK => ?_) ?_
  rotate_left
  · exact AllReadyH.nil
  go_simp
  refine (unhide M6 _ (unhide HBW _ b5)).mono ?_
  rintro ev z6 ⟨rfl, j6⟩
  go_wp2_with fail
  have b6 : Below W7.heap.size W7 z6 := b5.trans (j6.mono b5.size)
  clear hHeld
  refine hK.out _ _ ?_ (fun hHeld => ?_)
  · exact unhide HSX _ b6
  clear hK K
  try simp only [Act.put, List.setIfInBounds_toArray, List.set_cons_zero, List.set_cons_succ]
  refine wpAnyH_ready (rs := [14]) (by kernel_rfl) (by simp) ?_
  refine AllReadyH.cons (o := _) rfl (fun K hK => ?_) ?_
  rotate_left
  · exact AllReadyH.nil
  go_simp
  refine (unhide M7 _ (unhide HBW _ b6)).mono ?_
  rintro ev z7 ⟨rfl, j7⟩
  go_wp2_with fail
  have b7 : Below W7.heap.size W7 z7 := b6.trans (j7.mono b6.size)
  clear hHeld
  refine hK.out _ _ ?_ (fun hHeld => ?_)
  · exact unhide HSX _ b7
  clear hK K
  try simp only [Act.put, List.setIfInBounds_toArray, List.set_cons_zero, List.set_cons_succ]
  refine wpAnyH_ready (rs := [16]) (by kernel_rfl) (by simp) ?_
  refine AllReadyH.cons (o := _) rfl (fun K hK => ?_) ?_
  rotate_left
  · exact AllReadyH.nil
  go_simp
  refine (unhide M8 _ (unhide HBW _ b7)).mono ?_
  rintro ev z8 ⟨rfl, j8⟩
  go_wp2_with fail
  have b8 : Below W7.heap.size W7 z8 := b7.trans (j8.mono b7.size)
  clear hHeld
  refine hK.out _ _ ?_ (fun hHeld => ?_)
  · exact unhide HSX _ b8
  clear hK K
  try simp only [Act.put, List.setIfInBounds_toArray, List.set_cons_zero, List.set_cons_succ]
  refine wpAnyH_ready (rs := [18]) (by kernel_rfl) (by simp) ?_
  refine AllReadyH.cons (o := _) rfl (fun K hK => ?_) ?_
  rotate_left
  · exact AllReadyH.nil
  go_simp
  refine (unhide M9 _ (unhide HBW _ b8)).mono ?_
  rintro ev z9 ⟨rfl, j9⟩
  go_wp2_with fail
  have b9 : Below W7.heap.size W7 z9 := b8.trans (j9.mono b8.size)
  clear hHeld
  refine hK.out _ _ ?_ (fun hHeld => ?_)
  · exact unhide HSX _ b9
  clear hK K
  try simp only [Act.put, List.setIfInBounds_toArray, List.set_cons_zero, List.set_cons_succ]
  refine wpAnyH_ready (rs := [20]) (by kernel_rfl) (by simp) ?_
  refine AllReadyH.cons (o := _) rfl (fun K hK => ?_) ?_
  rotate_left
  · exact AllReadyH.nil
  go_simp
  refine (unhide MA _ (unhide HBW _ b9)).mono ?_
  rintro ev z10 ⟨rfl, j10⟩
  go_wp2_with fail
  have b10 : Below W7.heap.size W7 z10 := b9.trans (j10.mono b9.size)
  clear hHeld
  refine hK.out _ _ ?_ (fun hHeld => ?_)
  · exact unhide HSX _ b10
  clear hK K
  try simp only [Act.put, List.setIfInBounds_toArray, List.set_cons_zero, List.set_cons_succ]
  refine wpAnyH_take (i := 21) (oi := { dst := some 34, op := _, type := _, pos := _, after := _, guard := none }) (v := ?_) rfl (by kernel_rfl) (by kernel_rfl) (by kernel_rfl) (fun _ _ _ h => h) (Or.inl ⟨by rfl, ?_⟩) (by assumption) ?_
  rotate_left
  · intro w9 hSw
    go_simp
    try with_reducible rfl
  try simp only [Act.put, List.setIfInBounds_toArray, List.set_cons_zero, List.set_cons_succ]
  refine wpAnyH_take (i := 22) (oi := { dst := some 35, op := _, type := _, pos := _, after := _, guard := none }) (v := ?_) rfl (by kernel_rfl) (by kernel_rfl) (by kernel_rfl) (fun _ _ _ h => h) (Or.inl ⟨by rfl, ?_⟩) (by assumption) ?_
  rotate_left
  · intro w9 hSw
    go_simp
    try with_reducible rfl
  try simp only [Act.put, List.setIfInBounds_toArray, List.set_cons_zero, List.set_cons_succ]
  refine wpAnyH_ready (rs := [23]) (by kernel_rfl) (by simp) ?_
  refine AllReadyH.cons (o := { dst := none, op := Op.store 37 (Operand.tmp 2) (Operand.tmp 35), type := _, pos := _, after := _, guard := none }) rfl (fun K hK => ?_) ?_
  rotate_left
  · exact AllReadyH.nil
  refine step_storeT (by rfl) _ _ _ (by rfl) w.heap.size #[.int .i64 er, .int .i64 dO, .slice xo apps.length xc, .int .i64 cnt, .int .i64 lst, .int .i64 lft, .string f.id, .slice f.apo f.apps.length f.apc, .string s134, .string s135, .string s136, .string s137, .int .i64 f.ways.x, .int .i64 f.ways.y, .slice f.ways.listo f.ways.list.length f.ways.listc, .int .i64 f.md, .int .i64 f.mo, .int .i64 f.mf, .slice f.ro f.row.length f.rc, .int .i64 knd, .int .i64 rcn, .string s141, .string s142, .string s143] (by rfl) (by rfl) _ _ (unhide HXR z10 b10) infoAn rfl (one24 rfl) ?_
  refine hK.out _ _ ?_ (fun hHeld2 => ?_)
  · rw [setRow_otherT (unhide HNE)]; exact unhide HSX _ b10
  clear hK K
  try simp only [Act.put, List.setIfInBounds_toArray, List.set_cons_zero, List.set_cons_succ]
  refine wpAnyH_done (by kernel_rfl) ?_ _
  refine NoPanic.normal ?_
  clear hHeld hHeld2
  have hX := unhide HXR z10 b10
  have hn := nob24
  have h72 : Below y2.heap.size y2 z10 := (unhide HB7).trans (b10.mono (unhide HB7).size)
  have h0 := (unhide HFO).below h72
  have h1 : FlOK z10 { f with isig := s134, irest := s135, csig := s136, crest := s137 } := ⟨h0.idz, h0.apps, h0.ways, h0.row, h0.nums, h0.len, h0.md, h0.mo, h0.mf⟩
  have h310 : Below z3.heap.size z3 z10 := belowTr (belowTr (belowTr (belowTr (belowTr (belowTr j4 j5) j6) j7) j8) j9) j10
  obtain ⟨r1, r2, r3, r4, r5, r6, r7⟩ := unhide HRN
  have hB0 : Below w.heap.size w z10 := (unhide HB1).trans ((unhide HBW z10 b10).mono (unhide HB1).size)
  have f2 : AnOK (z10.setRow w.heap.size #[.int .i64 er, .int .i64 dO, .slice xo apps.length xc, .int .i64 cnt, .int .i64 lst, .int .i64 lft, .string f.id, .slice f.apo f.apps.length f.apc, .string s134, .string s135, .string s136, .string s137, .int .i64 f.ways.x, .int .i64 f.ways.y, .slice f.ways.listo f.ways.list.length f.ways.listc, .int .i64 f.md, .int .i64 f.mo, .int .i64 f.mf, .slice f.ro f.row.length f.rc, .int .i64 knd, .int .i64 rcn, .string s141, .string s142, .string s143]) ⟨er, dO, xo, apps, xc, cnt, lst, lft, { f with isig := s134, irest := s135, csig := s136, crest := s137 }, knd, rcn, s141, s142, s143⟩ := ⟨rowApp_setT (hra.below h310) hX hn, flOK_setT h1 hX hn (unhide HFRO), r1, r2, r3, r4, r5, r6, r7⟩
  have HF2 := hide f2; have HF3 := hide (setRow_belowT (cs := #[.int .i64 er, .int .i64 dO, .slice xo apps.length xc, .int .i64 cnt, .int .i64 lst, .int .i64 lft, .string f.id, .slice f.apo f.apps.length f.apc, .string s134, .string s135, .string s136, .string s137, .int .i64 f.ways.x, .int .i64 f.ways.y, .slice f.ways.listo f.ways.list.length f.ways.listc, .int .i64 f.md, .int .i64 f.mo, .int .i64 f.mf, .slice f.ro f.row.length f.rc, .int .i64 knd, .int .i64 rcn, .string s141, .string s142, .string s143]) hB0 (Nat.le_refl _)); have HHX := hide hX
  clear f2 hX hn h72 h0 h1 h310 r1 r2 r3 r4 r5 r6 r7 hB0
  go_wp2
  refine bodyPost_ret (v := .agg #[.int .i64 er, .int .i64 dO, .slice xo apps.length xc, .int .i64 cnt, .int .i64 lst, .int .i64 lft, .string f.id, .slice f.apo f.apps.length f.apc, .string s134, .string s135, .string s136, .string s137, .int .i64 f.ways.x, .int .i64 f.ways.y, .slice f.ways.listo f.ways.list.length f.ways.listc, .int .i64 f.md, .int .i64 f.mo, .int .i64 f.mf, .slice f.ro f.row.length f.rc, .int .i64 knd, .int .i64 rcn, .string s141, .string s142, .string s143]) (results_cell_row rfl _ _ w.heap.size 37 _ (0, 0) _ rfl (setRow_heap _ _ _ _ _ _ (unhide HHX)) Tryz.underlying37 rfl infoAn) rfl ⟨⟨⟨er, dO, xo, apps, xc, cnt, lst, lft, { f with isig := s134, irest := s135, csig := s136, crest := s137 }, knd, rcn, s141, s142, s143⟩, rfl, unhide HF2, ?_, unhide HFRO⟩, unhide HF3⟩
  rw [← unhide HFS]
  rfl
end Go.Proofs.YtfpglpefofcdeaaGreatDoor
