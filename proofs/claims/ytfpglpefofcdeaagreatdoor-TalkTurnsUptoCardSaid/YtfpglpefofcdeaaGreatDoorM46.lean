/- A file read, by the program. -/
import Derived.Test.YtfpglpefofcdeaaGreatDoorM45
import Derived.Test.YtfpglpefofcdeaaGreatDoorM16
import Derived.WalkKit
import Derived.Test.YtfpglpefofcdeaaGreatDoorM31
import Derived.Laws.AppendOwn
import Derived.Test.YtfpglpefofcdeaaGreatDoorM41
namespace Go.Proofs.YtfpglpefofcdeaaGreatDoor
open Go.RowKit
set_option linter.unusedVariables false
set_option linter.unusedSimpArgs false
set_option maxRecDepth 100000

/-- cells stored one by one: the whole row -/
theorem setCells_rowT (g : Nat) (t : TypeId) : ∀ (vs : List Value) (i : Nat) (cur : Array Value) (w : World), w.heap[g]? = some (.cells cur t (0, 0)) → i + vs.length = cur.size →
    w.setCells g i vs = w.setRow g (cur.toList.take i ++ vs).toArray
  | [], i, cur, w, hg, hl => by
    have e : cur.toList.take i = cur.toList := List.take_of_length_le (by simp at hl ⊢; omega)
    rw [List.append_nil, e, Array.toArray_toList, setRow_self w g cur t (0, 0) hg]
    rfl
  | v :: r, i, cur, w, hg, hl => by
    have hi : i < cur.size := by simp at hl; omega
    show (w.setCell ⟨g, i, none⟩ v).setCells g (i + 1) r = _
    rw [setCell_eq_setRow w g i cur t (0, 0) v hg,
      setCells_rowT g t r (i + 1) (cur.setIfInBounds i v) _ (setRow_heap w g cur _ t _ hg) (by simp at hl ⊢; omega), setRow_setRow]
    congr 2
    have e : (cur.setIfInBounds i v).toList.take (i + 1) = cur.toList.take i ++ [v] := by
      rw [Array.toList_setIfInBounds, List.take_add_one, List.take_set_of_le (Nat.le_refl _)]
      congr 1
      rw [List.getElem?_set_self (by simpa using hi)]
      rfl
    rw [e, List.append_assoc]
    rfl
theorem setCells_allT {g : Nat} {t : TypeId} {vs : List Value} {cur : Array Value} {w : World} (hg : w.heap[g]? = some (.cells cur t (0, 0))) (hl : vs.length = cur.size) : w.setCells g 0 vs = w.setRow g vs.toArray := by
  rw [setCells_rowT g t vs 0 cur w hg (by omega)]; rfl
theorem step_storeT {P : Program} {ops : Array Oper} {o : Oper} {a : Act} {w : World} {K : Act → World → Prop} {Q : Exit → Act → World → Prop} {E : Prop} (hw : Region.wanted o (yielded ops a.tmps) = true) (ty : TypeId) (x y : Operand) (ho : o.op = .store ty x y)
    (g : Nat) (cells : Array Value) (hx : a.eval x = .pointer (some ⟨g, 0, none⟩)) (hy : a.eval y = .agg cells) (t : TypeId) (old : Array Value) (hg : w.heap[g]? = some (.cells old t (0, 0))) (hi : (P.info? ty).map (·.size) = some cells.size)
    (hold : old.size = cells.size) (h1 : cells.all (·.oneCell') = true) (h : K (a.put o.dst undef) (w.setRow g cells)) :
    if Region.wanted o (yielded ops a.tmps) = true then Oper.wp P o a w K Q else E := by
  rw [if_pos hw]; exact wp_store_row ty x y ho g cells hx hy t old hg hi hold h1 h
theorem belowTr {a b c : World} (h : Below a.heap.size a b) (k : Below b.heap.size b c) : Below a.heap.size a c := h.trans (k.mono h.size)
theorem setRow_belowT {B g : Nat} {w w' : World} {cs : Array Value} (h : Below B w w') (hB : B ≤ g) : Below B w (w'.setRow g cs) :=
  ⟨h.os, h.tape, h.output, by simpa [World.setRow] using h.size, fun q hq => by
    rw [← h.block q hq]
    simp only [World.setRow]
    rw [Array.getElem?_modify, if_neg (by omega)]⟩
theorem setRow_otherT {g q : Nat} {w : World} {cs : Array Value} (h : q ≠ g) : (w.setRow g cs).heap[q]? = w.heap[q]? := by
  simp only [World.setRow]
  rw [Array.getElem?_modify, if_neg (by omega)]
theorem setRow_sizeT {g : Nat} {w : World} {cs : Array Value} : (w.setRow g cs).heap.size = w.heap.size := by simp [World.setRow]
theorem cell_setRowT {g : Nat} {w : World} {cs : Array Value} {p : Addr} (h : p.block ≠ g) : (w.setRow g cs).cell? p = w.cell? p := by
  unfold World.cell?
  rw [setRow_otherT h]
/-- cells without a truth among them -/
def NoB (old : Array Value) : Prop := ∀ (k : Nat) (b : Bool), old[k]? ≠ some (Value.bool b)
def isB : Value → Bool
  | .bool _ => true
  | _ => false
theorem noB_of {old : List Value} (h : old.all (fun v => !isB v) = true) : NoB old.toArray := fun k b hk => by
  have hm := Array.mem_of_getElem? hk
  have := List.all_eq_true.1 h _ (by simpa using hm)
  cases this
theorem rowApp_setT {w : World} {g : Nat} {cs old : Array Value} {t : TypeId} {fr : Nat × Nat} {ao : Option Addr} {l : List XApp} (h : RowApp w ao l) (hg : w.heap[g]? = some (.cells old t fr)) (hn : NoB old) : RowApp (w.setRow g cs) ao l := by
  obtain ⟨h, ho, hm⟩ := h
  refine ⟨?_, fun x hx => ho x hx, hm⟩
  cases l with
  | nil => exact .inl rfl
  | cons x r =>
    rcases h with h | ⟨b, off, e, hlt, hc⟩
    · cases h
    · have hb : b ≠ g := by
        rintro rfl
        have h3 := (hc 0 x rfl).2.2.2
        rw [cell_of_row _ _ _ _ _ _ hg] at h3
        exact hn _ _ h3
      refine .inr ⟨b, off, e, by rw [setRow_sizeT]; exact hlt, fun i y hy => ?_⟩
      obtain ⟨c0, c1, c2, c3⟩ := hc i y hy
      exact ⟨(cell_setRowT hb).trans c0, (cell_setRowT hb).trans c1, (cell_setRowT hb).trans c2, (cell_setRowT hb).trans c3⟩
theorem rowWay_setT {w : World} {g : Nat} {cs old : Array Value} {t : TypeId} {fr : Nat × Nat} {ao : Option Addr} {l : List XWay} (h : RowWay w ao l) (hg : w.heap[g]? = some (.cells old t fr)) (hn : NoB old) : RowWay (w.setRow g cs) ao l := by
  obtain ⟨h, ho, hm⟩ := h
  refine ⟨?_, fun x hx => ho x hx, hm⟩
  cases l with
  | nil => exact .inl rfl
  | cons x r =>
    rcases h with h | ⟨b, off, e, hlt, hc⟩
    · cases h
    · have hb : b ≠ g := by
        rintro rfl
        have h3 := (hc 0 x rfl).2.2
        rw [cell_of_row _ _ _ _ _ _ hg] at h3
        exact hn _ _ h3
      refine .inr ⟨b, off, e, by rw [setRow_sizeT]; exact hlt, fun i y hy => ?_⟩
      obtain ⟨c0, c1, c2⟩ := hc i y hy
      exact ⟨(cell_setRowT hb).trans c0, (cell_setRowT hb).trans c1, (cell_setRowT hb).trans c2⟩
theorem frow_setT {w : World} {g : Nat} {cs : Array Value} {ao : Option Addr} {l : List (Int × Int)} (h : FRow w ao l) (hb : ∀ p, ao = some p → g < p.block) : FRow (w.setRow g cs) ao l := by
  rcases h with h | ⟨b, off, e, hlt, hc⟩
  · exact .inl h
  · have hne : b ≠ g := fun h => by have := hb _ e; dsimp only at this; omega
    refine .inr ⟨b, off, e, by rw [setRow_sizeT]; exact hlt, fun i hi => ⟨(cell_setRowT hne).trans (hc i hi).1, (cell_setRowT hne).trans (hc i hi).2⟩⟩
theorem flOK_setT {w : World} {g : Nat} {cs old : Array Value} {t : TypeId} {fr : Nat × Nat} {f : Fl} (h : FlOK w f) (hg : w.heap[g]? = some (.cells old t fr)) (hn : NoB old) (hb : ∀ p, f.ro = some p → g < p.block) : FlOK (w.setRow g cs) f :=
  ⟨h.idz, rowApp_setT h.apps hg hn, rowWay_setT h.ways hg hn, frow_setT h.row hb, h.nums, h.len, h.md, h.mo, h.mf⟩
theorem ent_waysOf (args : Array Value) (w : World) : (callFunc 95 args).run Tryz.prog w = .ok (.enter 95 args) w := by kernel_rfl
theorem ent_masksOf (args : Array Value) (w : World) : (callFunc 96 args).run Tryz.prog w = .ok (.enter 96 args) w := by kernel_rfl
theorem infoFl : (Tryz.prog.info? 33).map (·.size) = some 13 := by kernel_rfl
theorem flC_one (f : Fl) : (flC f).all (·.oneCell') = true := by simp [flC, Value.oneCell']
theorem slice_ownT {w : World} {B : Nat} {v : Value} {l : List ByteArray} (h : w.ownsRow B 9 1 v l.length (rowT l)) : ∃ ao cap, v = .slice ao l.length cap := by
  rcases row_cellT h with ⟨rfl, hv⟩ | ⟨g, cap, hv, _, _⟩
  · exact ⟨_, _, hv⟩
  · exact ⟨_, _, hv⟩
set_option maxHeartbeats 4000000 in
theorem fileOf_no (s : ByteArray) (w : World) (hs : s.size ≤ 65535) (h : (cutR 65536 s).length ≠ 5) :
    Calls Tryz.prog 58 #[.string s] w fun e w' => e = .returned (.agg (flC flZ)) ∧ Below w.heap.size w w' := by
  obtain ⟨W1, hW1⟩ : ∃ W1, W1 = w.alloc (.cells #[.string ⟨#[]⟩, .slice none 0 0, .string ⟨#[]⟩, .string ⟨#[]⟩, .string ⟨#[]⟩, .string ⟨#[]⟩, .int .i64 0, .int .i64 0, .slice none 0 0, .int .i64 0, .int .i64 0, .int .i64 0, .slice none 0 0] 33) := ⟨_, rfl⟩
  have hB1 : Below w.heap.size w W1 := by rw [hW1]; exact (Below.refl _ _).alloc (Nat.le_refl _) _
  have hX1 : W1.heap[w.heap.size]? = some (.cells #[.string ⟨#[]⟩, .slice none 0 0, .string ⟨#[]⟩, .string ⟨#[]⟩, .string ⟨#[]⟩, .string ⟨#[]⟩, .int .i64 0, .int .i64 0, .slice none 0 0, .int .i64 0, .int .i64 0, .int .i64 0, .slice none 0 0] 33 (0, 0)) := by rw [hW1]; exact heap_alloc_new _ _
  have N1 := hide (cutRow_any s W1 hs)
  have t1 : (((cutR 65536 s).length : Int) != 5) = true := by simp; omega
  generalize cutR 65536 s = L at *
  have HB1 := hide hB1; have HX1 := hide hX1; have HW1 := hide hW1
  clear hs h hB1 hX1 hW1
  go_enter Tryz.func58, Tryz.ntmps58
  go_upto_region 1 with fail
  rw [← unhide HW1]
  go_wp2_with fail
  refine (unhide N1).mono ?_
  rintro e y1 ⟨⟨v, rfl, hrow⟩, k1⟩
  obtain ⟨ao, cap, rfl⟩ := slice_ownT hrow
  have x1 := (k1.block _ (block_ltQ (unhide HX1))).trans (unhide HX1)
  have HX2 := hide x1
  have HB2 := hide ((unhide HB1).trans (k1.mono (unhide HB1).size))
  clear hrow k1 x1 HB1 HX1 N1 HW1
  go_wp2_with (refine wpList_store_row rfl _ _ _ rfl w.heap.size (flC flZ) rfl rfl _ _ (unhide HX2) infoFl rfl (flC_one _) ?_)
  refine bodyPost_ret (v := .agg (flC flZ)) (results_cell_row rfl _ _ w.heap.size 33 (flC flZ) (0, 0) _ rfl (setRow_heap _ _ _ _ _ _ (unhide HX2)) Tryz.underlying33 rfl infoFl) rfl ⟨rfl, setRow_belowT (unhide HB2) (Nat.le_refl _)⟩
end Go.Proofs.YtfpglpefofcdeaaGreatDoor
namespace Go.Proofs.YtfpglpefofcdeaaGreatDoor
open Go.RowKit
set_option linter.unusedVariables false
set_option linter.unusedSimpArgs false
set_option maxRecDepth 100000

theorem nob13 : NoB #[Value.string ⟨#[]⟩, .slice none 0 0, .string ⟨#[]⟩, .string ⟨#[]⟩, .string ⟨#[]⟩, .string ⟨#[]⟩, .int .i64 0, .int .i64 0, .slice none 0 0, .int .i64 0, .int .i64 0, .int .i64 0, .slice none 0 0] := noB_of rfl
set_option maxHeartbeats 4000000 in
theorem fileOf_yes (s p0 p1 p2 p3 p4 : ByteArray) (w : World) (hs : s.size ≤ 65535) (h : cutR 65536 s = [p0, p1, p2, p3, p4]) :
    Calls Tryz.prog 58 #[.string s] w fun e w' => (∃ f, e = .returned (.agg (flC f)) ∧ FlOK w' f ∧ f.strip = flQ p0 p1 p2 p3 p4 ∧ ∀ p, f.ro = some p → w.heap.size < p.block) ∧ Below w.heap.size w w' := by
  have hle := cutR_le 65536 s
  rw [h] at hle
  have z0 : p0.size ≤ 65535 := Nat.le_trans (hle p0 (by simp)) hs
  have z1 : p1.size ≤ 65535 := Nat.le_trans (hle p1 (by simp)) hs
  have z2 : p2.size ≤ 65535 := Nat.le_trans (hle p2 (by simp)) hs
  have z3 : p3.size ≤ 65535 := Nat.le_trans (hle p3 (by simp)) hs
  have z4 : p4.size ≤ 65535 := Nat.le_trans (hle p4 (by simp)) hs
  obtain ⟨W1, hW1⟩ : ∃ W1, W1 = w.alloc (.cells #[.string ⟨#[]⟩, .slice none 0 0, .string ⟨#[]⟩, .string ⟨#[]⟩, .string ⟨#[]⟩, .string ⟨#[]⟩, .int .i64 0, .int .i64 0, .slice none 0 0, .int .i64 0, .int .i64 0, .int .i64 0, .slice none 0 0] 33) := ⟨_, rfl⟩
  have hB1 : Below w.heap.size w W1 := by rw [hW1]; exact (Below.refl _ _).alloc (Nat.le_refl _) _
  have hX1 : W1.heap[w.heap.size]? = some (.cells #[.string ⟨#[]⟩, .slice none 0 0, .string ⟨#[]⟩, .string ⟨#[]⟩, .string ⟨#[]⟩, .string ⟨#[]⟩, .int .i64 0, .int .i64 0, .slice none 0 0, .int .i64 0, .int .i64 0, .int .i64 0, .slice none 0 0] 33 (0, 0)) := by rw [hW1]; exact heap_alloc_new _ _
  have n1 := cutRow_any s W1 hs
  rw [h] at n1
  have N1 := hide n1
  have N2 := hide (fun W => pparse_any p1 W (by unfold maxLen; omega))
  have N3 := hide (fun W => parseF_any p4 W (by unfold maxLen; omega))
  have N4 := hide (fun W => waysOf_any p2 W z2)
  have N5 := hide (fun W => masksOf_any p3 W)
  have HWZ := hide (fun W => wayZ_ok W p2)
  have HPF := hide (parsed_okT p4.data.toList)
  have HMK : Hid (maskD p3 ≤ 9223372036854775807 ∧ maskO p3 ≤ 9223372036854775807 ∧ maskF p3 ≤ 9223372036854775807) := hide (by
    unfold maskD maskO maskF
    refine ⟨?_, ?_, ?_⟩ <;> split <;> first | exact (readV_bound _).2 | decide)
  unfold flQ
  generalize readsL p1 = apps at *
  generalize readsE p1 = ae at *
  generalize wayX p2 = wx at *
  generalize wayY p2 = wy at *
  generalize wayZ p2 = wl at *
  generalize maskD p3 = md at *
  generalize maskO p3 = mo at *
  generalize maskF p3 = mf at *
  generalize parsed p4.data.toList = row at *
  generalize parseE p4.data.toList = re at *
  have HZ := hide (show p0.size ≤ maxLen ∧ p2.size ≤ maxLen from ⟨by unfold maxLen; omega, by unfold maxLen; omega⟩)
  have HB1 := hide hB1; have HX1 := hide hX1; have HW1 := hide hW1
  clear hs h hB1 hX1 hW1 n1 hle z0 z1 z2 z3 z4
  go_enter Tryz.func58, Tryz.ntmps58
  go_upto_region 1 with fail
  rw [← unhide HW1]
  go_wp2_with fail
  refine (unhide N1).mono ?_
  rintro e y1 ⟨⟨v, rfl, hrow⟩, k1⟩
  rcases row_cellT hrow with ⟨hn, _⟩ | ⟨g, cap, hv, hg, hc⟩
  · cases hn
  have hv : v = .slice (some ⟨g, 0, none⟩) 5 cap := hv
  subst hv
  have c0 : y1.cell? ⟨g, 0, none⟩ = some (.string p0) := hc 0 p0 rfl
  have c1 : y1.cell? ⟨g, 1, none⟩ = some (.string p1) := hc 1 p1 rfl
  have c2 : y1.cell? ⟨g, 2, none⟩ = some (.string p2) := hc 2 p2 rfl
  have c3 : y1.cell? ⟨g, 3, none⟩ = some (.string p3) := hc 3 p3 rfl
  have c4 : y1.cell? ⟨g, 4, none⟩ = some (.string p4) := hc 4 p4 rfl
  have HC : Hid (∀ W, Below y1.heap.size y1 W → W.cell? ⟨g, 0, none⟩ = some (.string p0) ∧ W.cell? ⟨g, 1, none⟩ = some (.string p1) ∧ W.cell? ⟨g, 2, none⟩ = some (.string p2) ∧ W.cell? ⟨g, 3, none⟩ = some (.string p3) ∧ W.cell? ⟨g, 4, none⟩ = some (.string p4)) := hide (fun W hb =>
    ⟨(hb.cell (p := ⟨g, 0, none⟩) hg).trans c0, (hb.cell (p := ⟨g, 1, none⟩) hg).trans c1, (hb.cell (p := ⟨g, 2, none⟩) hg).trans c2, (hb.cell (p := ⟨g, 3, none⟩) hg).trans c3, (hb.cell (p := ⟨g, 4, none⟩) hg).trans c4⟩)
  have x1 := (k1.block _ (block_ltQ (unhide HX1))).trans (unhide HX1)
  have HX2 := hide (fun W (hb : Below y1.heap.size y1 W) => (hb.block _ (block_ltQ x1)).trans x1)
  have HLT := hide (block_ltQ x1)
  have HB2 := hide ((unhide HB1).trans (k1.mono (unhide HB1).size))
  clear hrow k1 x1 HB1 HX1 N1 HW1 hc
  go_wp2_with fail
  refine (unhide N2 _).mono ?_
  rintro e y2 ⟨⟨apo, apc, rfl, hra⟩, k2⟩
  have HRA := hide hra
  have HK2 := hide k2
  clear c0 c1 c2 c3 c4 hra k2 N2
  obtain ⟨c0, c1, c2, c3, c4⟩ := unhide HC y2 (unhide HK2)
  go_wp2_with fail
  refine (unhide N3 _).mono ?_
  rintro e y3 ⟨v3, rfl, hr3, k3⟩
  obtain ⟨ro, rc, rfl, hfr, hro⟩ := frow_ownT hr3
  have HRO : Hid (∀ p, ro = some p → w.heap.size < p.block) := hide (fun p hp => by
    have h1 := hro p hp; have h2 := unhide HLT; have h3 := (unhide HK2).size
    omega)
  have HFR := hide hfr
  have HRA3 := hide ((unhide HRA).below k3)
  have HK3 := hide ((unhide HK2).trans (k3.mono (unhide HK2).size))
  clear c0 c1 c2 c3 c4 hr3 hfr hro k3 N3 HRA HK2
  obtain ⟨c0, c1, c2, c3, c4⟩ := unhide HC y3 (unhide HK3)
  go_upto_region 6 with fail
  go_wp2_with fail
  go_region_law ((first
    | (refine step_call1T (by rfl) 95 _ _ (by rfl) (.string p2) (by rfl) ent_waysOf (unhide N4 _) ?_; rintro ev z1 ⟨⟨v4, rfl, hr4⟩, j1⟩; obtain ⟨wo, wc, rfl, hrw⟩ := rowWay_own hr4 (unhide HWZ z1).1 (Nat.le_trans (unhide HWZ z1).2 (unhide HZ).2); refine ⟨_, rfl, ?_⟩; have j1' : Below y1.heap.size y1 z1 := ((unhide HK3).drew).trans (j1.mono (unhide HK3).size); obtain ⟨d0, d1, d2, d3, d4⟩ := unhide HC z1 j1')
    | (refine step_call1T (by rfl) 96 _ _ (by rfl) (.string p3) (by rfl) ent_masksOf (unhide N5 _) ?_; rintro ev z2 ⟨rfl, j2⟩; refine ⟨_, rfl, ?_⟩; have j2' : Below y1.heap.size y1 z2 := j1'.trans (j2.mono j1'.size); obtain ⟨e0, e1, e2, e3, e4⟩ := unhide HC z2 j2'; have hx2 := unhide HX2 z2 j2'; have q0 : z2.cell? ⟨w.heap.size, 0, none⟩ = some (.string ⟨#[]⟩) := cell_of_row _ _ 0 _ _ _ hx2; have q1 : z2.cell? ⟨w.heap.size, 1, none⟩ = some (.slice none 0 0) := cell_of_row _ _ 1 _ _ _ hx2; have q2 : z2.cell? ⟨w.heap.size, 2, none⟩ = some (.string ⟨#[]⟩) := cell_of_row _ _ 2 _ _ _ hx2; have q3 : z2.cell? ⟨w.heap.size, 3, none⟩ = some (.string ⟨#[]⟩) := cell_of_row _ _ 3 _ _ _ hx2; have q4 : z2.cell? ⟨w.heap.size, 4, none⟩ = some (.string ⟨#[]⟩) := cell_of_row _ _ 4 _ _ _ hx2; have q5 : z2.cell? ⟨w.heap.size, 5, none⟩ = some (.string ⟨#[]⟩) := cell_of_row _ _ 5 _ _ _ hx2; have q6 : z2.cell? ⟨w.heap.size, 6, none⟩ = some (.int .i64 0) := cell_of_row _ _ 6 _ _ _ hx2; have q7 : z2.cell? ⟨w.heap.size, 7, none⟩ = some (.int .i64 0) := cell_of_row _ _ 7 _ _ _ hx2; have q8 : z2.cell? ⟨w.heap.size, 8, none⟩ = some (.slice none 0 0) := cell_of_row _ _ 8 _ _ _ hx2; have q9 : z2.cell? ⟨w.heap.size, 9, none⟩ = some (.int .i64 0) := cell_of_row _ _ 9 _ _ _ hx2; have q10 : z2.cell? ⟨w.heap.size, 10, none⟩ = some (.int .i64 0) := cell_of_row _ _ 10 _ _ _ hx2; have q11 : z2.cell? ⟨w.heap.size, 11, none⟩ = some (.int .i64 0) := cell_of_row _ _ 11 _ _ _ hx2; have q12 : z2.cell? ⟨w.heap.size, 12, none⟩ = some (.slice none 0 0) := cell_of_row _ _ 12 _ _ _ hx2; have qf : ∀ o, z2.frozen? ⟨w.heap.size, o, none⟩ = false := fun o => frozen_of_row _ _ o _ _ hx2)
    | fail))
  all_goals
    have hX := unhide HX2 z2 j2'
    have hn := nob13
    have j13 : Below y3.heap.size y3 z1 := (Below.refl _ _).drew.trans j1
    have j23 : Below y3.heap.size y3 z2 := j13.trans (j2.mono j13.size)
    have hok : FlOK z2 ⟨p0, apo, apps, apc, ⟨#[]⟩, ⟨#[]⟩, ⟨#[]⟩, ⟨#[]⟩, ⟨wx, wy, wo, wl, wc⟩, md, mo, mf, ro, row, rc⟩ :=
      ⟨(unhide HZ).1, (unhide HRA3).below j23, hrw.below j2, (unhide HFR).below j23, (unhide HPF).2, by have := (unhide HPF).1; show (row.length : Int) ≤ _; omega, (unhide HMK).1, (unhide HMK).2.1, (unhide HMK).2.2⟩
    have hW : z2.setCells w.heap.size 0 [.string p0, .slice apo apps.length apc, .string ⟨#[]⟩, .string ⟨#[]⟩, .string ⟨#[]⟩, .string ⟨#[]⟩, .int .i64 wx, .int .i64 wy, .slice wo wl.length wc, .int .i64 md, .int .i64 mo, .int .i64 mf, .slice ro row.length rc] = z2.setRow w.heap.size #[.string p0, .slice apo apps.length apc, .string ⟨#[]⟩, .string ⟨#[]⟩, .string ⟨#[]⟩, .string ⟨#[]⟩, .int .i64 wx, .int .i64 wy, .slice wo wl.length wc, .int .i64 md, .int .i64 mo, .int .i64 mf, .slice ro row.length rc] := setCells_allT hX rfl
    have f1 : (z2.setCells w.heap.size 0 [.string p0, .slice apo apps.length apc, .string ⟨#[]⟩, .string ⟨#[]⟩, .string ⟨#[]⟩, .string ⟨#[]⟩, .int .i64 wx, .int .i64 wy, .slice wo wl.length wc, .int .i64 md, .int .i64 mo, .int .i64 mf, .slice ro row.length rc]).heap[w.heap.size]? = some (.cells #[.string p0, .slice apo apps.length apc, .string ⟨#[]⟩, .string ⟨#[]⟩, .string ⟨#[]⟩, .string ⟨#[]⟩, .int .i64 wx, .int .i64 wy, .slice wo wl.length wc, .int .i64 md, .int .i64 mo, .int .i64 mf, .slice ro row.length rc] 33 (0, 0)) := by rw [hW]; exact setRow_heap _ _ _ _ _ _ hX
    have f2 : FlOK (z2.setCells w.heap.size 0 [.string p0, .slice apo apps.length apc, .string ⟨#[]⟩, .string ⟨#[]⟩, .string ⟨#[]⟩, .string ⟨#[]⟩, .int .i64 wx, .int .i64 wy, .slice wo wl.length wc, .int .i64 md, .int .i64 mo, .int .i64 mf, .slice ro row.length rc]) ⟨p0, apo, apps, apc, ⟨#[]⟩, ⟨#[]⟩, ⟨#[]⟩, ⟨#[]⟩, ⟨wx, wy, wo, wl, wc⟩, md, mo, mf, ro, row, rc⟩ := by rw [hW]; exact flOK_setT hok hX hn (unhide HRO)
    have f3 : Below w.heap.size w (z2.setCells w.heap.size 0 [.string p0, .slice apo apps.length apc, .string ⟨#[]⟩, .string ⟨#[]⟩, .string ⟨#[]⟩, .string ⟨#[]⟩, .int .i64 wx, .int .i64 wy, .slice wo wl.length wc, .int .i64 md, .int .i64 mo, .int .i64 mf, .slice ro row.length rc]) := by rw [hW]; exact setRow_belowT ((unhide HB2).trans (j2'.mono (unhide HB2).size)) (Nat.le_refl _)
    have HF1 := hide f1; have HF2 := hide f2; have HF3 := hide f3
    clear f1 f2 f3 hW hX hok hx2
    go_wp2
    exact bodyPost_ret (v := .agg #[.string p0, .slice apo apps.length apc, .string ⟨#[]⟩, .string ⟨#[]⟩, .string ⟨#[]⟩, .string ⟨#[]⟩, .int .i64 wx, .int .i64 wy, .slice wo wl.length wc, .int .i64 md, .int .i64 mo, .int .i64 mf, .slice ro row.length rc]) (results_cell_row rfl _ _ w.heap.size 33 _ (0, 0) _ rfl (unhide HF1) Tryz.underlying33 rfl infoFl) rfl ⟨⟨⟨p0, apo, apps, apc, ⟨#[]⟩, ⟨#[]⟩, ⟨#[]⟩, ⟨#[]⟩, ⟨wx, wy, wo, wl, wc⟩, md, mo, mf, ro, row, rc⟩, rfl, unhide HF2, rfl, unhide HRO⟩, unhide HF3⟩
theorem fileOf_any (s : ByteArray) (w : World) (hs : s.size ≤ 65535) :
    Calls Tryz.prog 58 #[.string s] w fun e w' => (∃ f, e = .returned (.agg (flC f)) ∧ FlOK w' f ∧ f.strip = flP s ∧ ∀ p, f.ro = some p → w.heap.size < p.block) ∧ Below w.heap.size w w' := by
  unfold flP
  by_cases h : (cutR 65536 s).length = 5
  · obtain ⟨p0, p1, p2, p3, p4, h5⟩ := flL_five h
    rw [h5]
    exact fileOf_yes s p0 p1 p2 p3 p4 w hs h5
  · rw [flL_not h]
    refine (fileOf_no s w hs h).mono ?_
    rintro e w' ⟨rfl, hb⟩
    have r1 : RowApp w' none [] := ⟨.inl rfl, (fun x hx => by cases hx), Nat.zero_le _⟩
    have r2 : RowWay w' none [] := ⟨.inl rfl, (fun x hx => by cases hx), Nat.zero_le _⟩
    exact ⟨⟨flZ, rfl, ⟨Nat.zero_le _, r1, r2, .inl rfl, (fun f hf => by cases hf), by decide, by decide, by decide, by decide⟩, rfl, fun p hp => by cases hp⟩, hb⟩
end Go.Proofs.YtfpglpefofcdeaaGreatDoor
namespace Go.Proofs.YtfpglpefofcdeaaGreatDoor
open Go.RowKit
set_option linter.unusedVariables false

set_option maxRecDepth 1000000 in
theorem rparse_any (s : ByteArray) (w : World) (hs : s.size ≤ maxLen) :
    Calls Tryz.prog 63 #[.string s] w fun e w' => ∃ ao cap, e = .returned (.tuple #[.slice ao (parsesL s).length cap, .int .i64 (parsesE s)]) ∧ IRowA w' (fun b => w.heap.size ≤ b) 8 ao (parsesL s) ∧ Below w.heap.size w w' := by
  unfold maxLen at hs
  by_cases hb : 65535 < s.size
  · have h1 : parsesL s = [] := by unfold parsesL; rw [if_pos hb]
    have h2 : parsesE s = 2 := by unfold parsesE; rw [if_pos hb]
    rw [h1, h2]
    have t1 : decide (65535 < (s.size : Int)) = true := by simp; omega
    clear h1 h2
    go_enter Tryz.func63, Tryz.ntmps63
    go_wp2
    go_ret2
    exact ⟨none, 0, rfl, IRowA.nil _ _ _ _, Below.refl _ _⟩
  · have n1 := fun w => itemsOf_any 8 (Nat.le_refl _) (s.size + 1) s w (by omega) (by omega)
    have h1 : parsesL s = (parseD 8 s).getD [] := by unfold parsesL; rw [if_neg hb]
    have h2 : parsesE s = if (parseD 8 s).isSome then 0 else 1 := by unfold parsesE; rw [if_neg hb]
    rw [h1, h2]
    have hd : (9 : Int) - ((8 : Nat) : Int) = 1 := by omega
    rw [hd] at n1
    have t1 : decide (65535 < (s.size : Int)) = false := by simp; omega
    clear h1 h2 hd
    cases hp : parseD 8 s with
    | none =>
      unfold ItemsRet at n1
      rw [hp] at n1
      have N1 := hide n1
      clear n1 hp hb
      go_enter Tryz.func63, Tryz.ntmps63
      go_wp2_with fail
      refine (unhide N1 _).mono ?_
      rintro e w2 ⟨⟨v, rs, rfl, _, _, _⟩, hb2⟩
      go_wp2
      go_ret2
      first
        | exact ⟨none, 0, rfl, IRowA.nil _ _ _ _, hb2⟩
        | exact ⟨none, ⟨0, rfl⟩, IRowA.nil _ _ _ _, hb2⟩
    | some l =>
      have HP := hide hp
      have N1 := hide n1
      clear n1 hp hb
      go_enter Tryz.func63, Tryz.ntmps63
      go_wp2_with fail
      refine (unhide N1 _).mono ?_
      rintro e w2 ⟨hret, hb2⟩
      obtain ⟨ao, cap, rfl, hcap, hrow⟩ := items_row hret (unhide HP)
      have HW := hide hrow
      clear hrow hret
      go_wp2
      go_ret2
      first
        | exact ⟨ao, cap, rfl, unhide HW, hb2⟩
        | exact ⟨ao, ⟨cap, rfl⟩, unhide HW, hb2⟩
end Go.Proofs.YtfpglpefofcdeaaGreatDoor
namespace Go.Proofs.YtfpglpefofcdeaaGreatDoor
open Go.RowKit
set_option linter.unusedVariables false

/-- what one item more says of an application -/
def stepR (y : XApp) (z : It) : XApp :=
  if z.tag = 79 then { y with name := z.text } else if z.tag = 80 then { y with label := z.text }
  else if z.tag = 135 ∧ z.text.size = 1 then { y with prio := (byteAt z.text 0 % 128 : Nat), confirm := decide (127 < byteAt z.text 0) } else y
def zeroA : XApp := ⟨⟨#[]⟩, ⟨#[]⟩, 0, false⟩
/-- the application of an item, as the reference reads it -/
def appR (x : It) : XApp := x.list.foldl stepR zeroA
theorem appR_item (x : XApp) (hs : sizedA x) (h0 : 0 ≤ x.prio) (h1 : x.prio ≤ 15) : appR (itemI x) = x := by
  obtain ⟨nm, lb, pr, cf⟩ := x
  have hb := last_byte h0 h1
  have hsz : (strOfNums [lastN ⟨nm, lb, pr, cf⟩]).size = 1 := by rw [strOfNums_size]; rfl
  have hby : byteAt (strOfNums [lastN ⟨nm, lb, pr, cf⟩]) 0 = (lastN ⟨nm, lb, pr, cf⟩).toNat := byteAt_nums 0 _ rfl hb.1 hb.2
  simp only [appR, itemI, It.list, List.foldl_cons, List.foldl_nil, stepR, It.tag, It.text, zeroA]
  simp only [if_true, Int.reduceEq, if_false, false_and, hsz, and_self, hby]
  simp only at h0 h1
  have hl : lastN ⟨nm, lb, pr, cf⟩ = pr + (if cf = true then 128 else 0) := rfl
  rw [hl]
  congr 1
  · cases cf <;> simp <;> omega
  · cases cf <;> simp <;> omega
def cellsAQ (x : XApp) : List Value := [.string x.name, .string x.label, .int .i64 x.prio, .bool x.confirm]
def cellsLQ : List XApp → List Value
  | [] => []
  | x :: r => cellsAQ x ++ cellsLQ r
theorem cellsLQ_snoc (l : List XApp) (x : XApp) : cellsLQ (l ++ [x]) = cellsLQ l ++ cellsAQ x := by
  induction l with
  | nil => simp [cellsLQ]
  | cons y r ih => simp [cellsLQ, ih]
theorem cellsLQ_at (l : List XApp) (i : Nat) (x : XApp) (h : l[i]? = some x) : (cellsLQ l)[i * 4]? = some (.string x.name) ∧ (cellsLQ l)[i * 4 + 1]? = some (.string x.label) ∧ (cellsLQ l)[i * 4 + 2]? = some (.int .i64 x.prio) ∧ (cellsLQ l)[i * 4 + 3]? = some (.bool x.confirm) := by
  induction l generalizing i with
  | nil => simp at h
  | cons y r ih =>
    cases i with
    | zero =>
      obtain rfl : y = x := by simpa using h
      exact ⟨rfl, rfl, rfl, rfl⟩
    | succ i =>
      obtain ⟨h0, h1, h2, h3⟩ := ih i (by simpa using h)
      have e : ∀ j, (cellsLQ (y :: r))[(i + 1) * 4 + j]? = (cellsLQ r)[i * 4 + j]? := fun j => by
        rw [cellsLQ, List.getElem?_append_right (by simp [cellsAQ]; omega)]
        congr 1
        simp [cellsAQ]; omega
      exact ⟨(e 0).trans h0, (e 1).trans h1, (e 2).trans h2, (e 3).trans h3⟩
theorem rowApp_own {w : World} {B : Nat} {v : Value} {l : List XApp} (h : w.ownsRow B 90 4 v l.length (cellsLQ l)) (ho : ∀ x ∈ l, okApp w x) (hm : l.length ≤ maxLen) :
    ∃ ao cap, v = .slice ao l.length cap ∧ RowApp w ao l := by
  rcases h.2 with ⟨hv, hn⟩ | ⟨g, cap, cur, hv, hg, hh, _, _, _, htake⟩
  · exact ⟨none, 0, by rw [hv, hn], .inl (List.length_eq_zero_iff.1 hn), ho, hm⟩
  · refine ⟨_, cap, hv, .inr ⟨g, 0, rfl, block_ltQ hh, fun i x hx => ?_⟩, ho, hm⟩
    obtain ⟨h0, h1, h2, h3⟩ := cellsLQ_at l i x hx
    have hi : i < l.length := by
      rcases Nat.lt_or_ge i l.length with h | h
      · exact h
      · rw [List.getElem?_eq_none h] at hx; cases hx
    rw [← htake] at h0 h1 h2 h3
    rw [List.getElem?_take_of_lt (by omega)] at h0 h1 h2 h3
    rw [Nat.zero_add]
    exact ⟨by rw [cell_of_row _ _ _ _ _ _ hh, ← h0]; simp, by rw [cell_of_row _ _ _ _ _ _ hh, ← h1]; simp, by rw [cell_of_row _ _ _ _ _ _ hh, ← h2]; simp, by rw [cell_of_row _ _ _ _ _ _ hh, ← h3]; simp⟩
theorem alloc_keepQ {w : World} {g : Nat} {o o' : Obj} (h : w.heap[g]? = some o) : (w.alloc o').heap[g]? = some o := by
  rw [((Below.refl w.heap.size w).alloc (Nat.le_refl _) o').block g (block_ltQ h)]; exact h
/-- an application's cells in a block -/
def AppAt (w : World) (g : Nat) (y : XApp) : Prop := w.heap[g]? = some (.cells #[.string y.name, .string y.label, .int .i64 y.prio, .bool y.confirm] 90 (0, 0))
theorem AppAt.name {w : World} {g : Nat} {y : XApp} (h : AppAt w g y) (t : ByteArray) : AppAt (w.setCell ⟨g, 0, none⟩ (.string t)) g { y with name := t } := by
  have := set_rowQ (j := 0) (v := .string t) h
  exact this
theorem AppAt.label {w : World} {g : Nat} {y : XApp} (h : AppAt w g y) (t : ByteArray) : AppAt (w.setCell ⟨g, 1, none⟩ (.string t)) g { y with label := t } := by
  have := set_rowQ (j := 1) (v := .string t) h
  exact this
theorem AppAt.last {w : World} {g : Nat} {y : XApp} (h : AppAt w g y) (p : Int) (c : Bool) : AppAt ((w.setCell ⟨g, 2, none⟩ (.int .i64 p)).setCell ⟨g, 3, none⟩ (.bool c)) g { y with prio := p, confirm := c } := by
  have := set_rowQ (j := 3) (v := .bool c) (set_rowQ (j := 2) (v := .int .i64 p) h)
  exact this
theorem AppAt.alloc {w : World} {g : Nat} {y : XApp} (h : AppAt w g y) (o : Obj) : AppAt (w.alloc o) g y := alloc_keepQ h
theorem fold_size : ∀ (l : List It) (y : XApp), (l.foldl stepR y).name.size ≤ y.name.size + wt 1 l ∧ (l.foldl stepR y).label.size ≤ y.label.size + wt 1 l ∧ ((0 ≤ y.prio ∧ y.prio < 256) → 0 ≤ (l.foldl stepR y).prio ∧ (l.foldl stepR y).prio < 256)
  | [], y => ⟨Nat.le_add_right _ _, Nat.le_add_right _ _, fun h => h⟩
  | z :: r, y => by
    have hw : wt 1 (z :: r) = 1 + z.text.size + wt 1 r := by simp [wt]
    obtain ⟨a, b, c⟩ := fold_size r (stepR y z)
    rw [List.foldl_cons, hw]
    have h1 : (stepR y z).name.size ≤ y.name.size + z.text.size ∧ (stepR y z).label.size ≤ y.label.size + z.text.size ∧ ((0 ≤ y.prio ∧ y.prio < 256) → 0 ≤ (stepR y z).prio ∧ (stepR y z).prio < 256) := by
      unfold stepR
      split
      · exact ⟨Nat.le_add_left _ _, Nat.le_add_right _ _, fun h => h⟩
      · split
        · exact ⟨Nat.le_add_right _ _, Nat.le_add_left _ _, fun h => h⟩
        · split
          · refine ⟨Nat.le_add_right _ _, Nat.le_add_right _ _, fun h => ?_⟩
            simp only
            omega
          · exact ⟨Nat.le_add_right _ _, Nat.le_add_right _ _, fun h => h⟩
    exact ⟨by omega, by omega, fun h => c (h1.2.2 h)⟩
theorem wt_one : ∀ (d : Nat) (l : List It), wt 1 l ≤ wt (d + 1) l
  | d, [] => by simp [wt]
  | d, x :: r => by
    have := wt_one d r
    simp only [wt, List.map_cons, List.sum_cons] at this ⊢
    omega
theorem appR_ok (d : Nat) (x : It) (W : World) (h : wt (d + 1) x.list ≤ 1048576) : okApp W (appR x) := by
  obtain ⟨a, b, c⟩ := fold_size x.list zeroA
  have h1 := wt_one d x.list
  obtain ⟨p, q⟩ := c ⟨by decide, by decide⟩
  have z1 : zeroA.name.size = 0 := rfl
  have z2 : zeroA.label.size = 0 := rfl
  refine ⟨?_, ?_, ?_⟩
  · show (x.list.foldl stepR zeroA).name.size ≤ maxLen
    unfold maxLen; omega
  · show (x.list.foldl stepR zeroA).label.size ≤ maxLen
    unfold maxLen; omega
  · show -9223372036854775808 ≤ (x.list.foldl stepR zeroA).prio ∧ (x.list.foldl stepR zeroA).prio ≤ 9223372036854775807
    generalize (x.list.foldl stepR zeroA).prio = z at *
    omega
/-- what is read -/
theorem reads_same (s : ByteArray) : readA appR s = readA (appP 7) s := readA_same appR_item appP_item s
end Go.Proofs.YtfpglpefofcdeaaGreatDoor
namespace Go.Proofs.YtfpglpefofcdeaaGreatDoor
open Go.RowKit
set_option linter.unusedVariables false

/-- the text of a tag within the one item of a list, as the reference reads it -/
def getR (t : Int) (D : List It) : ByteArray := match D with
  | [x] => if x.tag = 161 then (x.list.findSome? (hasI t)).getD ⟨#[]⟩ else ⟨#[]⟩
  | _ => ⟨#[]⟩
theorem getR_no {t : Int} {D : List It} (h : D.length ≠ 1) : getR t D = ⟨#[]⟩ := by
  match D, h with
  | [], _ => rfl
  | [x], h => exact absurd rfl h
  | x :: y :: r, _ => rfl
set_option maxRecDepth 100000 in
set_option maxHeartbeats 4000000 in
theorem rget_any (s : ByteArray) (t : Int) (w : World) (hs : s.size ≤ maxLen) :
    Calls Tryz.prog 28 #[.string s, .int .i64 161, .int .i64 t] w fun e w' => e = .returned (.string (getR t (parsesL s))) ∧ Below w.heap.size w w' := by
  have n1 := fun w => rparse_any s w hs
  have hwt := parses_wt s
  generalize parsesE s = pe at *
  generalize parsesL s = D at *
  have N1 := hide n1
  clear n1
  by_cases hl : D.length = 1
  case neg =>
    rw [getR_no hl]
    have t1 : ((D.length : Int) != 1) = true := by simp; omega
    generalize D.length = dl at *
    clear hl hwt hs
    go_enter Tryz.func28, Tryz.ntmps28
    go_wp2_with fail
    refine (unhide N1 _).mono ?_
    rintro e w1 ⟨ao, cap, rfl, _, hb1⟩
    go_wp2
    go_ret
    exact ⟨rfl, hb1⟩
  obtain ⟨x, rfl⟩ : ∃ x, D = [x] := by
    match D, hl with
    | [x], _ => exact ⟨x, rfl⟩
  have hR : getR t [x] = if x.tag = 161 then (x.list.findSome? (hasI t)).getD ⟨#[]⟩ else ⟨#[]⟩ := rfl
  have hwx : wt 7 x.list ≤ 65535 := by
    have h1 := wt_get (d := 7) (l := [x]) (i := 0) (x := x) rfl
    have h2 : wt (7 + 1) [x] ≤ 65535 := hwt
    omega
  have hxl : (x.list.length : Int) ≤ 65535 := by
    have h3 : x.list.length ≤ wt 7 x.list := wt_length (d := 6) x.list
    omega
  generalize getR t [x] = R at *
  clear hwt hs hl
  simp only [List.length_cons, List.length_nil, Nat.zero_add] at N1
  by_cases hx : x.tag = 161
  case neg =>
    rw [if_neg hx] at hR
    subst hR
    have t2 : (x.tag != 161) = true := by simpa using hx
    go_enter Tryz.func28, Tryz.ntmps28
    go_wp2_with fail
    refine (unhide N1 _).mono ?_
    rintro e w1 ⟨ao, cap, rfl, hrow, hb1⟩
    rcases IRowA.row 8 hrow with hn | ⟨b, off, rfl, hbl, hcl⟩
    · cases hn
    obtain ⟨co, cc, c0, c1, c2, _⟩ := hcl 0 x rfl
    simp only [Nat.zero_mul, Nat.add_zero] at c0 c1 c2
    clear hrow hcl
    go_wp2
    go_ret
    exact ⟨rfl, hb1⟩
  rw [if_pos hx] at hR
  have t2 : (x.tag != 161) = false := by simpa using hx
  have HR := hide hR
  clear hR hx
  go_enter Tryz.func28, Tryz.ntmps28
  go_wp2_with fail
  refine (unhide N1 _).mono ?_
  rintro e w1 ⟨ao, cap, rfl, hrow, hb1⟩
  rcases IRowA.row 8 hrow with hn | ⟨b, off, rfl, hbl, hcl⟩
  · cases hn
  obtain ⟨co, cc, c0, c1, c2, _, hco, _, _⟩ := hcl 0 x rfl
  simp only [Nat.zero_mul, Nat.add_zero] at c0 c1 c2
  generalize x.tag = tg at *
  generalize x.text = tx at *
  generalize x.list = xl at *
  have HCO := hide hco; have HB1 := hide hb1
  clear hrow hcl hco hb1 N1
  go_wp2
  go_loopw [32] (fun i wr => ∃ k : Nat, k ≤ xl.length ∧ i = .int .i64 k ∧ Hid ((xl.take k).findSome? (hasI t) = none) ∧ Below w1.heap.size w1 wr) (fun i _ => xl.length - (intOf i).toNat)
  case atStart => exact ⟨0, Nat.zero_le _, rfl, hide rfl, Below.refl _ _⟩
  case round =>
    obtain ⟨k, hk, rfl, HN, hbw⟩ := hrel
    clear c0 c1 c2
    by_cases hlt : k < xl.length
    · obtain ⟨z, hz⟩ : ∃ z, xl[k]? = some z := ⟨_, List.getElem?_eq_getElem hlt⟩
      have hki : (k : Int) < (xl.length : Int) := by omega
      rcases unhide HCO with hn | ⟨b2, off2, rfl, hbl2, hcl2⟩
      · rw [hn] at hlt; simp at hlt
      obtain ⟨co2, cc2, e0, e1, e2, _⟩ := hcl2 k z hz
      have d0 := (hbw.cell (p := ⟨b2, off2 + k * 3, none⟩) hbl2).trans e0
      have d1 := (hbw.cell (p := ⟨b2, off2 + k * 3 + 1, none⟩) hbl2).trans e1
      have d2 := (hbw.cell (p := ⟨b2, off2 + k * 3 + 2, none⟩) hbl2).trans e2
      have HY1 : Hid (z.tag = t → hasI t z = some z.text) := hide (fun h => by unfold hasI; rw [if_pos h])
      have HY2 : Hid (z.tag ≠ t → hasI t z = none) := hide (fun h => by unfold hasI; rw [if_neg h])
      have HX := hide (fun (h : hasI t z = none) => find_next hz (unhide HN) h)
      have HH := hide (fun (u : ByteArray) (h : hasI t z = some u) => find_here hz (unhide HN) h)
      obtain ⟨ztg, ztx, zl⟩ := z
      simp only [It.tag, It.text, It.list] at d0 d1 d2
      have HBW := hide hbw
      clear e0 e1 e2 hcl2 hz hbw HN
      by_cases hzt : ztg = t
      · have hf : R = ztx := by rw [unhide HR, unhide HH ztx (unhide HY1 hzt)]; rfl
        have HF := hide hf
        have tz : (ztg == t) = true := by simpa using hzt
        clear hf hzt
        go_wp2
        go_ret
        exact ⟨by rw [unhide HF]; rfl, (unhide HB1).trans (((unhide HBW).alloc (unhide HBW).size _).mono (unhide HB1).size)⟩
      · have HN2 := hide (unhide HX (unhide HY2 hzt))
        have tz : (ztg == t) = false := by simpa using hzt
        clear hzt
        go_wp2
        go_roundw
        case rel => exact ⟨k + 1, by omega, by go_num, hide (unhide HN2), (unhide HBW).alloc (unhide HBW).size _⟩
        case measure => simp [intOf]; omega
    · have hf : R = ⟨#[]⟩ := by
        have := unhide HN
        rw [List.take_of_length_le (by omega)] at this
        rw [unhide HR, this]; rfl
      have HF := hide hf
      have HBW := hide hbw
      clear hf hbw
      go_wp2
      go_ret
      exact ⟨by rw [unhide HF]; rfl, (unhide HB1).trans ((unhide HBW).mono (unhide HB1).size)⟩
/-- a number of a text, as the reference reads it -/
def numR (s : ByteArray) : Int := if 7 < s.size then -1 else valN s.data.toList
theorem valN_lt7 (s : ByteArray) (h : s.size ≤ 7) : valN s.data.toList ≤ 9223372036854775807 := by
  have h1 := valN_lt s.data.toList
  have h2 : s.data.toList.length ≤ 7 := by simpa using h
  have h3 : 256 ^ s.data.toList.length ≤ 256 ^ 7 := Nat.pow_le_pow_right (by decide) h2
  have h4 : (256 : Nat) ^ 7 = 72057594037927936 := by decide
  omega
set_option maxHeartbeats 1000000 in
theorem rnum_any (s : ByteArray) (w : World) :
    Calls Tryz.prog 29 #[.string s] w fun e w' => e = .returned (.int .i64 (numR s)) ∧ w' = w := by
  by_cases h : 7 < s.size
  · have hR : numR s = -1 := by unfold numR; rw [if_pos h]
    rw [hR]
    have t1 : (7 : Int) < (s.size : Int) := by omega
    clear hR h
    go_enter Tryz.func29, Tryz.ntmps29
    go_wp2
    go_ret
    exact ⟨rfl, rfl⟩
  · have hR : numR s = valN s.data.toList := by unfold numR; rw [if_neg h]
    rw [hR]
    have n1 := fun w => value_any s w (by omega) (valN_lt7 s (by omega))
    have t1 : ¬ (7 : Int) < (s.size : Int) := by omega
    generalize valN s.data.toList = v at *
    have N1 := hide n1
    clear n1 hR h
    go_enter Tryz.func29, Tryz.ntmps29
    go_wp2_with fail
    refine (unhide N1 _).mono ?_
    rintro e w1 ⟨rfl, rfl⟩
    go_wp2
    go_ret
    exact ⟨rfl, rfl⟩
end Go.Proofs.YtfpglpefofcdeaaGreatDoor
