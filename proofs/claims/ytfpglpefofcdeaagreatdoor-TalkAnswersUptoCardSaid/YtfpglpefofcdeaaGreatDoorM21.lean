/- What was heard: ways. -/
import Derived.Test.YtfpglpefofcdeaaGreatDoorM20
import Derived.Deep.RegionLaw
import Derived.Deep.AppendLies
namespace Go.Proofs.YtfpglpefofcdeaaGreatDoor
open Go.RowKit
set_option linter.unusedVariables false
set_option linter.unusedSimpArgs false
set_option maxRecDepth 100000

/-- ways, out of bytes -/
def wayU : List UInt8 → List XWay
  | a :: b :: c :: r => ⟨(a.toNat : Int), (b.toNat : Int), ((c.toNat : Int) == 1)⟩ :: wayU r
  | _ => []
def wayX (s : ByteArray) : Int := if s.size < 16 then 0 else readV (s.extract 0 8)
def wayY (s : ByteArray) : Int := if s.size < 16 then 0 else readV (s.extract 8 16)
def wayZ (s : ByteArray) : List XWay := if s.size < 16 then [] else wayU (s.data.toList.drop 16)
def wayC : List XWay → List Value
  | [] => []
  | x :: l => [.int .i64 x.code, .int .i64 x.when, .bool x.next] ++ wayC l
theorem wayC_snoc (l : List XWay) (x : XWay) : wayC (l ++ [x]) = wayC l ++ [.int .i64 x.code, .int .i64 x.when, .bool x.next] := by
  induction l with
  | nil => rfl
  | cons y l ih => simp [wayC, ih]
theorem infoWayT : (Tryz.prog.info? 86).map (fun i => (i.zero, i.size, i.bytes)) = some (some (.agg #[.int .i64 0, .int .i64 0, .bool false]), 3, 24) := by kernel_rfl
theorem wayU_short {l : List UInt8} (h : l.length < 3) : wayU l = [] := by
  match l, h with
  | [], _ => rfl
  | [_], _ => rfl
  | [_, _], _ => rfl
theorem own_monoT {w : World} {base base' : Nat} {e : TypeId} {size : Nat} {v : Value} {n : Nat} {xs : List Value} (h : w.ownsRow base e size v n xs) (hb : base' ≤ base) : w.ownsRow base' e size v n xs := by
  rcases h with ⟨h1, h2⟩
  refine ⟨h1, ?_⟩
  rcases h2 with h2 | ⟨g, cap, cur, h3, h4, h5⟩
  · exact .inl h2
  · exact .inr ⟨g, cap, cur, h3, Nat.le_trans hb h4, h5⟩
set_option maxHeartbeats 4000000 in
theorem waysOf_any (s : ByteArray) (w : World) (hs : s.size ≤ 65535) :
    Calls Tryz.prog 95 #[.string s] w fun e w' => (∃ v, e = .returned (.agg #[.int .i64 (wayX s), .int .i64 (wayY s), v]) ∧ w'.ownsRow w.heap.size 86 3 v (wayZ s).length (wayC (wayZ s))) ∧ Below w.heap.size w w' := by
  unfold wayX wayY wayZ
  by_cases h : s.size < 16
  · rw [if_pos h, if_pos h, if_pos h]
    have HB := hide (fun o : Obj => (Below.refl w.heap.size w).alloc (Nat.le_refl _) o)
    have t1 : (s.size : Int) < 16 := by omega
    clear h
    go_enter Tryz.func95, Tryz.ntmps95
    go_wp2
    exact bodyPost_ret (v := .agg #[.int .i64 0, .int .i64 0, .slice none 0 0]) (by simp [results, Tryz.results95, go_sem]) rfl ⟨⟨_, rfl, World.ownsRow_nil _ _ _ _⟩, unhide HB _⟩
  rw [if_neg h, if_neg h, if_neg h]
  obtain ⟨i0, hi, hz0, hz1, hz2⟩ := info_parts infoWayT
  have t1 : ¬ (s.size : Int) < 16 := by omega
  have hsi : 16 ≤ (s.size : Int) := by omega
  have n0 := fun w => tnumber_any (s.extract 0 8) w (by rw [ByteArray.size_extract]; unfold maxLen; omega)
  have hsl0 : ∀ wx, (Instr.slice 9 (.string s) none (some (.int .i64 8)) none).run Tryz.prog wx = .ok (.string (s.extract 0 8)) wx := fun wx => run_slice_string_h (P := Tryz.prog) wx 9 s Tryz.underlying9 .i64 8 (by omega) (by omega)
  have n1 := fun w => tnumber_any (s.extract 8 16) w (by rw [ByteArray.size_extract]; unfold maxLen; omega)
  have hsl1 : ∀ wx, (Instr.slice 9 (.string s) (some (.int .i64 8)) (some (.int .i64 16)) none).run Tryz.prog wx = .ok (.string (s.extract 8 16)) wx := fun wx => run_slice_string (P := Tryz.prog) wx 9 s .i64 .i64 8 16 Tryz.underlying9 (by omega) (by omega) (by omega)
  have hsl2 : ∀ wx, (Instr.slice 9 (.string s) (some (.int .i64 16)) none none).run Tryz.prog wx = .ok (.string (s.extract 16 s.size)) wx := fun wx => run_slice_string_l (P := Tryz.prog) wx 9 s Tryz.underlying9 .i64 16 (by omega) (by omega)
  have HD : Hid ((s.extract 16 s.size).data.toList = s.data.toList.drop 16) := hide (drop_extract s 16)
  have hz : (s.extract 16 s.size).size ≤ 65535 := by rw [ByteArray.size_extract]; omega
  generalize readV (s.extract 0 8) = v0 at *
  generalize readV (s.extract 8 16) = v1 at *
  generalize s.extract 0 8 = p0 at *
  generalize s.extract 8 16 = p1 at *
  generalize s.extract 16 s.size = p2 at *
  obtain ⟨T, hT⟩ : ∃ T, T = wayU (s.data.toList.drop 16) := ⟨_, rfl⟩
  rw [← hT]
  have HT : Hid (T = wayU p2.data.toList) := hide (by rw [unhide HD]; exact hT)
  have N0 := hide n0; have N1 := hide n1; have HI := hide hi; have Z0 := hide hz0; have Z1 := hide hz1; have Z2 := hide hz2; have HPZ := hide hz
  obtain ⟨W2, hW2⟩ : ∃ W2, W2 = (w.alloc (.cells #[.int .i64 0, .int .i64 0, .slice none 0 0] 28)).alloc (.cells #[.int .i64 v0, .int .i64 v1, .slice none 0 0] 28) := ⟨_, rfl⟩
  have hB2 : Below w.heap.size w W2 := by rw [hW2]; exact ((Below.refl _ _).alloc (Nat.le_refl _) _).alloc (by simp) _
  have hX2 : W2.heap[w.heap.size + 1]? = some (.cells #[.int .i64 v0, .int .i64 v1, .slice none 0 0] 28) := by
    rw [hW2]
    have := heap_alloc_new (w.alloc (.cells #[.int .i64 0, .int .i64 0, .slice none 0 0] 28)) (.cells #[.int .i64 v0, .int .i64 v1, .slice none 0 0] 28)
    rwa [show (w.alloc (.cells #[.int .i64 0, .int .i64 0, .slice none 0 0] 28)).heap.size = w.heap.size + 1 by simp] at this
  have hX1 : W2.heap[w.heap.size]? = some (.cells #[.int .i64 0, .int .i64 0, .slice none 0 0] 28) := by
    rw [hW2]; exact (Below.heap_alloc _ _ _ (by simp)).trans (heap_alloc_new _ _)
  have HB2 := hide hB2; have HX2 := hide hX2; have HX1 := hide hX1; have HW2 := hide hW2
  clear n0 n1 h hs hi hz0 hz1 hz2 hz hT hW2 hB2 hX2 hX1
  go_enter Tryz.func95, Tryz.ntmps95
  go_upto_region 3 with fail
  go_cut [3] (fun v3 wx => v3 = .pointer (some ⟨w.heap.size + 1, 0, none⟩) ∧ wx = W2.drew)
  case first =>
    go_wp2_with fail
    go_region_held3 (fun _ => True) (exact trivial)
      ((first | (go_at_call_of 98 (Value.string p0); refine (unhide N0 _).mono ?_; rintro e y0 ⟨rfl, hy⟩; subst hy) | (go_at_call_of 98 (Value.string p1); refine (unhide N1 _).mono ?_; rintro e y1 ⟨rfl, hy⟩; subst hy)))
    all_goals
      go_wp2_with fail
      go_meet
      exact ⟨rfl, by rw [unhide HW2]⟩
  case rest =>
  obtain ⟨rfl, hwc⟩ := hcut
  rw [hwc]
  clear hwc
  go_wp2
  go_loopw [0] (fun sv wx => ∃ (t : ByteArray) (l : List XWay) (v : Value), sv = .string t ∧ t.size + 3 * l.length ≤ 65535 ∧ T = l ++ wayU t.data.toList ∧ wx.heap[w.heap.size + 1]? = some (.cells #[.int .i64 v0, .int .i64 v1, v] 28) ∧ wx.heap[w.heap.size]? = some (.cells #[.int .i64 0, .int .i64 0, .slice none 0 0] 28) ∧ wx.ownsRow (w.heap.size + 2) 86 3 v l.length (wayC l) ∧ Below w.heap.size w wx) (fun sv _ => match sv with | .string t => t.size | _ => 0)
  case atStart => exact ⟨p2, [], _, rfl, by have := unhide HPZ; simpa using this, unhide HT, unhide HX2, unhide HX1, World.ownsRow_nil _ _ _ _, (unhide HB2).drew⟩
  case round =>
    obtain ⟨t, l, v, rfl, hz, hTl, hx2, hx1, ho, hbw⟩ := hrel
    have c2 : wr.cell? ⟨w.heap.size + 1, 2, none⟩ = some v := cell_of_row _ _ 2 _ _ _ hx2
    have hsz2 : w.heap.size + 1 < wr.heap.size := block_ltQ hx2
    obtain ⟨⟨ta, tc, rfl⟩, hne⟩ : (∃ ta tc, v = .slice ta l.length tc) ∧ some (w.heap.size + 1) ≠ v.ownBlock ∧ some w.heap.size ≠ v.ownBlock := by
      rcases ho.2 with ⟨h1, h2⟩ | ⟨g, cap, cur, h1, hB, _⟩
      · refine ⟨⟨none, 0, by rw [h1, h2]⟩, ?_⟩
        rw [h1]; simp [Value.ownBlock]
      · refine ⟨⟨_, cap, h1⟩, ?_⟩
        rw [h1]; simp [Value.ownBlock]; omega
    by_cases h3 : t.size < 3
    · have h3i : ¬ 3 ≤ (t.size : Int) := by omega
      rw [wayU_short (by rw [Array.length_toList]; exact h3), List.append_nil] at hTl
      have c0 : wr.cell? ⟨w.heap.size + 1, 0, none⟩ = some (.int .i64 v0) := cell_of_row _ _ 0 _ _ _ hx2
      have c1 : wr.cell? ⟨w.heap.size + 1, 1, none⟩ = some (.int .i64 v1) := cell_of_row _ _ 1 _ _ _ hx2
      have d0 : wr.cell? ⟨w.heap.size, 0, none⟩ = some (.int .i64 0) := cell_of_row _ _ 0 _ _ _ hx1
      have d1 : wr.cell? ⟨w.heap.size, 1, none⟩ = some (.int .i64 0) := cell_of_row _ _ 1 _ _ _ hx1
      have d2 : wr.cell? ⟨w.heap.size, 2, none⟩ = some (.slice none 0 0) := cell_of_row _ _ 2 _ _ _ hx1
      have f0 : wr.frozen? ⟨w.heap.size, 0, none⟩ = false := frozen_of_row _ _ 0 _ _ hx1
      have f1 : wr.frozen? ⟨w.heap.size, 1, none⟩ = false := frozen_of_row _ _ 1 _ _ hx1
      have f2 : wr.frozen? ⟨w.heap.size, 2, none⟩ = false := frozen_of_row _ _ 2 _ _ hx1
      have hs1 := set_rowQ (j := 0) (v := .int .i64 v0) hx1
      have hs2 := set_rowQ (j := 1) (v := .int .i64 v1) hs1
      have hs3 := set_rowQ (j := 2) (v := .slice ta l.length tc) hs2
      have hres : (((wr.setCell ⟨w.heap.size, 0, none⟩ (.int .i64 v0)).setCell ⟨w.heap.size, 1, none⟩ (.int .i64 v1)).setCell ⟨w.heap.size, 2, none⟩ (.slice ta l.length tc)).heap[w.heap.size]? = some (.cells #[.int .i64 v0, .int .i64 v1, .slice ta l.length tc] 28 (0, 0)) := hs3
      have hown := own_monoT (owns_setQ (j := 2) (u := .slice ta l.length tc) (owns_setQ (j := 1) (u := .int .i64 v1) (owns_setQ (j := 0) (u := .int .i64 v0) ho (show w.heap.size < w.heap.size + 2 by omega)) (show w.heap.size < w.heap.size + 2 by omega)) (show w.heap.size < w.heap.size + 2 by omega)) (show w.heap.size ≤ w.heap.size + 2 by omega)
      have hbz := ((hbw.setCell (p := ⟨w.heap.size, 0, none⟩) (Nat.le_refl _) (.int .i64 v0)).setCell (p := ⟨w.heap.size, 1, none⟩) (Nat.le_refl _) (.int .i64 v1)).setCell (p := ⟨w.heap.size, 2, none⟩) (Nat.le_refl _) (.slice ta l.length tc)
      subst hTl
      have HRES := hide hres; have HOWN := hide hown; have HBZ := hide hbz
      clear hs1 hs2 hs3 hres hown hbz ho hbw hx2 hx1 hne hz h3
      go_wp2
      refine bodyPost_ret (v := .agg #[.int .i64 v0, .int .i64 v1, .slice ta T.length tc]) ?_ rfl ⟨⟨_, rfl, unhide HOWN⟩, unhide HBZ⟩
      have z := unhide HRES
      have z0 := cell_of_row _ _ 0 _ _ _ z
      have z1 := cell_of_row _ _ 1 _ _ _ z
      have z2 := cell_of_row _ _ 2 _ _ _ z
      clear z HRES HOWN HBZ
      generalize ((wr.setCell ⟨w.heap.size, 0, none⟩ (.int .i64 v0)).setCell ⟨w.heap.size, 1, none⟩ (.int .i64 v1)).setCell ⟨w.heap.size, 2, none⟩ (.slice ta T.length tc) = W9 at *
      simp at z0 z1 z2
      simp [results, Tryz.results95, go_sem, z0, z1, z2]
    · obtain ⟨a, b, c, r, hl⟩ : ∃ a b c r, t.data.toList = a :: b :: c :: r := by
        have h5 : 3 ≤ t.data.toList.length := by rw [Array.length_toList]; show 3 ≤ t.size; omega
        match hq : t.data.toList, h5 with
        | a :: b :: c :: r, _ => exact ⟨a, b, c, r, rfl⟩
      have h3i : 3 ≤ (t.size : Int) := by omega
      have b0 : ∀ wx, (Instr.index 9 (.string t) (.int .i64 0)).run Tryz.prog wx = .ok (.int .u8 a.toNat) wx := fun wx => byte_run t 0 a (by rw [hl]; rfl) wx
      have b1 : ∀ wx, (Instr.index 9 (.string t) (.int .i64 1)).run Tryz.prog wx = .ok (.int .u8 b.toNat) wx := fun wx => byte_run t 1 b (by rw [hl]; rfl) wx
      have b2 : ∀ wx, (Instr.index 9 (.string t) (.int .i64 2)).run Tryz.prog wx = .ok (.int .u8 c.toNat) wx := fun wx => byte_run t 2 c (by rw [hl]; rfl) wx
      have hsl : ∀ wx, (Instr.slice 9 (.string t) (some (.int .i64 3)) none none).run Tryz.prog wx = .ok (.string (t.extract 3 t.size)) wx := fun wx => run_slice_string_l (P := Tryz.prog) wx 9 t Tryz.underlying9 .i64 3 (by omega) (by omega)
      have hex : (t.extract 3 t.size).data.toList = r := by rw [drop_extract, hl]; rfl
      have hes : (t.extract 3 t.size).size = t.size - 3 := by rw [ByteArray.size_extract]; omega
      have ha := a.toNat_lt; have hb' := b.toNat_lt; have hc := c.toNat_lt
      have hT2 : T = l ++ [⟨(a.toNat : Int), (b.toNat : Int), ((c.toNat : Int) == 1)⟩] ++ wayU (t.extract 3 t.size).data.toList := by
        rw [hTl, hl, hex]
        simp [wayU]
      have hz2 : (t.extract 3 t.size).size + 3 * (l ++ [(⟨(a.toNat : Int), (b.toNat : Int), ((c.toNat : Int) == 1)⟩ : XWay)]).length ≤ 65535 := by rw [hes, List.length_append, List.length_singleton]; omega
      have hms : (t.extract 3 t.size).size < t.size := by omega
      have hll : l.length ≤ 30000 := by omega
      generalize t.extract 3 t.size = t2 at *
      obtain ⟨an, han⟩ : ∃ an : Int, an = (a.toNat : Int) := ⟨_, rfl⟩
      obtain ⟨bn, hbn⟩ : ∃ bn : Int, bn = (b.toNat : Int) := ⟨_, rfl⟩
      obtain ⟨cn, hcn⟩ : ∃ cn : Int, cn = (c.toNat : Int) := ⟨_, rfl⟩
      rw [← han] at b0 hT2 hz2
      rw [← hbn] at b1 hT2 hz2
      rw [← hcn] at b2 hT2 hz2
      have han2 : 0 ≤ an ∧ an ≤ 255 := by omega
      have hbn2 : 0 ≤ bn ∧ bn ≤ 255 := by omega
      have w1 : IntKind.i64.wrap an = an := by rw [IntKind.wrap_i64]; omega
      have w2 : IntKind.i64.wrap bn = bn := by rw [IntKind.wrap_i64]; omega
      have HO := hide ho; have HB := hide hbw; have HX2' := hide hx2; have HX1' := hide hx1; have HNE := hide hne; have HT2 := hide hT2; have HZ2 := hide hz2; have HMS := hide hms; have HLL := hide hll
      clear ho hbw hx2 hx1 hne hT2 hz2 hms hll hTl hl hex hes ha hb' hc han hbn hcn hz h3
      have HNB : Hid (((wr.alloc (.cells #[.int .i64 an, .int .i64 bn, .bool (cn == 1)] 86)).drew).heap[wr.heap.size]? = some (.cells #[.int .i64 an, .int .i64 bn, .bool (cn == 1)] 86)) := hide (heap_alloc_new wr _)
      go_upto_region 7 with fail
      go_wp2_with fail
      go_region_law ((refine step_append_lies _ (by rfl) _ _ _ (by rfl) (w.heap.size + 2) 86 i0 _ 3 24 Tryz.underlying26 (unhide HI) (unhide Z0) (unhide Z1) (unhide Z2) rfl (by omega) _ _ _ (by rfl) ((unhide HO).alloc _).drew ⟨wr.heap.size, 0, none⟩ 1 1 [.int .i64 an, .int .i64 bn, .bool (cn == 1)] (by rfl) (by rfl) (World.news_of_block (unhide HNB)) (by simp [Value.oneCell']) (by omega) (by have := unhide HLL; unfold maxLen; omega) (by have := unhide HLL; omega) (by simp; omega) (wr.heap.size + 1) (by simp) ?_; intro g3 cap3 w3 own3 hgrow hat3 hlt3; have k2 := (hgrow.block _ (by simp; omega) (unhide HNE).1).trans ((Below.heap_alloc wr _ _ hsz2).trans (unhide HX2')); have q2 : w3.cell? ⟨w.heap.size + 1, 2, none⟩ = some (.slice ta l.length tc) := cell_of_row _ _ 2 _ _ _ k2; have qf : w3.frozen? ⟨w.heap.size + 1, 2, none⟩ = false := frozen_of_row _ _ 2 _ _ k2))
      all_goals
        have k1 := (hgrow.block w.heap.size (by simp; omega) (unhide HNE).2).trans ((Below.heap_alloc wr _ _ (by omega)).trans (unhide HX1'))
        have hb3 : Below w.heap.size w (w3.setCell ⟨w.heap.size + 1, 2, none⟩ (.slice (some ⟨g3, 0, none⟩) (l.length + 1) cap3)) := (((unhide HB).alloc (unhide HB).size _).drew.grown hgrow (by simp; omega) (fun q hq => by have := ((unhide HO).lt q hq).1; omega)).setCell (p := ⟨w.heap.size + 1, 2, none⟩) (Nat.le_succ _) _
        have k2' := set_rowQ (j := 2) (v := .slice (some ⟨g3, 0, none⟩) (l.length + 1) cap3) k2
        have k1' : (w3.setCell ⟨w.heap.size + 1, 2, none⟩ (.slice (some ⟨g3, 0, none⟩) (l.length + 1) cap3)).heap[w.heap.size]? = some (.cells #[.int .i64 0, .int .i64 0, .slice none 0 0] 28) := (Below.heap_setCell _ _ _ _ (by show w.heap.size ≠ w.heap.size + 1; omega)).trans k1
        have ho3 : (w3.setCell ⟨w.heap.size + 1, 2, none⟩ (.slice (some ⟨g3, 0, none⟩) (l.length + 1) cap3)).ownsRow (w.heap.size + 2) 86 3 (.slice (some ⟨g3, 0, none⟩) (l.length + 1) cap3) (l ++ [(⟨an, bn, (cn == 1)⟩ : XWay)]).length (wayC (l ++ [(⟨an, bn, (cn == 1)⟩ : XWay)])) := by
          rw [wayC_snoc, List.length_append]
          exact owns_setQ own3 (show w.heap.size + 1 < w.heap.size + 2 by omega)
        have HB3 := hide hb3; have HK2 := hide k2'; have HK1 := hide k1'; have HO3 := hide ho3
        clear hb3 k2' k1' ho3 k1 k2 q2 qf own3 hgrow hat3 hlt3
        go_wp2
        go_roundw
        case rel => exact ⟨t2, _, _, rfl, unhide HZ2, unhide HT2, unhide HK2, unhide HK1, unhide HO3, unhide HB3⟩
        case measure => exact unhide HMS
end Go.Proofs.YtfpglpefofcdeaaGreatDoor
