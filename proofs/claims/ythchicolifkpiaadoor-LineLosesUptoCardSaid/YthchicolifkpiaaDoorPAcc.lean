/- The program's end: a piece that was awaited is taken. -/
import Derived.Test.YthchicolifkpiaaDoorPTake
import Derived.BigRegion
import Derived.Test.YthchicolifkpiaaDoorRHear
namespace Go.Proofs.YthchicolifkpiaaDoor
open Go.RowKit Go.Lib
set_option linter.unusedVariables false

/-- the part is replaced -/
theorem PAt.part {w w' : World} {b base : Nat} {T : List ByteArray} {arr turn pause aw arr' turn' pause' aw' : Int} {owed owed' : Bool} {part part' : ByteArray} {lost lost' : Bool} {got : List ByteArray} {tv pv gv pv' : Value} (h : PAt w b base T arr turn pause aw owed part lost got tv pv gv)
    (hb : EndAt w' b tv arr' turn' pause' aw' owed' pv' lost' gv) (ho : w'.ownsRow base 5 1 pv' part'.size (strCells part')) (hk : ∀ q, q < w.heap.size → q ≠ b → some q ≠ pv.ownBlock → w'.heap[q]? = w.heap[q]?) (hat : ∀ q, pv'.ownBlock = some q → pv.ownBlock = some q ∨ w.heap.size ≤ q) :
    PAt w' b base T arr' turn' pause' aw' owed' part' lost' got tv pv' gv where
  blk := hb
  lo := h.lo
  ot := slot_kept h.ot fun q hq => hk q (h.ot.lt q hq).2 (fun e => h.nt (e ▸ hq)) (fun e => h.tp q hq e.symm)
  op := ho
  og := slot_kept h.og fun q hq => hk q (h.og.lt q hq).2 (fun e => h.ng (e ▸ hq)) (fun e => h.pg q e.symm hq)
  nt := h.nt
  np := fun e => (hat b e).elim h.np (fun hx => by have := h.lt; omega)
  ng := h.ng
  tp := fun q hq e => (hat q e).elim (h.tp q hq) (fun hx => by have := (h.ot.lt q hq).2; omega)
  tg := h.tg
  pg := fun q e hq => (hat q e).elim (fun hx => h.pg q hx hq) (fun hx => by have := (h.og.lt q hq).2; omega)
/-- what was got is replaced -/
theorem PAt.gots {w w' : World} {b base : Nat} {T : List ByteArray} {arr turn pause aw arr' turn' pause' aw' : Int} {owed owed' : Bool} {part : ByteArray} {lost lost' : Bool} {got got' : List ByteArray} {tv pv gv gv' : Value} (h : PAt w b base T arr turn pause aw owed part lost got tv pv gv)
    (hb : EndAt w' b tv arr' turn' pause' aw' owed' pv lost' gv') (ho : w'.ownsRow base 9 1 gv' got'.length (cellsT got')) (hk : ∀ q, q < w.heap.size → q ≠ b → some q ≠ gv.ownBlock → w'.heap[q]? = w.heap[q]?) (hat : ∀ q, gv'.ownBlock = some q → gv.ownBlock = some q ∨ w.heap.size ≤ q) :
    PAt w' b base T arr' turn' pause' aw' owed' part lost' got' tv pv gv' where
  blk := hb
  lo := h.lo
  ot := slot_kept h.ot fun q hq => hk q (h.ot.lt q hq).2 (fun e => h.nt (e ▸ hq)) (fun e => h.tg q hq e.symm)
  op := slot_kept h.op fun q hq => hk q (h.op.lt q hq).2 (fun e => h.np (e ▸ hq)) (fun e => h.pg q hq e.symm)
  og := ho
  nt := h.nt
  np := h.np
  ng := fun e => (hat b e).elim h.ng (fun hx => by have := h.lt; omega)
  tp := h.tp
  tg := fun q hq e => (hat q e).elim (h.tg q hq) (fun hx => by have := (h.ot.lt q hq).2; omega)
  pg := fun q hq e => (hat q e).elim (h.pg q hq) (fun hx => by have := (h.op.lt q hq).2; omega)
/-- the texts are replaced -/
theorem PAt.texts {w w' : World} {b base : Nat} {T T' : List ByteArray} {arr turn pause aw arr' turn' pause' aw' : Int} {owed owed' : Bool} {part : ByteArray} {lost lost' : Bool} {got : List ByteArray} {tv pv gv tv' : Value} (h : PAt w b base T arr turn pause aw owed part lost got tv pv gv)
    (hb : EndAt w' b tv' arr' turn' pause' aw' owed' pv lost' gv) (ho : w'.ownsRow base 9 1 tv' T'.length (cellsT T')) (hk : ∀ q, q < w.heap.size → q ≠ b → some q ≠ tv.ownBlock → w'.heap[q]? = w.heap[q]?) (hat : ∀ q, tv'.ownBlock = some q → tv.ownBlock = some q ∨ w.heap.size ≤ q) :
    PAt w' b base T' arr' turn' pause' aw' owed' part lost' got tv' pv gv where
  blk := hb
  lo := h.lo
  ot := ho
  op := slot_kept h.op fun q hq => hk q (h.op.lt q hq).2 (fun e => h.np (e ▸ hq)) (fun e => h.tp q e.symm hq)
  og := slot_kept h.og fun q hq => hk q (h.og.lt q hq).2 (fun e => h.ng (e ▸ hq)) (fun e => h.tg q e.symm hq)
  nt := fun e => (hat b e).elim h.nt (fun hx => by have := h.lt; omega)
  np := h.np
  ng := h.ng
  tp := fun q e hq => (hat q e).elim (fun hx => h.tp q hx hq) (fun hx => by have := (h.op.lt q hq).2; omega)
  tg := fun q e hq => (hat q e).elim (fun hx => h.tg q hx hq) (fun hx => by have := (h.og.lt q hq).2; omega)
  pg := h.pg

/-- what an accepted piece makes of it -/
def accP (part : ByteArray) (lost m : Bool) (b : ByteArray) : ByteArray := if m then partN part lost b else ByteArray.empty
def accL (part : ByteArray) (lost m : Bool) (b : ByteArray) : Bool := if m then lostN part lost b else false
def accG (part : ByteArray) (lost m : Bool) (got : List ByteArray) (b : ByteArray) : List ByteArray := if m then got else if lostN part lost b then got else got ++ [partN part lost b]
theorem strCells_append (a b : ByteArray) : strCells (a ++ b) = strCells a ++ strCells b := by simp [strCells, ByteArray.data_append]
theorem nine_cells {w : World} {g : Nat} {a0 a1 a2 a3 a4 a5 a6 a7 a8 : Value} {e : TypeId} (h : w.heap[g]? = some (.cells #[a0, a1, a2, a3, a4, a5, a6, a7, a8] e)) :
    (w.cell? ⟨g, 4, none⟩ = some a4 ∧ w.cell? ⟨g, 5, none⟩ = some a5 ∧ w.cell? ⟨g, 6, none⟩ = some a6 ∧ w.cell? ⟨g, 7, none⟩ = some a7 ∧ w.cell? ⟨g, 8, none⟩ = some a8) ∧
    w.frozen? ⟨g, 4, none⟩ = false ∧ w.frozen? ⟨g, 5, none⟩ = false ∧ w.frozen? ⟨g, 6, none⟩ = false ∧ w.frozen? ⟨g, 7, none⟩ = false ∧ w.frozen? ⟨g, 8, none⟩ = false :=
  ⟨⟨(cell_of_row _ _ 4 _ _ _ h).trans rfl, (cell_of_row _ _ 5 _ _ _ h).trans rfl, (cell_of_row _ _ 6 _ _ _ h).trans rfl, (cell_of_row _ _ 7 _ _ _ h).trans rfl, (cell_of_row _ _ 8 _ _ _ h).trans rfl⟩,
    frozen_of_row _ _ 4 _ _ h, frozen_of_row _ _ 5 _ _ h, frozen_of_row _ _ 6 _ _ h, frozen_of_row _ _ 7 _ _ h, frozen_of_row _ _ 8 _ _ h⟩
theorem own_slice {w : World} {base : Nat} {e : TypeId} {size : Nat} {v : Value} {n : Nat} {xs : List Value} (h : w.ownsRow base e size v n xs) : ∃ a c, v = .slice a n c := by
  rcases h.2 with ⟨h1, h2⟩ | ⟨g, cap, cur, h1, _⟩
  · exact ⟨none, 0, by rw [h1, h2]⟩
  · exact ⟨_, cap, h1⟩
theorem grown_drew {w w' : World} {r : Option Nat} (h : w.drew.grownBy w' r) : w.grownBy w' r := ⟨h.os, h.tape, h.output, h.size, h.block⟩
theorem PAt.drew {w : World} {b base : Nat} {T : List ByteArray} {arr turn pause aw : Int} {owed : Bool} {part : ByteArray} {lost : Bool} {got : List ByteArray} {tv pv gv : Value} (h : PAt w b base T arr turn pause aw owed part lost got tv pv gv) : PAt w.drew b base T arr turn pause aw owed part lost got tv pv gv := ⟨h.blk, h.lo, h.ot, h.op, h.og, h.nt, h.np, h.ng, h.tp, h.tg, h.pg⟩
theorem inp_refl {b : Nat} {tv pv gv : Value} {H : Nat} : ∀ q, InP b tv pv gv q → InP b tv pv gv q ∨ H ≤ q := fun q h => .inl h
theorem inp_part {b : Nat} {tv pv gv pv' : Value} {H : Nat} (h : ∀ q, pv'.ownBlock = some q → pv.ownBlock = some q ∨ H ≤ q) : ∀ q, InP b tv pv' gv q → InP b tv pv gv q ∨ H ≤ q := by
  rintro q (hq | hq | hq | hq)
  · exact .inl (.inl hq)
  · exact .inl (.inr (.inl hq))
  · exact (h q hq).elim (fun hx => .inl (.inr (.inr (.inl hx)))) .inr
  · exact .inl (.inr (.inr (.inr hq)))
theorem inp_got {b : Nat} {tv pv gv pv' gv' : Value} {H : Nat} (h0 : ∀ q, InP b tv pv' gv q → InP b tv pv gv q ∨ H ≤ q) (h : ∀ q, gv'.ownBlock = some q → gv.ownBlock = some q ∨ H ≤ q) : ∀ q, InP b tv pv' gv' q → InP b tv pv gv q ∨ H ≤ q := by
  rintro q (hq | hq | hq | hq)
  · exact .inl (.inl hq)
  · exact .inl (.inr (.inl hq))
  · exact h0 q (.inr (.inr (.inl hq)))
  · exact (h q hq).elim (fun hx => .inl (.inr (.inr (.inr hx)))) .inr
theorem inp_nil {b : Nat} {tv pv gv pv' gv' : Value} {H : Nat} (h0 : ∀ q, InP b tv pv' gv' q → InP b tv pv gv q ∨ H ≤ q) : ∀ q, InP b tv (.slice none 0 0) gv' q → InP b tv pv gv q ∨ H ≤ q := by
  rintro q (hq | hq | hq | hq)
  · exact h0 q (.inl hq)
  · exact h0 q (.inr (.inl hq))
  · cases hq
  · exact h0 q (.inr (.inr (.inr hq)))
theorem strOfNums_back (s : ByteArray) : strOfNums (s.data.toList.map fun c => (c.toNat : Int)) = s := by
  apply ByteArray.ext
  apply Array.toList_inj.1
  rw [strOfNums_data, List.map_map]
  conv => rhs; rw [← List.map_id s.data.toList]
  apply List.map_congr_left
  intro b _
  simp
theorem conv_own {w : World} {base : Nat} {v : Value} {s : ByteArray} (h : w.ownsRow base 5 1 v s.size (strCells s)) : (convert 42 9 v).run Tryd.prog w = .ok (.string s) w := by
  rcases h.2 with ⟨rfl, h2⟩ | ⟨g, cap, cur, rfl, _⟩
  · have e : s = ByteArray.empty := ByteArray.ext (Array.eq_empty_of_size_eq_zero h2)
    rw [e]
    exact run_convert_bytes_nil (P := Tryd.prog) w 42 5 Tryd.underlying42 Tryd.underlying5 0 0 9 Tryd.underlying9
  · have hc := h.cells (g := g) rfl
    have := run_convert_bytes_arg (P := Tryd.prog) w 42 5 Tryd.underlying42 Tryd.underlying5 g 0 s.size cap (s.data.toList.map fun c => (c.toNat : Int)) (by rw [List.length_map, Array.length_toList]; rfl) (fun i hi => by
      have hx := hc i (.int .u8 (((s.data.toList.map fun c => (c.toNat : Int)).getD i 0))) (by
        have hi2 : i < s.data.toList.length := by rw [Array.length_toList]; exact hi
        rw [strCells, List.getElem?_map, List.getD_eq_getElem?_getD, List.getElem?_map, List.getElem?_eq_getElem hi2]
        rfl)
      rw [Addr.add_lit] at hx
      exact hx) 9 Tryd.underlying9
    rw [strOfNums_back] at this
    exact this
def accQ (w : World) (b base : Nat) (T : List ByteArray) (arr turn pause aw : Int) (owed : Bool) (part : ByteArray) (lost : Bool) (got : List ByteArray) (tv pv gv : Value) (e : Ending) (w' : World) : Prop :=
  e = .returned (.tuple #[]) ∧ ∃ pv' gv', PAt w' b base T arr turn pause aw owed part lost got tv pv' gv' ∧ KeepP (InP b tv pv gv) w w' ∧ (∀ q, InP b tv pv' gv' q → InP b tv pv gv q ∨ w.heap.size ≤ q)

set_option maxRecDepth 100000 in
set_option maxHeartbeats 4000000 in
theorem accept_any (w : World) (b base : Nat) (T : List ByteArray) (arr turn pause aw : Int) (owed : Bool) (part : ByteArray) (lost : Bool) (got : List ByteArray) (tv pv gv : Value) (t n : Int) (m h : Bool) (bd : ByteArray)
    (hP : PAt w b base T arr turn pause aw owed part lost got tv pv gv) (hb : base ≤ w.heap.size) (ha0 : 0 ≤ aw) (ha1 : aw ≤ 1) (hp : part.size ≤ 4096) (hd : bd.size ≤ 255) (hg : (got.length : Int) ≤ 1048576) :
    Calls Tryd.prog 28 #[.pointer (some ⟨b, 4, none⟩), blk t n m h bd] w (accQ w b base T arr turn pause (1 - aw) owed (accP part lost m bd) (accL part lost m bd) (accG part lost m got bd) tv pv gv) := by
  obtain ⟨i0, hi, hz0, hz1, hz2⟩ := info_parts' infoByte
  obtain ⟨i1, ki, kz0, kz1, kz2⟩ := info_parts' infoStr
  have hlt := hP.lt
  obtain ⟨W0, hW0⟩ : ∃ W0, W0 = w.alloc (.cells #[.int .i64 t, .int .i64 n, .bool m, .bool h, .string bd] 59) := ⟨_, rfl⟩
  have hB0 : Below w.heap.size w W0 := by rw [hW0]; exact (Below.refl _ _).alloc (Nat.le_refl _) _
  have hP0 := hP.below hB0
  have hX0 := heap_alloc_new w (.cells #[.int .i64 t, .int .i64 n, .bool m, .bool h, .string bd] 59)
  rw [← hW0] at hX0
  have hS0 : W0.heap.size = w.heap.size + 1 := by rw [hW0]; simp
  -- behind the first store
  obtain ⟨W1, hW1⟩ : ∃ W1, W1 = W0.setCell ⟨b, 4, none⟩ (.int .i64 (1 - aw)) := ⟨_, rfl⟩
  have hP1 : PAt W1 b base T arr turn pause (1 - aw) owed part lost got tv pv gv := by rw [hW1]; exact hP0.put ((set_row hP0.blk).trans rfl)
  have hX1 : W1.heap[w.heap.size]? = some (.cells #[.int .i64 t, .int .i64 n, .bool m, .bool h, .string bd] 59) := by rw [hW1, set_other (by omega)]; exact hX0
  have hK1 : KeepP (InP b tv pv gv) w W1 := by rw [hW1]; exact (KeepP.of_below hB0).set b 4 _ (.inl rfl)
  have hS1 : W1.heap.size = w.heap.size + 1 := by rw [hW1]; simpa using hS0
  obtain ⟨⟨c4, c5, c6, c7, c8⟩, e4, e5, e6, e7, e8⟩ := nine_cells hP0.blk
  have HW0 := hide hW0; have HW1 := hide hW1
  have hwb : b < W0.heap.size := by omega
  clear hW0 hW1
  go_enter Tryd.func28, Tryd.ntmps28
  go_upto_region 1 with fail
  rw [← unhide HW0]
  go_upto_region 2 with fail
  rw [← unhide HW1]
  clear c4 c5 c6 c7 c8 e4 e5 e6 e7 e8 hP0 hX0 hB0
  obtain ⟨⟨c4, c5, c6, c7, c8⟩, e4, e5, e6, e7, e8⟩ := nine_cells hP1.blk
  obtain ⟨⟨x0, x1, x2, x3, x4⟩, j0, j1, j2, j3, j4⟩ := five_cells hX1
  obtain ⟨pa, pc, rfl⟩ : ∃ pa pc, pv = .slice pa part.size pc := by
    rcases hP1.op.2 with ⟨h1, h2⟩ | ⟨g, cap, cur, h1, _⟩
    · exact ⟨none, 0, by rw [h1, h2]⟩
    · exact ⟨_, cap, h1⟩
  have HP1 := hide hP1; have HX1 := hide hX1; have HK1 := hide hK1; have HS1 := hide hS1; have HP := hide hP
  clear hP hP1 hX1 hK1 hS1 hS0
  obtain ⟨ln, hln⟩ : ∃ ln, ln = lostN part lost bd := ⟨_, rfl⟩
  have HLN := hide hln
  go_cut [] (fun wx => wx = (W1.setCell ⟨b, 7, none⟩ (.bool ln)).drew)
  case first =>
    cases lost with
    | true =>
      have hl2 : ln = true := by rw [hln]; rfl
      have HL2 := hide hl2
      clear hl2 hln
      go_region
      all_goals
        go_wp2_with fail
        go_meet
        rw [unhide HL2]
    | false =>
      by_cases hs : 4096 < part.size + bd.size
      · have hl2 : ln = true := by rw [hln, lostN, Bool.false_or]; exact decide_eq_true hs
        have hs' : (4096 : Int) < (part.size : Int) + (bd.size : Int) := by omega
        have HL2 := hide hl2
        clear hl2 hln hs
        go_region
        all_goals
          go_wp2_with fail
          go_meet
          rw [unhide HL2]
      · have hl2 : ln = false := by rw [hln, lostN, Bool.false_or]; exact decide_eq_false hs
        have hs' : ¬ (4096 : Int) < (part.size : Int) + (bd.size : Int) := by omega
        have hs2 : decide ((4096 : Int) < (part.size : Int) + (bd.size : Int)) = false := decide_eq_false hs'
        have HL2 := hide hl2
        clear hl2 hln hs
        go_region
        all_goals
          go_wp2_with fail
          go_meet
          rw [unhide HL2]
  case rest =>
  have hP2 : PAt wc b base T arr turn pause (1 - aw) owed part ln got tv (.slice pa part.size pc) gv := by
    rw [hcut]
    exact PAt.drew ((unhide HP1).put ((set_row (unhide HP1).blk).trans rfl))
  have hX2 : wc.heap[w.heap.size]? = some (.cells #[.int .i64 t, .int .i64 n, .bool m, .bool h, .string bd] 59) := by
    rw [hcut]
    exact (set_other (by omega)).trans (unhide HX1)
  have hK2 : KeepP (InP b tv (.slice pa part.size pc) gv) w wc := by
    rw [hcut]
    exact ((unhide HK1).set b 7 _ (.inl rfl)).drew
  have hS2 : wc.heap.size = w.heap.size + 1 := by rw [hcut]; exact (by simp : (W1.setCell ⟨b, 7, none⟩ (.bool ln)).heap.size = W1.heap.size).trans (unhide HS1)
  clear hcut c4 c5 c6 c7 c8 e4 e5 e6 e7 e8 x0 x1 x2 x3 x4 j0 j1 j2 j3 j4 HP1 HX1 HK1 HS1
  obtain ⟨⟨c4, c5, c6, c7, c8⟩, e4, e5, e6, e7, e8⟩ := nine_cells hP2.blk
  obtain ⟨⟨x0, x1, x2, x3, x4⟩, j0, j1, j2, j3, j4⟩ := five_cells hX2
  have HP2 := hide hP2; have HX2 := hide hX2; have HK2 := hide hK2; have HS2 := hide hS2
  have hwc : w.heap.size < wc.heap.size := by omega
  have hbc : b < wc.heap.size := by omega
  clear hP2 hX2 hK2 hS2 hln
  go_upto_if 34 with fail
  go_cut [] (fun wx => ∃ pv', PAt wx b base T arr turn pause (1 - aw) owed (partN part lost bd) ln got tv pv' gv ∧ KeepP (InP b tv (.slice pa part.size pc) gv) w wx ∧ (∀ q, InP b tv pv' gv q → InP b tv (.slice pa part.size pc) gv q ∨ w.heap.size ≤ q) ∧ wx.heap[w.heap.size]? = some (.cells #[.int .i64 t, .int .i64 n, .bool m, .bool h, .string bd] 59))
  case first =>
    cases ln with
    | true =>
      have HPN := hide (show partN part lost bd = ByteArray.empty by rw [partN, ← unhide HLN]; rfl)
      generalize partN part lost bd = pn at *
      clear HLN
      go_wp2_with fail
      go_meet
      refine ⟨.slice none 0 0, ?_, (unhide HK2).set b 6 _ (.inl rfl), inp_nil (inp_refl), (set_other (by omega)).trans (unhide HX2)⟩
      rw [unhide HPN]
      exact (unhide HP2).part ((set_row (unhide HP2).blk).trans rfl) (World.ownsRow_nil _ _ _ _) (fun q _ hq _ => set_other hq) (fun q hq => by cases hq)
    | false =>
      have HPN := hide (show partN part lost bd = part ++ bd by rw [partN, ← unhide HLN]; rfl)
      generalize partN part lost bd = pn at *
      clear HLN
      have HBG := hide (fun (w3 : World) (hx : wc.grownBy w3 (Value.slice pa part.size pc).ownBlock) => ((hx.block b hbc (fun e => (unhide HP2).np e.symm)).trans (unhide HP2).blk : EndAt w3 b tv arr turn pause (1 - aw) owed (.slice pa part.size pc) false gv))
      have HBX := hide (fun (w3 : World) (hx : wc.grownBy w3 (Value.slice pa part.size pc).ownBlock) => (hx.block w.heap.size hwc (fun e => by have := ((unhide HP).op.lt w.heap.size e.symm).2; omega)).trans (unhide HX2))
      have HOW := hide (unhide HP2).op
      have HM1 := hide (show part.size + bd.size ≤ maxLen by unfold maxLen; omega)
      have HM2 := hide (show part.size + bd.size ≤ 140737488355328 by omega)
      have HM3 := hide (show base ≤ wc.heap.size by omega)
      have HI := hide hi; have Z0 := hide hz0; have Z1 := hide hz1; have Z2 := hide hz2
      clear hi hz0 hz1 hz2
      go_wp2_with fail
      go_region_law ((refine step_append_lies_string _ (by rfl) _ _ _ _ (by rfl) base 5 i0 Tryd.underlying42 Tryd.underlying9 (unhide HI) (unhide Z0) (unhide Z1) (unhide Z2) (.slice pa part.size pc) part.size (strCells part) (by rfl) ?_ bd (by rfl) (unhide HM1) (unhide HM2) (unhide HM3) ?_; (focus (first | (with_reducible exact unhide HOW) | exact (unhide HOW).drew)); intro pv' w3 own3 hgrow3 hat3; obtain ⟨pa2, pc2, rfl⟩ := own_slice own3; have hgw : wc.grownBy w3 (Value.slice pa part.size pc).ownBlock := (by first | exact grown_drew hgrow3 | exact hgrow3); have hbl := unhide HBG w3 hgw; obtain ⟨⟨d4, d5, d6, d7, d8⟩, k4, k5, k6, k7, k8⟩ := nine_cells hbl))
      all_goals
        have HQ1 := hide own3; have HQ2 := hide hgw; have HQ4 := hide hbl
        have HQ3 : Hid (∀ q, (Value.slice pa2 (part.size + bd.size) pc2).ownBlock = some q → (Value.slice pa part.size pc).ownBlock = some q ∨ wc.heap.size ≤ q) := hide fun q hq => by
          rcases hat3 with hx | hx
          · exact .inl (by rw [← hx]; exact hq)
          · have hy : wc.heap.size = q := Option.some.inj (hx.symm.trans hq)
            exact .inr (Nat.le_of_eq hy)
        clear own3 hgrow3 hat3 hgw hbl
        go_wp2_with fail
        go_meet
        refine ⟨.slice pa2 (part.size + bd.size) pc2, ?_, ?_, ?_, ?_⟩
        · rw [unhide HPN]
          refine (unhide HP2).part ((set_row (unhide HQ4)).trans rfl) ?_ ?_ (unhide HQ3)
          · refine slot_kept (w := w3) ?_ (fun q hq => set_other (fun e => ?_))
            · rw [strCells_append, ByteArray.size_append]
              exact unhide HQ1
            · subst e
              rcases unhide HQ3 q hq with hx | hx
              · exact (unhide HP2).np hx
              · omega
          · intro q hq hqb hne
            exact (set_other hqb).trans ((unhide HQ2).block q hq hne)
        · exact ((unhide HK2).trans (KeepP.of_grown (unhide HQ2) (fun q hq => .inr (.inr (.inl hq)))) inp_refl).set b 6 _ (.inl rfl)
        · exact inp_part fun q hq => (unhide HQ3 q hq).elim .inl (fun hx => .inr (by omega))
        · exact (set_other (by omega)).trans (unhide HBX w3 (unhide HQ2))
  case rest =>
  obtain ⟨pv', hP3, hK3, hN3, hX3⟩ := hcut
  clear c4 c5 c6 c7 c8 e4 e5 e6 e7 e8 x0 x1 x2 x3 x4 j0 j1 j2 j3 j4 HP2 HX2 HK2 HS2 hwc hbc
  obtain ⟨⟨c4, c5, c6, c7, c8⟩, e4, e5, e6, e7, e8⟩ := nine_cells hP3.blk
  obtain ⟨⟨x0, x1, x2, x3, x4⟩, j0, j1, j2, j3, j4⟩ := five_cells hX3
  have hwc : w.heap.size < wc.heap.size := World.block_lt_of_cell? wc ⟨w.heap.size, 0, none⟩ x0
  have hbc : b < wc.heap.size := hP3.lt
  have HP3 := hide hP3; have HK3 := hide hK3; have HN3 := hide hN3; have HX3 := hide hX3
  cases m with
  | true =>
    have HQ := hide (show accP part lost true bd = partN part lost bd ∧ accL part lost true bd = lostN part lost bd ∧ accG part lost true got bd = got from ⟨rfl, rfl, rfl⟩)
    generalize accP part lost true bd = ap at *
    generalize accL part lost true bd = al at *
    generalize accG part lost true got bd = ag at *
    clear hP3 hK3 hN3 hX3
    go_wp2
    go_end0
    obtain ⟨q1, q2, q3⟩ := unhide HQ
    refine ⟨rfl, pv', gv, ?_, unhide HK3, unhide HN3⟩
    rw [q1, q2, q3, ← unhide HLN]
    exact unhide HP3
  | false =>
    have HQ := hide (show accP part lost false bd = ByteArray.empty ∧ accL part lost false bd = false ∧ accG part lost false got bd = if ln then got else got ++ [partN part lost bd] from ⟨rfl, rfl, by rw [unhide HLN]; rfl⟩)
    generalize accP part lost false bd = ap at *
    generalize accL part lost false bd = al at *
    generalize accG part lost false got bd = ag at *
    have HPZ := hide (show (partN part lost bd).size ≤ 4351 by
      unfold partN
      split
      · exact Nat.zero_le _
      · rw [ByteArray.size_append]; omega)
    generalize partN part lost bd = pn at *
    obtain ⟨ga, gc, rfl⟩ := own_slice hP3.og
    obtain ⟨pa3, pc3, rfl⟩ := own_slice hP3.op
    have HOG := hide hP3.og
    have HOP := hide hP3.op
    have HM1 := hide (show got.length + 1 ≤ maxLen by unfold maxLen; omega)
    have HM2 := hide (show (got.length + 1) * 16 ≤ 140737488355328 by omega)
    have HM3 := hide (show base ≤ wc.heap.size by omega)
    have HI := hide ki; have Z0 := hide kz0; have Z1 := hide kz1; have Z2 := hide kz2
    clear hP3 hK3 hN3 hX3 ki kz0 kz1 kz2 hi hz0 hz1 hz2
    go_upto_if 54 with fail
    go_cut [] (fun wx => ∃ gv', PAt wx b base T arr turn pause (1 - aw) owed pn ln ag tv (.slice pa3 pn.size pc3) gv' ∧ KeepP (InP b tv (.slice pa part.size pc) (.slice ga got.length gc)) w wx ∧ (∀ q, InP b tv (.slice pa3 pn.size pc3) gv' q → InP b tv (.slice pa part.size pc) (.slice ga got.length gc) q ∨ w.heap.size ≤ q))
    case first =>
      cases ln with
      | true =>
        have HAG := hide (show ag = got from (unhide HQ).2.2)
        go_wp2_with fail
        go_meet
        refine ⟨.slice ga got.length gc, ?_, unhide HK3, unhide HN3⟩
        rw [unhide HAG]
        exact unhide HP3
      | false =>
        have HAG := hide (show ag = got ++ [pn] from (unhide HQ).2.2)
        have HBG := hide (fun (o : Obj) (w3 : World) (hx : (wc.alloc o).grownBy w3 (Value.slice ga got.length gc).ownBlock) => ((hx.block b (by simp; omega) (fun e => (unhide HP3).ng e.symm)).trans ((Below.heap_alloc _ _ _ hbc).trans (unhide HP3).blk) : EndAt w3 b tv arr turn pause (1 - aw) owed (.slice pa3 pn.size pc3) false (.slice ga got.length gc)))
        have hcv := conv_own (unhide HOP).drew
        go_wp2_with fail
        go_region_law ((refine step_append_lies _ (by rfl) _ _ _ (by rfl) base 9 i1 (.string ⟨#[]⟩) 1 16 Tryd.underlying25 (unhide HI) (unhide Z0) (unhide Z1) (unhide Z2) rfl (by decide) (.slice ga got.length gc) got.length (cellsT got) (by rfl) ?_ ⟨wc.heap.size, 0, none⟩ 1 1 [.string pn] (by rfl) (by rfl) (World.news_of_block (cs := #[.string pn]) (t := 9) (fr := (0, 0)) ?_) (by simp [Value.oneCell']) (by decide) (unhide HM1) (unhide HM2) ?_ (wc.heap.size + 1) ?_ ?_; (focus (first | exact ((unhide HOG).alloc _).drew | exact (unhide HOG).drew.alloc _ | exact ((unhide HOG).alloc _))); (focus (first | exact heap_at_drew (heap_at_new rfl) | exact heap_at_new rfl)); (focus (simp; have := unhide HM3; omega)); (focus (first | rfl | (simp; done))); intro g2 cap2 w3 own3 hgrow3 hat3 hlt3; have hgw : (wc.alloc (.cells #[.string pn] 9)).grownBy w3 (Value.slice ga got.length gc).ownBlock := (by first | exact grown_drew hgrow3 | exact hgrow3 | exact ⟨hgrow3.os, hgrow3.tape, hgrow3.output, hgrow3.size, hgrow3.block⟩); have hbl := unhide HBG _ w3 hgw; obtain ⟨⟨d4, d5, d6, d7, d8⟩, k4, k5, k6, k7, k8⟩ := nine_cells hbl))
        all_goals
          have HQ1 := hide own3; have HQ2 := hide hgw; have HQ4 := hide hbl
          have HQ3 : Hid (∀ q, (Value.slice (some ⟨g2, 0, none⟩) (got.length + 1) cap2).ownBlock = some q → (Value.slice ga got.length gc).ownBlock = some q ∨ wc.heap.size ≤ q) := hide fun q hq => by
            have hy : g2 = q := Option.some.inj hq
            rcases hat3 with hx | hx
            · exact .inl (by rw [← hy]; exact hx)
            · exact .inr (by omega)
          clear own3 hgrow3 hat3 hgw hbl
          go_wp2_with fail
          go_meet
          refine ⟨.slice (some ⟨g2, 0, none⟩) (got.length + 1) cap2, ?_, ?_, ?_⟩
          · rw [unhide HAG]
            refine (unhide HP3).gots ((set_row (unhide HQ4)).trans rfl) ?_ ?_ (unhide HQ3)
            · refine slot_kept (w := w3) ?_ (fun q hq => set_other (fun e => ?_))
              · have := unhide HQ1
                simpa [cellsT] using this
              · subst e
                rcases unhide HQ3 q hq with hx | hx
                · exact (unhide HP3).ng hx
                · omega
            · intro q hq hqb hne
              exact (set_other hqb).trans (((unhide HQ2).block q (by simp; omega) hne).trans (Below.heap_alloc _ _ _ hq))
          · exact ((((unhide HK3).alloc _).trans (KeepP.of_grown (unhide HQ2) (fun q hq => .inr (.inr (.inr hq)))) inp_refl)).set b 8 _ (.inl rfl)
          · exact inp_got (unhide HN3) fun q hq => (unhide HQ3 q hq).elim .inl (fun hx => .inr (by omega))
    case rest =>
    obtain ⟨gv', hP4, hK4, hN4⟩ := hcut
    clear c4 c5 c6 c7 c8 e4 e5 e6 e7 e8 x0 x1 x2 x3 x4 j0 j1 j2 j3 j4 HP3 HK3 HN3 HX3 hwc hbc
    obtain ⟨⟨c4, c5, c6, c7, c8⟩, e4, e5, e6, e7, e8⟩ := nine_cells hP4.blk
    have HP4 := hide hP4; have HK4 := hide hK4; have HN4 := hide hN4
    clear hP4 hK4 hN4
    go_wp2
    go_end0
    obtain ⟨q1, q2, q3⟩ := unhide HQ
    refine ⟨rfl, .slice none 0 0, gv', ?_, ((unhide HK4).set b 6 _ (.inl rfl)).set b 7 _ (.inl rfl), inp_nil (unhide HN4)⟩
    rw [q1, q2]
    have hP5 := (unhide HP4).part (part' := ByteArray.empty) (pv' := .slice none 0 0) ((set_row (j := 6) (v := .slice none 0 0) (unhide HP4).blk).trans rfl) (World.ownsRow_nil _ _ _ _) (fun q _ hq _ => set_other hq) (fun q hq => by cases hq)
    exact hP5.put ((set_row hP5.blk).trans rfl)
end Go.Proofs.YthchicolifkpiaaDoor
