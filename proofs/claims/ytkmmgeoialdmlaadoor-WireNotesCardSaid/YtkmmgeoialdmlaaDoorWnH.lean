/- The reference's Read: the walk. -/
import Derived.Test.YtkmmgeoialdmlaaDoorWnG
import Derived.Laws.MakeOwn
import Derived.Deep.RegionHeld3
namespace Go.Proofs.YtkmmgeoialdmlaaDoor
open Go.RowKit
set_option linter.unusedVariables false

def RInv (l : List Prt) (W5 : World) (nb tb : Nat) (iv : Value) (wx : World) : Prop :=
  ∃ q : Nat, q ≤ l.length ∧ iv = .int .i64 (q : Int) ∧ wx.heap[nb]? = some (.cells (numRow (rawP (l.take q))).toArray 3 (0, 0)) ∧ wx.heap[tb]? = some (.cells (txtRow (rawP (l.take q))).toArray 9 (0, 0)) ∧ Below nb W5 wx
theorem infoStrW : (Tryd.prog.info? 9).map (fun i => (i.zero, i.size, i.bytes)) = some (some (.string ⟨#[]⟩), 1, 16) := by kernel_rfl
theorem mk_ints (w : World) : (Instr.makeSlice 65 (.int .i64 17) (.int .i64 17)).run Tryd.prog w = .ok (.slice (some ⟨w.heap.size, 0, none⟩) 17 17) (w.alloc (.cells (numRow (rawP [])).toArray 3)) := by
  obtain ⟨i0, hi, hz0, hz1, hz2⟩ := info_parts infoIntW
  have := run_make (P := Tryd.prog) w 65 3 i0 (.int .i64 0) Tryd.underlying65 hi hz0 .i64 .i64 17 17 (by decide) (by decide) (by rw [hz2]; decide) (by decide)
  rw [hz1] at this
  rw [show (numRow (rawP [])).toArray = madeCells (Value.int .i64 0).cells (Int.toNat 17 * 1) by kernel_rfl]
  exact this
theorem mk_strs (w : World) : (Instr.makeSlice 73 (.int .i64 17) (.int .i64 17)).run Tryd.prog w = .ok (.slice (some ⟨w.heap.size, 0, none⟩) 17 17) (w.alloc (.cells (txtRow (rawP [])).toArray 9)) := by
  obtain ⟨i0, hi, hz0, hz1, hz2⟩ := info_parts infoStrW
  have := run_make (P := Tryd.prog) w 73 9 i0 (.string ⟨#[]⟩) Tryd.underlying73 hi hz0 .i64 .i64 17 17 (by decide) (by decide) (by rw [hz2]; decide) (by decide)
  rw [hz1] at this
  rw [show (txtRow (rawP [])).toArray = madeCells (Value.string ⟨#[]⟩).cells (Int.toNat 17 * 1) by kernel_rfl]
  exact this
theorem row_cell {w : World} {b n : Nat} {g : Nat → Value} {t : TypeId} (h : w.heap[b]? = some (.cells ((List.range 17).map g).toArray t (0, 0))) (hn : n < 17) : w.cell? ⟨b, n, none⟩ = some (g n) := by
  rw [cell_of_row _ _ n _ _ _ h, List.getElem?_toArray]
  exact get_map17 g n hn
theorem keep_set {w w' : World} {b n : Nat} {v : Value} (h : KeepR b w w') : KeepR b w (w'.setCell ⟨b, n, none⟩ v) :=
  ⟨h.os, h.tape, h.output, by simpa using h.size, fun q h1 h2 => (set_otherW h2).trans (h.block q h1 h2)⟩
theorem keep_drew {w w' : World} {b : Nat} (h : KeepR b w w') : KeepR b w w'.drew := ⟨h.os, h.tape, h.output, h.size, h.block⟩
theorem keep_cellN {w w' : World} {a : Addr} {v : Value} (h : Below w.heap.size w w') (hc : w.cell? a = some v) : w'.cell? a = some v := (h.cell (World.block_lt_of_cell? w a hc)).trans hc
theorem old_cellN {w : World} {o : Obj} {a : Addr} {v : Value} (hc : w.cell? a = some v) : (w.alloc o).cell? a = some v := keep_cellN ((Below.refl w.heap.size w).alloc (Nat.le_refl _) o) hc
theorem drew_cellN {w : World} {a : Addr} {v : Value} (hc : w.cell? a = some v) : w.drew.cell? a = some v := hc
theorem set_cellN {w : World} {b g i j : Nat} {v x : Value} (hc : w.cell? ⟨g, i, none⟩ = some v) (h : g ≠ b) : (w.setCell ⟨b, j, none⟩ x).cell? ⟨g, i, none⟩ = some v := (World.cell?_of_block (set_otherW h)).trans hc
theorem keep_refl (b : Nat) (w : World) : KeepR b w w := ⟨rfl, rfl, rfl, Nat.le_refl _, fun _ _ _ => rfl⟩
set_option maxRecDepth 100000 in
set_option maxHeartbeats 8000000 in
theorem rread_any (s : ByteArray) (hs : s.size ≤ 9223372036854775807) (w : World) :
    Calls Tryd.prog 13 #[.string s] w fun e w' => e = .returned (.tuple #[rdRV s, .int .i64 (if rdRB s then 0 else 1)]) ∧ Below w.heap.size w w' := by
  have hV : rdRV s = if rdRB s then .agg (noteRL (unpK s) (rawP (unpL s))).toArray else .agg noteZ.toArray := by unfold rdRV; rw [show noteV (rdR s) = .agg (noteRL (unpK s) (rawP (unpL s))).toArray from noteRL_as _ _]
  have hB : rdRB s = decide (unpE s = 0 ∧ wrE (rdR s) = 0 ∧ wrS (rdR s) = s) := rfl
  have hug := unpL_good s
  have N3 := hide (fun w' => (rwrite_any (rdR s) (rdR_ok _ _ hug) (nrm_cashy _) w'))
  rw [show noteV (rdR s) = .agg (noteRL (unpK s) (rawP (unpL s))).toArray from noteRL_as _ _] at N3
  have hul := unpL_len s
  obtain ⟨W0, hW0⟩ : ∃ W0, W0 = w.alloc (.cells noteZ.toArray 35) := ⟨_, rfl⟩
  have hB0 : Below w.heap.size w W0 := by rw [hW0]; exact (Below.refl _ _).alloc (Nat.le_refl _) _
  have hS0 : W0.heap.size = w.heap.size + 1 := by rw [hW0]; simp
  have hX0 : NoteAt W0 w.heap.size noteZ := by unfold NoteAt; rw [hW0]; exact heap_alloc_new _ _
  have N1 := hide (runpack_any s hs W0)
  have hrn := fun q p h => raw_next (unpL s) hug q p h
  have hgm := good_mem hug (Int.le_refl 0)
  generalize unpK s = uk at *
  generalize unpL s = ul at *
  generalize unpE s = ue at *
  generalize wrE (rdR s) = we at *
  generalize wrS (rdR s) = ws at *
  generalize rdRB s = rb at *
  generalize rdRV s = rv at *
  obtain ⟨re, hE⟩ : ∃ re : Int, re = if rb then 0 else 1 := ⟨_, rfl⟩
  rw [← hE]
  have HW0 := hide (hW0.trans rfl : W0 = w.alloc (.cells #[.int .i64 0, .int .i64 0, .int .i64 0, .int .i64 0, .string ⟨#[]⟩, .string ⟨#[]⟩, .string ⟨#[]⟩, .string ⟨#[]⟩, .string ⟨#[]⟩, .string ⟨#[]⟩, .int .i64 0, .int .i64 0, .int .i64 0, .bool false, .int .i64 0, .int .i64 0, .string ⟨#[]⟩] 35))
  have HV := hide hV; have HE := hide hE; have HB := hide hB; have HB0 := hide hB0; have HS0 := hide hS0; have HX0 := hide hX0; have HRN := hide hrn; have HGM := hide hgm
  clear hV hE hB hW0 hB0 hS0 hX0 hug hrn hgm
  go_enter Tryd.func13, Tryd.ntmps13
  go_upto_region 1 with fail
  rw [← unhide HW0]
  go_wp2_with fail
  refine (unhide N1).mono ?_
  rintro e w1 ⟨pa, c, rfl, hr, hb1⟩
  obtain ⟨W2, hW2⟩ : ∃ W2, W2 = w1.alloc (.cells #[.int .i64 uk, .slice pa ul.length c] 24) := ⟨_, rfl⟩
  have hB2 : Below w1.heap.size w1 W2 := by rw [hW2]; exact (Below.refl _ _).alloc (Nat.le_refl _) _
  have hS2 : W2.heap.size = w1.heap.size + 1 := by rw [hW2]; simp
  have hX2 : W2.heap[w1.heap.size]? = some (.cells #[.int .i64 uk, .slice pa ul.length c] 24 (0, 0)) := by rw [hW2]; exact heap_alloc_new _ _
  have hb2 : Below W0.heap.size W0 W2 := hb1.trans (hB2.mono hb1.size)
  have hs0 := unhide HS0
  have hs1 := hb1.size
  have hr2 := hr.below hB2 (Nat.le_refl _)
  have HW2 := hide hW2; have HB2 := hide hb2; have HX2 := hide hX2; have HS2 := hide hS2; have HR2 := hide hr2
  have hwlt : w.heap.size < w1.heap.size := by omega
  clear hW2 hB2 hS2 hX2 hr hb1 hb2 hs0 hr2 N1
  go_upto_region 2 with fail
  rw [← unhide HW2]
  by_cases hue : ue = 0
  · subst hue
    have m0 : W2.cell? ⟨w1.heap.size, 0, none⟩ = some (.int .i64 uk) := (cell_of_row _ _ 0 _ _ _ (unhide HX2)).trans rfl
    have m1 : W2.cell? ⟨w1.heap.size, 1, none⟩ = some (.slice pa ul.length c) := (cell_of_row _ _ 1 _ _ _ (unhide HX2)).trans rfl
    have hmk1 := mk_ints
    have hmk2 := mk_strs
    obtain ⟨W5, hW5⟩ : ∃ W5, W5 = (W2.alloc (.cells (numRow (rawP [])).toArray 3)).alloc (.cells (txtRow (rawP [])).toArray 9) := ⟨_, rfl⟩
    have hB5 : Below W2.heap.size W2 W5 := by rw [hW5]; exact ((Below.refl _ _).alloc (Nat.le_refl _) _).alloc (by simp) _
    have hS5 : W5.heap.size = W2.heap.size + 1 + 1 := by rw [hW5]; simp
    have hN5 : W5.heap[W2.heap.size]? = some (.cells (numRow (rawP [])).toArray 3 (0, 0)) := by rw [hW5]; exact (Below.heap_alloc _ _ _ (by simp)).trans (heap_alloc_new _ _)
    have hT5 : W5.heap[W2.heap.size + 1]? = some (.cells (txtRow (rawP [])).toArray 9 (0, 0)) := by
      rw [hW5]
      have e1 : (W2.alloc (.cells (numRow (rawP [])).toArray 3)).heap.size = W2.heap.size + 1 := by simp
      rw [← e1]; exact heap_alloc_new _ _
    have q0 : W5.cell? ⟨w1.heap.size, 0, none⟩ = some (.int .i64 uk) := (hB5.cell (p := ⟨w1.heap.size, 0, none⟩) (by show w1.heap.size < _; have := unhide HS2; omega)).trans m0
    have q1 : W5.cell? ⟨w1.heap.size, 1, none⟩ = some (.slice pa ul.length c) := (hB5.cell (p := ⟨w1.heap.size, 1, none⟩) (by show w1.heap.size < _; have := unhide HS2; omega)).trans m1
    have hI0 : RInv ul W5 W2.heap.size (W2.heap.size + 1) (.int .i64 0) W5 := ⟨0, Nat.zero_le _, rfl, hN5, hT5, Below.refl _ _⟩
    have HI0 := hide hI0; have HW5 := hide hW5; have HS5 := hide hS5
    have HR5 := hide ((unhide HR2).below hB5 (Nat.le_refl _))
    have hb5 : Below W0.heap.size W0 W5 := (unhide HB2).trans (hB5.mono (unhide HB2).size)
    have HB5 := hide hb5
    have HRR := hide (fun wx (h : Below W2.heap.size W5 wx) => (show PRow wx pa ul from by
      rcases unhide HR2 with h' | ⟨b, off, e, hlt, hc⟩
      · exact .inl h'
      · exact .inr ⟨b, off, e, by have := h.size; omega, fun i p hi => ⟨((h.cell (p := ⟨b, off + i * 2, none⟩) hlt).trans (hB5.cell (p := ⟨b, off + i * 2, none⟩) hlt)).trans (hc i p hi).1, ((h.cell (p := ⟨b, off + i * 2 + 1, none⟩) hlt).trans (hB5.cell (p := ⟨b, off + i * 2 + 1, none⟩) hlt)).trans (hc i p hi).2⟩⟩))
    have hm12 : w1.heap.size < W2.heap.size := by have := unhide HS2; omega
    obtain ⟨nb, hnb⟩ : ∃ nb, nb = W2.heap.size := ⟨_, rfl⟩
    obtain ⟨tb, htb⟩ : ∃ tb, tb = W2.heap.size + 1 := ⟨_, rfl⟩
    have hnt : nb < tb := by omega
    have hn5 : tb < W5.heap.size := by omega
    have hmn : w1.heap.size < nb := by omega
    rw [← htb, ← hnb] at HI0
    rw [← hnb] at HRR
    have HNB := hide hnb; have HTB := hide htb
    clear hW5 hB5 hS5 hN5 hT5 hI0 hb5 m0 m1 hnb htb
    go_upto_region 6 with fail
    rw [← unhide HW5, ← unhide HTB, ← unhide HNB]
    have huli : (ul.length : Int) ≤ 16 := by omega
    clear hmk1 hmk2
    go_wp2_with fail
    go_loopw [27] (fun iv wx => RInv ul W5 nb tb iv wx) (fun iv _ => ul.length - (intOf iv).toNat)
    case atStart => exact unhide HI0
    case round =>
      obtain ⟨q, hq, rfl, hN, hT, hbw⟩ := hrel
      clear HI0 q1
      by_cases hlt : q < ul.length
      · obtain ⟨p, hpq⟩ : ∃ p, ul[q]? = some p := ⟨_, List.getElem?_eq_getElem hlt⟩
        have htk : ul.take (q + 1) = ul.take q ++ [p] := by rw [List.take_add_one, hpq]; rfl
        obtain ⟨g1, g16, gp, gz⟩ := unhide HGM p (List.mem_of_getElem? hpq)
        have hrn := unhide HRN q p hpq
        rcases unhide HRR wr hbw with hnil | ⟨b, off, rfl, hbl, hc⟩
        · rw [hnil] at hlt; simp at hlt
        obtain ⟨ck0, ck1⟩ := hc q p hpq
        obtain ⟨pn, ps⟩ := p
        simp only at ck0 ck1 g1 g16 gp gz hrn
        obtain ⟨n, rfl⟩ : ∃ n : Nat, pn = (n : Int) := ⟨pn.toNat, by omega⟩
        rw [Int.toNat_natCast] at g1 g16 hrn
        have hsz5 := hbw.size
        obtain ⟨W6, hW6⟩ : ∃ W6, W6 = wr.alloc (.cells #[.int .i64 (n : Int), .string ps] 45) := ⟨_, rfl⟩
        have hB6 : Below wr.heap.size wr W6 := by rw [hW6]; exact (Below.refl _ _).alloc (Nat.le_refl _) _
        have hS6 : W6.heap.size = wr.heap.size + 1 := by rw [hW6]; simp
        have hX6 : W6.heap[wr.heap.size]? = some (.cells #[.int .i64 (n : Int), .string ps] 45 (0, 0)) := by rw [hW6]; exact heap_alloc_new _ _
        have hT6 : W6.heap[tb]? = some (.cells (txtRow (rawP (ul.take q))).toArray 9 (0, 0)) := (hB6.block tb (by omega)).trans hT
        have hN6 : W6.heap[nb]? = some (.cells (numRowU (rawP (ul.take q)) n 0).toArray 3 (0, 0)) := by
          rw [← numRowU_first _ n hrn]; exact (hB6.block nb (by omega)).trans hN
        have x0 : W6.cell? ⟨wr.heap.size, 0, none⟩ = some (.int .i64 (n : Int)) := (cell_of_row _ _ 0 _ _ _ hX6).trans rfl
        have x1 : W6.cell? ⟨wr.heap.size, 1, none⟩ = some (.string ps) := (cell_of_row _ _ 1 _ _ _ hX6).trans rfl
        have xt : W6.cell? ⟨tb, n, none⟩ = some (.string (ptxt (rawP (ul.take q) n))) := row_cell hT6 (by omega)
        have xf : W6.frozen? ⟨tb, n, none⟩ = false := frozen_of_row _ _ n _ _ hT6
        obtain ⟨W7, hW7⟩ : ∃ W7, W7 = W6.setCell ⟨tb, n, none⟩ (.string ps) := ⟨_, rfl⟩
        have hS7 : W7.heap.size = wr.heap.size + 1 := by rw [hW7]; simpa using hS6
        have hX7 : W7.heap[wr.heap.size]? = some (.cells #[.int .i64 (n : Int), .string ps] 45 (0, 0)) := by rw [hW7]; exact (set_otherW (by omega)).trans hX6
        have hT7 : W7.heap[tb]? = some (.cells (txtRow (rawP (ul.take (q + 1)))).toArray 9 (0, 0)) := by rw [hW7, set_row hT6, txtRow_next, htk]
        have hN7 : W7.heap[nb]? = some (.cells (numRowU (rawP (ul.take q)) n 0).toArray 3 (0, 0)) := by rw [hW7]; exact (set_otherW (by omega)).trans hN6
        have hB7 : Below nb W5 W7 := by
          rw [hW7]
          have hz : Below nb W5 W6 := hbw.trans (hB6.mono (by omega))
          exact hz.setCell (p := ⟨tb, n, none⟩) (by show nb ≤ tb; omega) _
        have HW6 := hide hW6; have HW7 := hide hW7; have HX7 := hide hX7; have HT7 := hide hT7; have HN7 := hide hN7; have HB7 := hide hB7; have HTK := hide htk; have HS7 := hide hS7
        have hlti : (q : Int) < (ul.length : Int) := by omega
        have hni : (n : Int) ≤ 16 := by omega
        have hn17 : n < 17 := by omega
        have hpb : tb < wr.heap.size := by omega
        have hpsz : (ps.size : Int) ≤ 9999 := by omega
        have hnlt : nb < wr.heap.size := by omega
        have hlp := len_list ps
        generalize hraw : rawP (ul.take q) = raw at *
        have HRAW := hide hraw
        clear hraw
        clear hW6 hB6 hS6 hX6 hT6 hN6 hW7 hS7 hX7 hT7 hN7 hB7 htk hN hT hpq hc hrn
        go_upto_region 9 with fail
        rw [← unhide HW6]
        clear ck0 ck1
        go_upto_region 10 with fail
        rw [← unhide HW7]
        clear x0 x1 xt xf HW6 HW7
        obtain ⟨pb, hpe⟩ : ∃ pb, pb = wr.heap.size := ⟨_, rfl⟩
        rw [← hpe] at HX7 HS7 hpb hnlt
        rw [← hpe]
        have HPE := hide hpe
        have hp7 : pb < W7.heap.size := by have := unhide HS7; omega
        have hnp : nb < pb := by omega
        have HI7 : Hid (∃ i : Nat, i ≤ ps.size ∧ i ≤ 12 ∧ Value.int .i64 0 = .int .i64 (i : Int) ∧ W7.heap[nb]? = some (.cells (numRowU raw n ((rvalL (ps.data.toList.take i) : Nat) : Int)).toArray 3 (0, 0)) ∧ KeepR nb W7 W7) :=
          hide ⟨0, Nat.zero_le _, Nat.zero_le _, rfl, unhide HN7, keep_refl _ _⟩
        have hsz7 : wr.heap.size < W7.heap.size := by omega
        clear hpe hsz5 hbl hbw
        go_wp2_with fail
        go_loopw [10] (fun iv wx => ∃ i : Nat, i ≤ ps.size ∧ i ≤ 12 ∧ iv = .int .i64 (i : Int) ∧ wx.heap[nb]? = some (.cells (numRowU raw n ((rvalL (ps.data.toList.take i) : Nat) : Int)).toArray 3 (0, 0)) ∧ KeepR nb W7 wx) (fun iv _ => 12 - (intOf iv).toNat)
        case atStart => exact unhide HI7
        case round =>
          obtain ⟨i, hi1, hi2, rfl, hN, hK⟩ := hrel
          clear HI7
          have hX := (hK.block pb hp7 (by omega)).trans (unhide HX7)
          have x0 : wr.cell? ⟨pb, 0, none⟩ = some (.int .i64 (n : Int)) := (cell_of_row _ _ 0 _ _ _ hX).trans rfl
          have x1 : wr.cell? ⟨pb, 1, none⟩ = some (.string ps) := (cell_of_row _ _ 1 _ _ _ hX).trans rfl
          by_cases hc : i < ps.size ∧ i < 12
          · obtain ⟨hc1, hc2⟩ := hc
            have hd1 : (i : Int) < (ps.size : Int) := by omega
            have hd2 : (i : Int) < 12 := by omega
            obtain ⟨bt, hbt⟩ : ∃ bt, ps.data.toList[i]? = some bt := ⟨_, List.getElem?_eq_getElem (by rw [hlp]; exact hc1)⟩
            have hnx := rval_next _ _ _ hbt
            have hbe : byteAt ps i = bt.toNat := by unfold byteAt; rw [List.getD_eq_getElem?_getD, hbt]; rfl
            have hgb := fun h => get_byte ps i h
            rw [hbe] at hgb
            have hbl := bt.toNat_lt
            have hvl := rval_le (ps.data.toList.take i)
            have hvl2 : 10 ^ (ps.data.toList.take i).length ≤ 10 ^ 12 := Nat.pow_le_pow_right (by decide) (by rw [List.length_take]; omega)
            have hp12 : (10 : Nat) ^ 12 = 1000000000000 := by decide
            obtain ⟨vv, hvv⟩ : ∃ vv, vv = rvalL (ps.data.toList.take i) := ⟨_, rfl⟩
            rw [← hvv] at hN hnx hvl
            have hvi : (vv : Int) ≤ 29000000000000 := by omega
            generalize bt.toNat = bn at *
            obtain ⟨dd, hdd⟩ : ∃ dd, dd = (bn + 208) % 256 := ⟨_, rfl⟩
            have hbn : bn < 256 := by simpa using hbl
            have hwd : IntKind.u8.wrap ((bn : Int) - 48) = (dd : Int) := by
              rw [IntKind.wrap_u8, hdd]; omega
            have hd9 : (dd : Int) ≤ 255 := by omega
            have HNX : Hid (10 * vv + dd = rvalL (ps.data.toList.take (i + 1))) := hide (by rw [hnx, hdd])
            have xn : wr.cell? ⟨nb, n, none⟩ = some (.int .i64 (vv : Int)) := by
              have := row_cell (g := fun f => if f = n then Value.int .i64 (vv : Int) else Value.int .i64 (rnum (raw f))) hN hn17
              simpa using this
            have xf : wr.frozen? ⟨nb, n, none⟩ = false := frozen_of_row _ _ n _ _ hN
            have HN := hide hN; have HK := hide hK; have HX := hide hX
            clear hN hK hX hnx hbt hbe hvl hvl2 hp12 hvv hdd hbl hbn
            go_upto_region 13 with fail
            go_region
            go_wp2_with fail
            have hev : 10 * (vv : Int) + (dd : Int) = ((rvalL (ps.data.toList.take (i + 1)) : Nat) : Int) := by rw [← unhide HNX]; omega
            refine ⟨⟨i + 1, by omega, by omega, by go_num, ?_, ?_⟩, ?_⟩
            · rw [← hev, ← numRowU_set raw n (vv : Int)]; exact set_row (unhide HN) _
            · first | exact keep_drew (keep_set (unhide HK)) | exact keep_set (keep_drew (unhide HK))
            · simp [intOf]; omega
          · have htake : ps.data.toList.take i = ps.data.toList.take 12 := by
              by_cases h12 : i = 12
              · rw [h12]
              · have : i = ps.size := by omega
                rw [List.take_of_length_le (by omega), List.take_of_length_le (by omega)]
            rw [htake, ← unhide HRAW, numRowU_last, ← unhide HTK] at hN
            have hT8 := (hK.block tb (by omega) (by omega)).trans (unhide HT7)
            have hB8 : Below nb W5 wr := (unhide HB7).trans (hK.below (by omega))
            have HN := hide hN; have HT8 := hide hT8; have HB8 := hide hB8
            clear hN hK hX hT8 hB8 htake
            by_cases hs1 : i < ps.size
            · have hd1 : (i : Int) < (ps.size : Int) := by omega
              have hd2 : ¬ (i : Int) < 12 := by omega
              go_wp2_with fail
              refine ⟨⟨q + 1, by omega, by go_num, unhide HN, unhide HT8, unhide HB8⟩, ?_⟩
              simp [intOf]; omega
            · have hd1 : decide ((i : Int) < (ps.size : Int)) = false := decide_eq_false (by omega)
              go_wp2_with fail
              refine ⟨⟨q + 1, by omega, by go_num, unhide HN, unhide HT8, unhide HB8⟩, ?_⟩
              simp [intOf]; omega
      · have hlti : ¬ (q : Int) < (ul.length : Int) := by omega
        have htq : ul.take q = ul := List.take_of_length_le (by omega)
        rw [htq] at hN hT
        have e0 : wr.cell? ⟨w1.heap.size, 0, none⟩ = some (.int .i64 uk) := (hbw.cell (p := ⟨w1.heap.size, 0, none⟩) hmn).trans q0
        have hLR : noteRL uk (rawP ul) = [.int .i64 uk, .int .i64 (rnum (rawP ul 10)), .int .i64 (rnum (rawP ul 12)), .int .i64 (rnum (rawP ul 13)), .string (ptxt (rawP ul 1)), .string (ptxt (rawP ul 9)), .string (ptxt (rawP ul 11)), .string (ptxt (rawP ul 14)), .string (ptxt (rawP ul 15)), .string (ptxt (rawP ul 16)), .int .i64 (rnum (rawP ul 5)), .int .i64 (rnum (rawP ul 6)), .int .i64 (rnum (rawP ul 2)), .bool (rnum (rawP ul 3) == 1), .int .i64 (rnum (rawP ul 4)), .int .i64 (rnum (rawP ul 7)), .string (ptxt (rawP ul 8))] := rfl
        have hL17 : Cells17 (noteRL uk (rawP ul)) := cells17 _ _ _ _
        have cn10 : wr.cell? ⟨nb, 10, none⟩ = some (.int .i64 (rnum (rawP ul 10))) := row_cell (g := fun f => Value.int .i64 (rnum (rawP ul f))) hN (by decide)
        have cn12 : wr.cell? ⟨nb, 12, none⟩ = some (.int .i64 (rnum (rawP ul 12))) := row_cell (g := fun f => Value.int .i64 (rnum (rawP ul f))) hN (by decide)
        have cn13 : wr.cell? ⟨nb, 13, none⟩ = some (.int .i64 (rnum (rawP ul 13))) := row_cell (g := fun f => Value.int .i64 (rnum (rawP ul f))) hN (by decide)
        have cn5 : wr.cell? ⟨nb, 5, none⟩ = some (.int .i64 (rnum (rawP ul 5))) := row_cell (g := fun f => Value.int .i64 (rnum (rawP ul f))) hN (by decide)
        have cn6 : wr.cell? ⟨nb, 6, none⟩ = some (.int .i64 (rnum (rawP ul 6))) := row_cell (g := fun f => Value.int .i64 (rnum (rawP ul f))) hN (by decide)
        have cn2 : wr.cell? ⟨nb, 2, none⟩ = some (.int .i64 (rnum (rawP ul 2))) := row_cell (g := fun f => Value.int .i64 (rnum (rawP ul f))) hN (by decide)
        have cn3 : wr.cell? ⟨nb, 3, none⟩ = some (.int .i64 (rnum (rawP ul 3))) := row_cell (g := fun f => Value.int .i64 (rnum (rawP ul f))) hN (by decide)
        have cn4 : wr.cell? ⟨nb, 4, none⟩ = some (.int .i64 (rnum (rawP ul 4))) := row_cell (g := fun f => Value.int .i64 (rnum (rawP ul f))) hN (by decide)
        have cn7 : wr.cell? ⟨nb, 7, none⟩ = some (.int .i64 (rnum (rawP ul 7))) := row_cell (g := fun f => Value.int .i64 (rnum (rawP ul f))) hN (by decide)
        have ct1 : wr.cell? ⟨tb, 1, none⟩ = some (.string (ptxt (rawP ul 1))) := row_cell (g := fun f => Value.string (ptxt (rawP ul f))) hT (by decide)
        have ct9 : wr.cell? ⟨tb, 9, none⟩ = some (.string (ptxt (rawP ul 9))) := row_cell (g := fun f => Value.string (ptxt (rawP ul f))) hT (by decide)
        have ct11 : wr.cell? ⟨tb, 11, none⟩ = some (.string (ptxt (rawP ul 11))) := row_cell (g := fun f => Value.string (ptxt (rawP ul f))) hT (by decide)
        have ct14 : wr.cell? ⟨tb, 14, none⟩ = some (.string (ptxt (rawP ul 14))) := row_cell (g := fun f => Value.string (ptxt (rawP ul f))) hT (by decide)
        have ct15 : wr.cell? ⟨tb, 15, none⟩ = some (.string (ptxt (rawP ul 15))) := row_cell (g := fun f => Value.string (ptxt (rawP ul f))) hT (by decide)
        have ct16 : wr.cell? ⟨tb, 16, none⟩ = some (.string (ptxt (rawP ul 16))) := row_cell (g := fun f => Value.string (ptxt (rawP ul f))) hT (by decide)
        have ct8 : wr.cell? ⟨tb, 8, none⟩ = some (.string (ptxt (rawP ul 8))) := row_cell (g := fun f => Value.string (ptxt (rawP ul f))) hT (by decide)
        have hszw := hbw.size
        have htw : tb < wr.heap.size := by omega
        have hnw : nb < wr.heap.size := by omega
        have hmw : w1.heap.size < wr.heap.size := by omega
        have HBW := hide hbw
        generalize hLL : noteRL uk (rawP ul) = L at *
        generalize rnum (rawP ul 10) = n10 at *
        generalize rnum (rawP ul 12) = n12 at *
        generalize rnum (rawP ul 13) = n13 at *
        generalize rnum (rawP ul 5) = n5 at *
        generalize rnum (rawP ul 6) = n6 at *
        generalize rnum (rawP ul 2) = n2 at *
        generalize rnum (rawP ul 3) = n3 at *
        generalize rnum (rawP ul 4) = n4 at *
        generalize rnum (rawP ul 7) = n7 at *
        generalize ptxt (rawP ul 1) = t1 at *
        generalize ptxt (rawP ul 9) = t9 at *
        generalize ptxt (rawP ul 11) = t11 at *
        generalize ptxt (rawP ul 14) = t14 at *
        generalize ptxt (rawP ul 15) = t15 at *
        generalize ptxt (rawP ul 16) = t16 at *
        generalize ptxt (rawP ul 8) = t8 at *
        have HLR := hide hLR; have HL17 := hide hL17
        clear hLR hL17 hLL hN hT hbw htq q0
        obtain ⟨nt, hnt2⟩ : ∃ nt, nt = wr.heap.size := ⟨_, rfl⟩
        have HNT := hide hnt2
        have htn : tb < nt := by omega
        have hnn : nb < nt := by omega
        go_upto_region 15 with fail
        go_cut [11] (fun v wx => v = .pointer (some ⟨nt, 0, none⟩) ∧ wx.heap[nt]? = some (.cells #[.int .i64 uk, .int .i64 n10, .int .i64 n12, .int .i64 n13, .string t1, .string t9, .string t11, .string t14, .string t15, .string t16, .int .i64 0, .int .i64 0, .int .i64 0, .bool false, .int .i64 0, .int .i64 0, .string ⟨#[]⟩] 35 (0, 0)) ∧ Below wr.heap.size wr wx)
        case first =>
          clear hnt2
          go_region_held3 (fun w' => w'.cell? ⟨w1.heap.size, 0, none⟩ = some (.int .i64 uk) ∧ w'.cell? ⟨nb, 10, none⟩ = some (.int .i64 n10) ∧ w'.cell? ⟨nb, 12, none⟩ = some (.int .i64 n12) ∧ w'.cell? ⟨nb, 13, none⟩ = some (.int .i64 n13) ∧ w'.cell? ⟨tb, 1, none⟩ = some (.string t1) ∧ w'.cell? ⟨tb, 9, none⟩ = some (.string t9) ∧ w'.cell? ⟨tb, 11, none⟩ = some (.string t11) ∧ w'.cell? ⟨tb, 14, none⟩ = some (.string t14) ∧ w'.cell? ⟨tb, 15, none⟩ = some (.string t15) ∧ w'.cell? ⟨tb, 16, none⟩ = some (.string t16))
            (first | (go_split_ands; refine ⟨?_, ?_, ?_, ?_, ?_, ?_, ?_, ?_, ?_, ?_⟩ <;> ((repeat (first | (with_reducible assumption) | (with_reducible refine drew_cellN ?_) | (with_reducible refine old_cellN ?_) | (with_reducible refine set_cellN ?_ (by omega)))); done)) | go_keep)
            (fail)
          all_goals
            go_wp2_with fail
            go_meet
            exact ⟨by rw [unhide HNT], by rw [unhide HNT]; exact heap_alloc_new _ _, ((Below.refl _ _).alloc (Nat.le_refl _) _).drew⟩
        case rest =>
        obtain ⟨rfl, hX8, hB8⟩ := hcut
        have dn2 := keep_cellN hB8 cn2
        have dn3 := keep_cellN hB8 cn3
        have dn4 := keep_cellN hB8 cn4
        have dn5 := keep_cellN hB8 cn5
        have dn6 := keep_cellN hB8 cn6
        have dn7 := keep_cellN hB8 cn7
        have dt8 := keep_cellN hB8 ct8
        have y10 : wc.cell? ⟨nt, 10, none⟩ = some (.int .i64 0) := (cell_of_row _ _ 10 _ _ _ hX8).trans rfl
        have y11 : wc.cell? ⟨nt, 11, none⟩ = some (.int .i64 0) := (cell_of_row _ _ 11 _ _ _ hX8).trans rfl
        have y12 : wc.cell? ⟨nt, 12, none⟩ = some (.int .i64 0) := (cell_of_row _ _ 12 _ _ _ hX8).trans rfl
        have y13 : wc.cell? ⟨nt, 13, none⟩ = some (.bool false) := (cell_of_row _ _ 13 _ _ _ hX8).trans rfl
        have y14 : wc.cell? ⟨nt, 14, none⟩ = some (.int .i64 0) := (cell_of_row _ _ 14 _ _ _ hX8).trans rfl
        have y15 : wc.cell? ⟨nt, 15, none⟩ = some (.int .i64 0) := (cell_of_row _ _ 15 _ _ _ hX8).trans rfl
        have y16 : wc.cell? ⟨nt, 16, none⟩ = some (.string ⟨#[]⟩) := (cell_of_row _ _ 16 _ _ _ hX8).trans rfl
        have yf : ∀ o, wc.frozen? ⟨nt, o, none⟩ = false := fun o => frozen_of_row _ _ o _ _ hX8
        have hwn : wr.heap.size ≤ nt := by omega
        have HX8 := hide hX8; have HB8 := hide hB8
        clear hX8 hB8 hnt2 cn10 cn12 cn13 cn5 cn6 cn2 cn3 cn4 cn7 ct1 ct9 ct11 ct14 ct15 ct16 ct8 e0
        go_upto_region 16 with fail
        go_cut [] (fun wx => wx.heap[nt]? = some (.cells L.toArray 35 (0, 0)) ∧ Below wr.heap.size wr wx)
        case first =>
          go_region_held3 (fun w' => w'.cell? ⟨nb, 2, none⟩ = some (.int .i64 n2) ∧ w'.cell? ⟨nb, 3, none⟩ = some (.int .i64 n3) ∧ w'.cell? ⟨nb, 4, none⟩ = some (.int .i64 n4) ∧ w'.cell? ⟨nb, 5, none⟩ = some (.int .i64 n5) ∧ w'.cell? ⟨nb, 6, none⟩ = some (.int .i64 n6) ∧ w'.cell? ⟨nb, 7, none⟩ = some (.int .i64 n7) ∧ w'.cell? ⟨tb, 8, none⟩ = some (.string t8))
            (first | (go_split_ands; refine ⟨?_, ?_, ?_, ?_, ?_, ?_, ?_⟩ <;> ((repeat (first | (with_reducible assumption) | (with_reducible refine drew_cellN ?_) | (with_reducible refine old_cellN ?_) | (with_reducible refine set_cellN ?_ (by omega)))); done)) | go_keep)
            (fail)
          all_goals
            go_wp2_with fail
            go_meet
            rw [unhide HLR]
            exact ⟨deal_stored (unhide HX8), deal_below (unhide HB8) hwn⟩
        case rest =>
        obtain ⟨hX9, hB9⟩ := hcut
        have hb59 : Below nb W5 wc := (unhide HBW).trans (hB9.mono (by omega))
        have hb09 : Below W0.heap.size W0 wc := (unhide HB5).trans (hb59.mono (by have := unhide HS0; omega))
        have N9 := hide (unhide N3 wc)
        have HRG := hide (range_of_row hX9)
        have hlt9 : nt < wc.heap.size := by
          rcases Nat.lt_or_ge nt wc.heap.size with h | h
          · exact h
          · rw [Array.getElem?_eq_none h] at hX9; cases hX9
        have HX9 := hide hX9; have HB09 := hide hb09
        clear dn2 dn3 dn4 dn5 dn6 dn7 dt8 y10 y11 y12 y13 y14 y15 y16 yf hX9 hB9 hb59 hb09
        go_wp2_with (refine wpList_load_mid rfl _ _ rfl nt 0 rfl L _ (unhide HRG) Tryd.underlying35 rfl (unhide HL17).info1 ?_)
        refine (unhide N9).mono ?_
        rintro e wa ⟨rfl, hba⟩
        have hb0a : Below W0.heap.size W0 wa := (unhide HB09).trans (hba.mono (unhide HB09).size)
        have hXA : wa.heap[w.heap.size]? = some (.cells noteZ.toArray 35 (0, 0)) := (hb0a.block _ (by have := unhide HS0; omega)).trans (unhide HX0)
        have hYA : wa.heap[nt]? = some (.cells L.toArray 35 (0, 0)) := (hba.block _ hlt9).trans (unhide HX9)
        have HXA := hide hXA; have HRGA := hide (range_of_row hYA); have HBA := hide ((unhide HB0).trans (hb0a.mono (unhide HB0).size))
        clear hba hb0a hXA hYA
        by_cases h0 : we = 0
        · subst h0
          by_cases hss : ws = s
          · subst hss
            have h1 : rb = true := by rw [unhide HB]; simp
            have h2 : rv = .agg L.toArray := by rw [unhide HV, h1]; rfl
            have h3 : re = 0 := by rw [unhide HE, h1]; rfl
            subst h2 h3
            clear h1
            go_wp2_with (first | (refine wpList_load_mid rfl _ _ rfl nt 0 rfl L _ (unhide HRGA) Tryd.underlying35 rfl (unhide HL17).info1 ?_) | (refine wpList_store_row rfl _ _ _ rfl w.heap.size L.toArray rfl rfl 35 noteZ.toArray (unhide HXA) (unhide HL17).info2 ((cells17 _ _ _ _).same (unhide HL17)) (unhide HL17).one ?_))
            refine bodyPost_ret (v := .tuple #[.agg L.toArray, .int .i64 0]) (results_cell_tmp rfl _ _ w.heap.size 35 L.toArray (0, 0) _ _ rfl rfl (by rw [setRow_heap _ _ _ _ _ _ (unhide HXA)]) Tryd.underlying35 rfl (unhide HL17).info2) rfl ⟨rfl, setRow_below (unhide HBA) (Nat.le_refl _)⟩
          · have hne : (ws.toList == s.toList) = false := by
              rw [beq_eq_false_iff_ne, Lib.toList_data, Lib.toList_data]
              exact fun h => hss (ByteArray.ext (Array.toList_inj.1 h))
            have h1 : rb = false := by rw [unhide HB]; simp [hss]
            have h2 : rv = .agg noteZ.toArray := by rw [unhide HV, h1]; rfl
            have h3 : re = 1 := by rw [unhide HE, h1]; rfl
            subst h2 h3
            clear h1
            go_wp2_with (refine wpList_store_row rfl _ _ _ rfl w.heap.size noteZ.toArray rfl rfl 35 noteZ.toArray (unhide HXA) (cells17 _ _ _ _).info2 rfl (cells17 _ _ _ _).one ?_)
            refine bodyPost_ret (v := .tuple #[.agg noteZ.toArray, .int .i64 1]) (results_cell_tmp rfl _ _ w.heap.size 35 noteZ.toArray (0, 0) _ _ rfl rfl (by rw [setRow_heap _ _ _ _ _ _ (unhide HXA)]) Tryd.underlying35 rfl (cells17 _ _ _ _).info2) rfl ⟨rfl, setRow_below (unhide HBA) (Nat.le_refl _)⟩
        · have hpe : (we != 0) = true := by simpa using h0
          have h1 : rb = false := by rw [unhide HB]; simp [h0]
          have h2 : rv = .agg noteZ.toArray := by rw [unhide HV, h1]; rfl
          have h3 : re = 1 := by rw [unhide HE, h1]; rfl
          subst h2 h3
          clear h1
          go_wp2_with (refine wpList_store_row rfl _ _ _ rfl w.heap.size noteZ.toArray rfl rfl 35 noteZ.toArray (unhide HXA) (cells17 _ _ _ _).info2 rfl (cells17 _ _ _ _).one ?_)
          refine bodyPost_ret (v := .tuple #[.agg noteZ.toArray, .int .i64 1]) (results_cell_tmp rfl _ _ w.heap.size 35 noteZ.toArray (0, 0) _ _ rfl rfl (by rw [setRow_heap _ _ _ _ _ _ (unhide HXA)]) Tryd.underlying35 rfl (cells17 _ _ _ _).info2) rfl ⟨rfl, setRow_below (unhide HBA) (Nat.le_refl _)⟩
  · have hpe : (ue != 0) = true := by simpa using hue
    have h1 : rb = false := by rw [unhide HB]; simp [hue]
    have h2 : rv = .agg noteZ.toArray := by rw [unhide HV, h1]; rfl
    have h3 : re = 1 := by rw [unhide HE, h1]; rfl
    subst h2 h3
    have hX5 : NoteAt W2 w.heap.size noteZ := ((unhide HB2).block _ (by have := unhide HS0; omega)).trans (unhide HX0)
    have HX5 := hide hX5
    have HB5 := hide ((unhide HB0).trans ((unhide HB2).mono (unhide HB0).size))
    unfold NoteAt at HX5
    clear h1 hX5
    go_wp2_with (refine wpList_store_row rfl _ _ _ rfl w.heap.size noteZ.toArray rfl rfl 35 noteZ.toArray (unhide HX5) (cells17 _ _ _ _).info2 rfl (cells17 _ _ _ _).one ?_)
    refine bodyPost_ret (v := .tuple #[.agg noteZ.toArray, .int .i64 1]) (results_cell_tmp rfl _ _ w.heap.size 35 noteZ.toArray (0, 0) _ _ rfl rfl (by rw [setRow_heap _ _ _ _ _ _ (unhide HX5)]) Tryd.underlying35 rfl (cells17 _ _ _ _).info2) rfl ⟨rfl, setRow_below (unhide HB5) (Nat.le_refl _)⟩
end Go.Proofs.YtkmmgeoialdmlaaDoor
