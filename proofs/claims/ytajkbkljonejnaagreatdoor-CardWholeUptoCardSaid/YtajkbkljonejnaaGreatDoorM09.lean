/- A fold as the program makes it: piece by piece. -/
import Derived.Test.YtajkbkljonejnaaGreatDoorM08
import Derived.Lib.BufferWrite
import Derived.Laws.CopyOwn
namespace Go.Proofs.YtajkbkljonejnaaGreatDoor
open Go.RowKit
set_option linter.unusedVariables false
theorem blkOf_take (l : List UInt8) : blkOf (l.take 16) = blkOf l := by
  have h : ∀ j, j < 4 → wordAt (l.take 16) j = wordAt l j := by
    intro j hj
    unfold wordAt
    rw [List.drop_take, List.take_take, Nat.min_eq_left (by omega)]
  unfold blkOf
  rw [h 0 (by omega), h 1 (by omega), h 2 (by omega), h 3 (by omega)]
theorem extract_listM (s : ByteArray) (i j : Nat) : (s.extract i j).data.toList = (s.data.toList.drop i).take (j - i) := by
  rw [ByteArray.data_extract, Array.toList_extract, List.extract_eq_take_drop]
theorem extract_all (s : ByteArray) (i : Nat) : (s.extract i s.size).data.toList = s.data.toList.drop i := by
  rw [extract_listM, List.take_of_length_le (by simp)]
theorem blkOf_piece (s : ByteArray) (k : Nat) : blkOf (s.extract (k * 16) s.size).data.toList = blkOf (piece s.data.toList k) := by
  rw [extract_all, piece, blkOf_take, Nat.mul_comm]
theorem own_whole {w : World} {base g n : Nat} {e : TypeId} {xs : List Value} (h : w.ownsRow base e 1 (.slice (some ⟨g, 0, none⟩) n n) n xs) : w.heap[g]? = some (.cells xs.toArray e (0, 0)) := by
  rcases h.2 with ⟨h1, h2⟩ | ⟨g', cap, cur, h1, hB, hh, hle, hm, hsz, htk⟩
  · simp at h1
  · simp only [Value.slice.injEq, Option.some.injEq, Addr.mk.injEq, and_true, true_and] at h1
    obtain ⟨rfl, rfl⟩ := h1
    rw [hh]
    congr 2
    have : cur.toList = xs := by
      rw [← htk, List.take_of_length_le (by simp; omega)]
    rw [← this]
def u8s (l : List UInt8) : List Int := l.map fun b => (b.toNat : Int)
theorem u8s_str (l : List UInt8) : (strOfNums (u8s l)).data.toList = l := by
  rw [strOfNums_data, u8s, List.map_map]
  conv => rhs; rw [← List.map_id l]
  apply List.map_congr_left
  intro b _
  simp
theorem lastCells (l : List UInt8) (r : List UInt8) (hr : r = l.drop (16 * (l.length / 16))) : (Lib.byteCells r ++ List.replicate (16 - r.length) (Value.int .u8 0)).set r.length (.int .u8 128) = (u8s (lastPiece l)).map (Value.int .u8) := by
  have hl : r.length = l.length % 16 := by rw [hr, List.length_drop]; omega
  rw [show 16 - r.length = (15 - r.length) + 1 by omega, List.replicate_succ, List.set_append_right _ _ (by rw [Lib.byteCells_length]; omega), Lib.byteCells_length, Nat.sub_self, List.set_cons_zero]
  unfold lastPiece u8s
  rw [← hr, fillN, ← hl]
  simp only [List.map_append, List.map_cons, List.map_map, List.map_replicate]
  rfl
theorem lenBlk_ok (x y : Nat) (hx : x < 4294967296) (hy : y < 4294967296) : Blk.ok ⟨0, 0, x, y⟩ := ⟨show (0 : Nat) < 4294967296 by decide, show (0 : Nat) < 4294967296 by decide, hx, hy⟩
theorem row_cells {w : World} {g : Nat} {lp : List Int} {e : TypeId} (h : w.heap[g]? = some (.cells (lp.map (Value.int .u8)).toArray e (0, 0))) (n : Nat) (hn : lp.length = n) : ∀ i, i < n → w.cell? ⟨g, 0 + i, none⟩ = some (.int .u8 (lp.getD i 0)) := by
  intro i hi
  rw [Nat.zero_add, cell_of_row _ _ i _ _ _ h]
  simp [List.getElem?_eq_getElem (show i < lp.length by omega)]
set_option maxHeartbeats 4000000 in
set_option maxRecDepth 100000 in
theorem eachPiece_any (s : ByteArray) (hs : (s.size : Int) ≤ 1099511627776) (b : Nat) (w : World) (hb : BlkAt w b zeroB) :
    Calls Tryz.prog 115 #[.string s, .func (.func 116) #[] #[.pointer (some ⟨b, 0, none⟩)]] w fun e w' => e = .returned (.tuple #[]) ∧ BlkAt w' b (foldB s.data.toList) ∧ Below b w w' := by
  obtain ⟨i0, hi, hz0, hz1, hz2⟩ := info_parts infoByte
  have hlen : s.data.toList.length = s.size := by simp
  have hfin := foldB_eq s.data.toList (by omega)
  rw [hlen] at hfin
  obtain ⟨q, hq⟩ : ∃ q, q = s.size / 16 := ⟨_, rfl⟩
  have hqi : (s.size : Int) / 16 = (q : Int) := by omega
  have hq16 : q * 16 ≤ s.size := by omega
  rw [← hq] at hfin
  have HF := hide hfin
  have HQ := hide hq
  have HL := hide hlen
  clear hfin hq hlen
  have hb0 : BlkAt w b (foldN s.data.toList 0) := hb
  clear hb
  go_enter Tryz.func115, Tryz.ntmps115
  go_wp2
  go_loopw [13] (fun i wr => ∃ k : Nat, k ≤ q ∧ i = .int .i64 k ∧ BlkAt wr b (foldN s.data.toList k) ∧ Below b w wr) (fun i _ => q - (intOf i).toNat)
  case atStart => exact ⟨0, Nat.zero_le _, rfl, hb0, Below.refl _ _⟩
  case round =>
    obtain ⟨k, hk, rfl, hB, hbel⟩ := hrel
    by_cases hlt : k < q
    · have r1 := fun w => read_any (s.extract (k * 16) s.size) (by simp; omega) w
      rw [blkOf_piece] at r1
      have hst : foldN s.data.toList (k + 1) = foldStep (foldN s.data.toList k) (blkOf (piece s.data.toList k)) := rfl
      have r2 := fun w1 (h1 : BlkAt w1 b (foldN s.data.toList k)) => fold1_any (blkOf (piece s.data.toList k)) (foldN s.data.toList k) (blkOf_ok _) (foldN_ok _ _) b w1 h1
      rw [← hst] at r2
      generalize blkOf (piece s.data.toList k) = p at *
      have R1 := hide r1
      have R2 := hide r2
      have HB := hide hB
      have HW := hide hbel
      clear r1 r2 hst hB hbel hb0
      generalize blkV p = pv at *
      have hki : (k : Int) * 16 ≤ (s.size : Int) := by omega
      go_wp2_with fail
      refine (unhide R1 _).mono ?_
      rintro e w1 ⟨rfl, b1⟩
      have hlt1 := (unhide HB).lt
      have B1 := hide ((unhide HB).below b1)
      have W1 := hide ((unhide HW).trans (b1.mono (Nat.le_of_lt hlt1)))
      clear b1 HB HW R1
      go_wp2_with fail
      refine (unhide R2 _ (unhide B1)).mono ?_
      rintro e w2 ⟨rfl, hB2, b2⟩
      have W2 := hide ((unhide W1).trans b2)
      have HB2 := hide hB2
      clear b2 W1 B1 R2 hB2
      go_wp2
      go_roundw
      case rel => exact ⟨k + 1, by omega, by go_num, unhide HB2, unhide W2⟩
      case measure => simp [intOf]; omega
    · have hkq : k = q := by omega
      subst hkq
      obtain ⟨r, hr⟩ : ∃ r, r = s.extract (k * 16) s.size := ⟨_, rfl⟩
      have hrd : r.data.toList = s.data.toList.drop (16 * (s.data.toList.length / 16)) := by
        rw [hr, extract_all, unhide HL, ← unhide HQ, Nat.mul_comm]
      have hrs : r.size = s.size - k * 16 := by rw [hr]; simp
      have hr16 : r.size < 16 := by have := unhide HQ; omega
      have hrl : r.data.toList.length = r.size := by simp
      have hlc := lastCells s.data.toList r.data.toList hrd
      rw [hrl] at hlc
      have r1 := fun w => read_any (strOfNums (u8s (lastPiece s.data.toList))) (by rw [strOfNums_size, u8s, List.length_map, lastPiece_length]; omega) w
      rw [u8s_str] at r1
      have r2 := fun w1 (h1 : BlkAt w1 b (foldN s.data.toList k)) => fold1_any (blkOf (lastPiece s.data.toList)) (foldN s.data.toList k) (blkOf_ok _) (foldN_ok _ _) b w1 h1
      have hfo := foldStep_ok (foldN_ok s.data.toList k) (blkOf (lastPiece s.data.toList))
      obtain ⟨hi32, hhi⟩ : ∃ x, x = s.size / 4294967296 := ⟨_, rfl⟩
      obtain ⟨lo32, hlo⟩ : ∃ x, x = s.size % 4294967296 := ⟨_, rfl⟩
      have hhii : (s.size : Int) / 4294967296 = (hi32 : Int) := by omega
      have hloi : (s.size : Int) % 4294967296 = (lo32 : Int) := by omega
      have hhb : hi32 ≤ 256 := by omega
      have hlb : lo32 < 4294967296 := by omega
      have hpk : Blk.ok ⟨0, 0, hi32, lo32⟩ := lenBlk_ok _ _ (by omega) hlb
      have r3 := fun w1 (h1 : BlkAt w1 b (foldStep (foldN s.data.toList k) (blkOf (lastPiece s.data.toList)))) => fold1_any ⟨0, 0, hi32, lo32⟩ (foldStep (foldN s.data.toList k) (blkOf (lastPiece s.data.toList))) hpk hfo b w1 h1
      have hfin := unhide HF
      rw [← hhi, ← hlo] at hfin
      rw [← hfin] at r3
      generalize foldStep (foldN s.data.toList k) (blkOf (lastPiece s.data.toList)) = h2 at *
      obtain ⟨h3, hh3⟩ : ∃ h3, h3 = foldB s.data.toList := ⟨_, rfl⟩
      rw [← hh3] at r3 hfin
      have HH3 := hide hh3
      clear hh3
      generalize foldN s.data.toList k = h1 at *
      generalize hlp : u8s (lastPiece s.data.toList) = lp at *
      have hlpl : lp.length = 16 := by rw [← hlp, u8s, List.length_map, lastPiece_length]
      clear hlp
      generalize blkOf (lastPiece s.data.toList) = p at *
      generalize blkV p = pv at *
      have hpv3 : blkV ⟨0, 0, hi32, lo32⟩ = .agg #[.int .u32 0, .int .u32 0, .int .u32 (hi32 : Nat), .int .u32 (lo32 : Nat)] := rfl
      rw [hpv3] at r3
      have R1 := hide r1
      have R2 := hide r2
      have R3 := hide r3
      have HB := hide hB
      have HW := hide hbel
      have HR := hide hr
      have hlt1 := hB.lt
      have HC := hide hlc
      clear r1 r2 r3 hB hbel hb0 hr hlc hfin hrd hfo hpk hpv3 HF HQ HL hhi hlo hrl
      go_wp2_with (at_make; refine wpList_make_full _ rfl _ _ 55 rfl wr.heap.size 5 i0 (.int .u8 0) 1 Tryz.underlying55 hi hz0 hz1 .i64 .i64 _ _ 16 rfl rfl rfl rfl (by rw [hz2]; omega) (by unfold maxLen; omega) (Nat.le_refl _) ?_)
      intro w1 hown hgrow
      have hz := own_whole hown
      have hb1 : Below wr.heap.size wr w1 := (Below.refl _ _).grown hgrow (Nat.le_refl _) (fun q hq => by cases hq)
      have hcl : (madeCells #[Value.int .u8 0] 16).toList = List.replicate 16 (Value.int .u8 0) := by
        rw [made_zeros, List.map_replicate]
      rw [hcl] at hz
      have hcp := Lib.run_copy_row_string (P := Tryz.prog) w1 55 9 3 5 wr.heap.size 0 16 16 r _ 5 Tryz.underlying55 (by rw [hi]; simp [hz1]) hz (by omega) (by simp; omega)
      have hW2 := setRow_heap w1 wr.heap.size _ (List.take 0 (List.replicate 16 (Value.int .u8 0)).toArray.toList ++ Lib.byteCells r.data.toList ++ List.drop (0 + r.size) (List.replicate 16 (Value.int .u8 0)).toArray.toList).toArray _ _ hz
      have hB2 := below_setRow (B := wr.heap.size) hb1 (Nat.le_refl _) (List.take 0 (List.replicate 16 (Value.int .u8 0)).toArray.toList ++ Lib.byteCells r.data.toList ++ List.drop (0 + r.size) (List.replicate 16 (Value.int .u8 0)).toArray.toList).toArray
      generalize w1.setRow wr.heap.size _ = W2 at hcp hW2 hB2
      have hcs : (List.take 0 (List.replicate 16 (Value.int .u8 0)).toArray.toList ++ Lib.byteCells r.data.toList ++ List.drop (0 + r.size) (List.replicate 16 (Value.int .u8 0)).toArray.toList) = Lib.byteCells r.data.toList ++ List.replicate (16 - r.size) (Value.int .u8 0) := by
        simp only [List.take_zero, List.nil_append, Nat.zero_add, List.drop_replicate]
      rw [hcs] at hW2
      clear hown hgrow hz hb1 hcl hcs hi hz0 hz1 hz2
      have hrs2 : (s.extract (k * 16) s.size).size = s.size - k * 16 := by rw [← unhide HR, hrs]
      rw [unhide HR, hrs2] at hcp
      rw [hrs] at hW2
      have hc := unhide HC
      rw [hrs] at hc
      rw [hrs] at hr16
      have hbl : (Lib.byteCells r.data.toList).length = s.size - k * 16 := by rw [Lib.byteCells_length, ← hrs]; simp
      obtain ⟨rn, hrn⟩ : ∃ rn, rn = s.size - k * 16 := ⟨_, rfl⟩
      obtain ⟨v2, hv2⟩ : ∃ v, (Lib.byteCells r.data.toList ++ List.replicate (16 - (s.size - k * 16)) (Value.int .u8 0))[s.size - k * 16]? = some v := ⟨_, List.getElem?_eq_getElem (by rw [List.length_append, hbl, List.length_replicate]; omega)⟩
      have c2 : W2.cell? ⟨wr.heap.size, s.size - k * 16, none⟩ = some v2 := by
        rw [cell_of_row _ _ _ _ _ _ hW2]; simpa using hv2
      have f2 : W2.frozen? ⟨wr.heap.size, s.size - k * 16, none⟩ = false := frozen_of_row _ _ _ _ _ hW2
      have hW3 := set_rowM (j := s.size - k * 16) (v := .int .u8 128) hW2
      rw [List.setIfInBounds_toArray, hc] at hW3
      have hcv := run_convert_bytes_arg (P := Tryz.prog) (W2.setCell ⟨wr.heap.size, s.size - k * 16, none⟩ (.int .u8 128)) 55 5 Tryz.underlying55 Tryz.underlying5 wr.heap.size 0 16 16 lp hlpl (row_cells hW3 16 hlpl) 9 Tryz.underlying9
      have B3 := hide (((unhide HB).below hB2).other wr.heap.size (s.size - k * 16) (by omega) (.int .u8 128))
      have W3 := hide (((unhide HW).trans (hB2.mono (Nat.le_of_lt hlt1))).setCell (p := ⟨wr.heap.size, s.size - k * 16, none⟩) (Nat.le_of_lt hlt1) (.int .u8 128))
      have hr16i : ((s.size - k * 16 : Nat) : Int) < 16 := by omega
      clear hW3 hW2 hB2 hv2 hbl hc hrs2 HR HC HB HW hrn rn hr16 hrs
      generalize s.size - k * 16 = rn at *
      have blt : b < (W2.setCell ⟨wr.heap.size, rn, none⟩ (.int .u8 128)).heap.size := (unhide B3).lt
      go_wp2_with fail
      refine (unhide R1 _).mono ?_
      rintro e x1 ⟨rfl, b1⟩
      have B4 := hide ((unhide B3).below b1)
      have W4 := hide ((unhide W3).trans (b1.mono (Nat.le_of_lt blt)))
      clear b1 B3 W3 R1 blt hcv c2 f2 hcp
      go_wp2_with fail
      refine (unhide R2 _ (unhide B4)).mono ?_
      rintro e x2 ⟨rfl, hB5, b2⟩
      have W5 := hide ((unhide W4).trans b2)
      have B5 := hide hB5
      clear b2 W4 B4 R2 hB5
      go_wp2_with fail
      refine (unhide R3 _ (unhide B5)).mono ?_
      rintro e x3 ⟨rfl, hB6, b3⟩
      have W6 := hide ((unhide W5).trans b3)
      have B6 := hide hB6
      clear b3 W5 B5 R3 hB6
      go_wp2
      go_end0
      exact ⟨rfl, by rw [← unhide HH3]; exact unhide B6, unhide W6⟩
set_option maxHeartbeats 2000000 in
set_option maxRecDepth 100000 in
theorem fold_any (s : ByteArray) (hs : (s.size : Int) ≤ 1099511627776) (w : World) :
    Calls Tryz.prog 81 #[.string s] w fun e w' => e = .returned (.string (foldS s)) ∧ Below w.heap.size w w' := by
  have hmf : ∀ (fn : Fn) (first cap : Array Value) (w : World), (Instr.makeFunc fn first cap).run Tryz.prog w = .ok (.func fn first cap) w := fun _ _ _ _ => rfl
  have r2 := fun w => mtext_any (foldB s.data.toList) (foldB_ok _) w
  have e2 : blkS (foldB s.data.toList) = foldS s := rfl
  rw [e2] at r2
  have r1 := fun b w hb => eachPiece_any s hs b w hb
  generalize foldS s = t at *
  generalize foldB s.data.toList = f at *
  have R1 := hide r1
  have R2 := hide r2
  clear r1 r2 e2 hs
  go_enter Tryz.func81, Tryz.ntmps81
  go_wp2_with fail
  obtain ⟨hbel, q0, hsz⟩ := one_new w (.cells #[.int .u32 0, .int .u32 0, .int .u32 0, .int .u32 0] 131)
  generalize w.alloc _ = W at hbel q0 hsz ⊢
  have hZ : BlkAt W w.heap.size zeroB := q0
  refine (unhide R1 w.heap.size _ hZ).mono ?_
  rintro e w1 ⟨rfl, hB1, b1⟩
  have W1 := hide (hbel.trans b1)
  have c0 := hB1.cell0
  have c1 := hB1.cell1
  have c2 := hB1.cell2
  have c3 := hB1.cell3
  have hlt := hB1.lt
  clear hbel q0 hsz hZ b1 hB1 R1
  unfold blkV at R2
  go_wp2_with fail
  refine (unhide R2 _).mono ?_
  rintro e w2 ⟨rfl, b2⟩
  go_wp2
  go_ret
  exact ⟨rfl, (unhide W1).trans (b2.mono (Nat.le_of_lt hlt))⟩
end Go.Proofs.YtajkbkljonejnaaGreatDoor
