/- A fold as the program makes it: piece by piece. -/
import Derived.Test.YtckkhpegimkefaaGreatDoorM02
import Derived.Lib.BufferWrite
import Derived.Laws.CopyOwn
import Derived.Shelf.Strings.Builder1
import Derived.Shelf.Strings.Builder2
import Derived.Shelf.Strings.BuilderF
import Derived.Shelf.Strings.Prefix
import Derived.Shelf.Bits.Mul64
import Derived.Shelf.Strings.Repeat
import Derived.Test.YtckkhpegimkefaaGreatDoorProg
import Derived.Test.YtckkhpegimkefaaGreatDoorRows
import Derived.Test.YtckkhpegimkefaaGreatDoorM00
import Derived.ProofKit
import Derived.SliceStrings
import Derived.OpenShut
namespace Go.Proofs.YtckkhpegimkefaaGreatDoor
open Go.RowKit
set_option linter.unusedVariables false

theorem blkOf_take (l : List UInt8) : blkOf (l.take 16) = blkOf l := by
  have h : ∀ j, j < 4 → wordAt (l.take 16) j = wordAt l j := by
    intro j hj
    unfold wordAt
    rw [List.drop_take, List.take_take, Nat.min_eq_left (by omega)]
  unfold blkOf
  rw [h 0 (by omega), h 1 (by omega), h 2 (by omega), h 3 (by omega)]
theorem extract_listM (s : ByteArray) (i j : Nat) : (s.extract i j).data.toList = (s.data.toList.drop i).take (j - i) := by
  rw [ByteArray.data_extract, Array.toList_extract, List.extract_eq_take_drop]
theorem extract_all (s : ByteArray) (i : Nat) : (s.extract i s.size).data.toList = s.data.toList.drop i := by
  rw [extract_listM, List.take_of_length_le (by simp)]
theorem blkOf_piece (s : ByteArray) (k : Nat) : blkOf (s.extract (k * 16) s.size).data.toList = blkOf (piece s.data.toList k) := by
  rw [extract_all, piece, blkOf_take, Nat.mul_comm]
theorem own_whole {w : World} {base g n : Nat} {e : TypeId} {xs : List Value} (h : w.ownsRow base e 1 (.slice (some ⟨g, 0, none⟩) n n) n xs) : w.heap[g]? = some (.cells xs.toArray e (0, 0)) := by
  rcases h.2 with ⟨h1, h2⟩ | ⟨g', cap, cur, h1, hB, hh, hle, hm, hsz, htk⟩
  · simp at h1
  · simp only [Value.slice.injEq, Option.some.injEq, Addr.mk.injEq, and_true, true_and] at h1
    obtain ⟨rfl, rfl⟩ := h1
    rw [hh]
    congr 2
    have : cur.toList = xs := by
      rw [← htk, List.take_of_length_le (by simp; omega)]
    rw [← this]
def u8s (l : List UInt8) : List Int := l.map fun b => (b.toNat : Int)
theorem u8s_str (l : List UInt8) : (strOfNums (u8s l)).data.toList = l := by
  rw [strOfNums_data, u8s, List.map_map]
  conv => rhs; rw [← List.map_id l]
  apply List.map_congr_left
  intro b _
  simp
theorem lastCells (l : List UInt8) (r : List UInt8) (hr : r = l.drop (16 * (l.length / 16))) : (Lib.byteCells r ++ List.replicate (16 - r.length) (Value.int .u8 0)).set r.length (.int .u8 128) = (u8s (lastPiece l)).map (Value.int .u8) := by
  have hl : r.length = l.length % 16 := by rw [hr, List.length_drop]; omega
  rw [show 16 - r.length = (15 - r.length) + 1 by omega, List.replicate_succ, List.set_append_right _ _ (by rw [Lib.byteCells_length]; omega), Lib.byteCells_length, Nat.sub_self, List.set_cons_zero]
  unfold lastPiece u8s
  rw [← hr, fillN, ← hl]
  simp only [List.map_append, List.map_cons, List.map_map, List.map_replicate]
  rfl

theorem lenBlk_ok (x y : Nat) (hx : x < 4294967296) (hy : y < 4294967296) : Blk.ok ⟨0, 0, x, y⟩ := ⟨show (0 : Nat) < 4294967296 by decide, show (0 : Nat) < 4294967296 by decide, hx, hy⟩
theorem row_cells {w : World} {g : Nat} {lp : List Int} {e : TypeId} (h : w.heap[g]? = some (.cells (lp.map (Value.int .u8)).toArray e (0, 0))) (n : Nat) (hn : lp.length = n) : ∀ i, i < n → w.cell? ⟨g, 0 + i, none⟩ = some (.int .u8 (lp.getD i 0)) := by
  intro i hi
  rw [Nat.zero_add, cell_of_row _ _ i _ _ _ h]
  simp [List.getElem?_eq_getElem (show i < lp.length by omega)]

set_option maxHeartbeats 4000000 in
set_option maxRecDepth 100000 in
theorem eachPiece_any (s : ByteArray) (hs : (s.size : Int) ≤ 1099511627776) (b : Nat) (w : World) (hb : BlkAt w b zeroB) :
    Calls Tryz.prog 79 #[.string s, .func (.func 80) #[] #[.pointer (some ⟨b, 0, none⟩)]] w fun e w' => e = .returned (.tuple #[]) ∧ BlkAt w' b (foldB s.data.toList) ∧ Below b w w' := by
  obtain ⟨i0, hi, hz0, hz1, hz2⟩ := info_parts infoByte
  have hlen : s.data.toList.length = s.size := by simp
  have hfin := foldB_eq s.data.toList (by omega)
  rw [hlen] at hfin
  obtain ⟨q, hq⟩ : ∃ q, q = s.size / 16 := ⟨_, rfl⟩
  have hqi : (s.size : Int) / 16 = (q : Int) := by omega
  have hq16 : q * 16 ≤ s.size := by omega
  rw [← hq] at hfin
  have HF := hide hfin
  have HQ := hide hq
  have HL := hide hlen
  clear hfin hq hlen
  have hb0 : BlkAt w b (foldN s.data.toList 0) := hb
  clear hb
  go_enter Tryz.func79, Tryz.ntmps79
  go_wp2
  go_loopw [13] (fun i wr => ∃ k : Nat, k ≤ q ∧ i = .int .i64 k ∧ BlkAt wr b (foldN s.data.toList k) ∧ Below b w wr) (fun i _ => q - (intOf i).toNat)
  case atStart => exact ⟨0, Nat.zero_le _, rfl, hb0, Below.refl _ _⟩
  case round =>
    obtain ⟨k, hk, rfl, hB, hbel⟩ := hrel
    by_cases hlt : k < q
    · have r1 := fun w => read_any (s.extract (k * 16) s.size) (by simp; omega) w
      rw [blkOf_piece] at r1
      have hst : foldN s.data.toList (k + 1) = foldStep (foldN s.data.toList k) (blkOf (piece s.data.toList k)) := rfl
      have r2 := fun w1 (h1 : BlkAt w1 b (foldN s.data.toList k)) => fold1_any (blkOf (piece s.data.toList k)) (foldN s.data.toList k) (blkOf_ok _) (foldN_ok _ _) b w1 h1
      rw [← hst] at r2
      generalize blkOf (piece s.data.toList k) = p at *
      have R1 := hide r1
      have R2 := hide r2
      have HB := hide hB
      have HW := hide hbel
      clear r1 r2 hst hB hbel hb0
      generalize blkV p = pv at *
      have hki : (k : Int) * 16 ≤ (s.size : Int) := by omega
      go_wp2_with fail
      refine (unhide R1 _).mono ?_
      rintro e w1 ⟨rfl, b1⟩
      have hlt1 := (unhide HB).lt
      have B1 := hide ((unhide HB).below b1)
      have W1 := hide ((unhide HW).trans (b1.mono (Nat.le_of_lt hlt1)))
      clear b1 HB HW R1
      go_wp2_with fail
      refine (unhide R2 _ (unhide B1)).mono ?_
      rintro e w2 ⟨rfl, hB2, b2⟩
      have W2 := hide ((unhide W1).trans b2)
      have HB2 := hide hB2
      clear b2 W1 B1 R2 hB2
      go_wp2
      go_roundw
      case rel => exact ⟨k + 1, by omega, by go_num, unhide HB2, unhide W2⟩
      case measure => simp [intOf]; omega
    · have hkq : k = q := by omega
      subst hkq
      obtain ⟨r, hr⟩ : ∃ r, r = s.extract (k * 16) s.size := ⟨_, rfl⟩
      have hrd : r.data.toList = s.data.toList.drop (16 * (s.data.toList.length / 16)) := by
        rw [hr, extract_all, unhide HL, ← unhide HQ, Nat.mul_comm]
      have hrs : r.size = s.size - k * 16 := by rw [hr]; simp
      have hr16 : r.size < 16 := by have := unhide HQ; omega
      have hrl : r.data.toList.length = r.size := by simp
      have hlc := lastCells s.data.toList r.data.toList hrd
      rw [hrl] at hlc
      have r1 := fun w => read_any (strOfNums (u8s (lastPiece s.data.toList))) (by rw [strOfNums_size, u8s, List.length_map, lastPiece_length]; omega) w
      rw [u8s_str] at r1
      have r2 := fun w1 (h1 : BlkAt w1 b (foldN s.data.toList k)) => fold1_any (blkOf (lastPiece s.data.toList)) (foldN s.data.toList k) (blkOf_ok _) (foldN_ok _ _) b w1 h1
      have hfo := foldStep_ok (foldN_ok s.data.toList k) (blkOf (lastPiece s.data.toList))
      obtain ⟨hi32, hhi⟩ : ∃ x, x = s.size / 4294967296 := ⟨_, rfl⟩
      obtain ⟨lo32, hlo⟩ : ∃ x, x = s.size % 4294967296 := ⟨_, rfl⟩
      have hhii : (s.size : Int) / 4294967296 = (hi32 : Int) := by omega
      have hloi : (s.size : Int) % 4294967296 = (lo32 : Int) := by omega
      have hhb : hi32 ≤ 256 := by omega
      have hlb : lo32 < 4294967296 := by omega
      have hpk : Blk.ok ⟨0, 0, hi32, lo32⟩ := lenBlk_ok _ _ (by omega) hlb
      have r3 := fun w1 (h1 : BlkAt w1 b (foldStep (foldN s.data.toList k) (blkOf (lastPiece s.data.toList)))) => fold1_any ⟨0, 0, hi32, lo32⟩ (foldStep (foldN s.data.toList k) (blkOf (lastPiece s.data.toList))) hpk hfo b w1 h1
      have hfin := unhide HF
      rw [← hhi, ← hlo] at hfin
      rw [← hfin] at r3
      generalize foldStep (foldN s.data.toList k) (blkOf (lastPiece s.data.toList)) = h2 at *
      obtain ⟨h3, hh3⟩ : ∃ h3, h3 = foldB s.data.toList := ⟨_, rfl⟩
      rw [← hh3] at r3 hfin
      have HH3 := hide hh3
      clear hh3
      generalize foldN s.data.toList k = h1 at *
      generalize hlp : u8s (lastPiece s.data.toList) = lp at *
      have hlpl : lp.length = 16 := by rw [← hlp, u8s, List.length_map, lastPiece_length]
      clear hlp
      generalize blkOf (lastPiece s.data.toList) = p at *
      generalize blkV p = pv at *
      have hpv3 : blkV ⟨0, 0, hi32, lo32⟩ = .agg #[.int .u32 0, .int .u32 0, .int .u32 (hi32 : Nat), .int .u32 (lo32 : Nat)] := rfl
      rw [hpv3] at r3
      have R1 := hide r1
      have R2 := hide r2
      have R3 := hide r3
      have HB := hide hB
      have HW := hide hbel
      have HR := hide hr
      have hlt1 := hB.lt
      have HC := hide hlc
      clear r1 r2 r3 hB hbel hb0 hr hlc hfin hrd hfo hpk hpv3 HF HQ HL hhi hlo hrl
      go_wp2_with (at_make; refine wpList_make_full _ rfl _ _ 43 rfl wr.heap.size 5 i0 (.int .u8 0) 1 Tryz.underlying43 hi hz0 hz1 .i64 .i64 _ _ 16 rfl rfl rfl rfl (by rw [hz2]; omega) (by unfold maxLen; omega) (Nat.le_refl _) ?_)
      intro w1 hown hgrow
      have hz := own_whole hown
      have hb1 : Below wr.heap.size wr w1 := (Below.refl _ _).grown hgrow (Nat.le_refl _) (fun q hq => by cases hq)
      have hcl : (madeCells #[Value.int .u8 0] 16).toList = List.replicate 16 (Value.int .u8 0) := by
        rw [made_zeros, List.map_replicate]
      rw [hcl] at hz
      have hcp := Lib.run_copy_row_string (P := Tryz.prog) w1 43 9 3 5 wr.heap.size 0 16 16 r _ 5 Tryz.underlying43 (by rw [hi]; simp [hz1]) hz (by omega) (by simp; omega)
      have hW2 := setRow_heap w1 wr.heap.size _ (List.take 0 (List.replicate 16 (Value.int .u8 0)).toArray.toList ++ Lib.byteCells r.data.toList ++ List.drop (0 + r.size) (List.replicate 16 (Value.int .u8 0)).toArray.toList).toArray _ _ hz
      have hB2 := below_setRow (B := wr.heap.size) hb1 (Nat.le_refl _) (List.take 0 (List.replicate 16 (Value.int .u8 0)).toArray.toList ++ Lib.byteCells r.data.toList ++ List.drop (0 + r.size) (List.replicate 16 (Value.int .u8 0)).toArray.toList).toArray
      generalize w1.setRow wr.heap.size _ = W2 at hcp hW2 hB2
      have hcs : (List.take 0 (List.replicate 16 (Value.int .u8 0)).toArray.toList ++ Lib.byteCells r.data.toList ++ List.drop (0 + r.size) (List.replicate 16 (Value.int .u8 0)).toArray.toList) = Lib.byteCells r.data.toList ++ List.replicate (16 - r.size) (Value.int .u8 0) := by
        simp only [List.take_zero, List.nil_append, Nat.zero_add, List.drop_replicate]
      rw [hcs] at hW2
      clear hown hgrow hz hb1 hcl hcs hi hz0 hz1 hz2
      have hrs2 : (s.extract (k * 16) s.size).size = s.size - k * 16 := by rw [← unhide HR, hrs]
      rw [unhide HR, hrs2] at hcp
      rw [hrs] at hW2
      have hc := unhide HC
      rw [hrs] at hc
      rw [hrs] at hr16
      have hbl : (Lib.byteCells r.data.toList).length = s.size - k * 16 := by rw [Lib.byteCells_length, ← hrs]; simp
      obtain ⟨rn, hrn⟩ : ∃ rn, rn = s.size - k * 16 := ⟨_, rfl⟩
      obtain ⟨v2, hv2⟩ : ∃ v, (Lib.byteCells r.data.toList ++ List.replicate (16 - (s.size - k * 16)) (Value.int .u8 0))[s.size - k * 16]? = some v := ⟨_, List.getElem?_eq_getElem (by rw [List.length_append, hbl, List.length_replicate]; omega)⟩
      have c2 : W2.cell? ⟨wr.heap.size, s.size - k * 16, none⟩ = some v2 := by
        rw [cell_of_row _ _ _ _ _ _ hW2]; simpa using hv2
      have f2 : W2.frozen? ⟨wr.heap.size, s.size - k * 16, none⟩ = false := frozen_of_row _ _ _ _ _ hW2
      have hW3 := set_rowM (j := s.size - k * 16) (v := .int .u8 128) hW2
      rw [List.setIfInBounds_toArray, hc] at hW3
      have hcv := run_convert_bytes_arg (P := Tryz.prog) (W2.setCell ⟨wr.heap.size, s.size - k * 16, none⟩ (.int .u8 128)) 43 5 Tryz.underlying43 Tryz.underlying5 wr.heap.size 0 16 16 lp hlpl (row_cells hW3 16 hlpl) 9 Tryz.underlying9
      have B3 := hide (((unhide HB).below hB2).other wr.heap.size (s.size - k * 16) (by omega) (.int .u8 128))
      have W3 := hide (((unhide HW).trans (hB2.mono (Nat.le_of_lt hlt1))).setCell (p := ⟨wr.heap.size, s.size - k * 16, none⟩) (Nat.le_of_lt hlt1) (.int .u8 128))
      have hr16i : ((s.size - k * 16 : Nat) : Int) < 16 := by omega
      clear hW3 hW2 hB2 hv2 hbl hc hrs2 HR HC HB HW hrn rn hr16 hrs
      generalize s.size - k * 16 = rn at *
      have blt : b < (W2.setCell ⟨wr.heap.size, rn, none⟩ (.int .u8 128)).heap.size := (unhide B3).lt
      go_wp2_with fail
      refine (unhide R1 _).mono ?_
      rintro e x1 ⟨rfl, b1⟩
      have B4 := hide ((unhide B3).below b1)
      have W4 := hide ((unhide W3).trans (b1.mono (Nat.le_of_lt blt)))
      clear b1 B3 W3 R1 blt hcv c2 f2 hcp
      go_wp2_with fail
      refine (unhide R2 _ (unhide B4)).mono ?_
      rintro e x2 ⟨rfl, hB5, b2⟩
      have W5 := hide ((unhide W4).trans b2)
      have B5 := hide hB5
      clear b2 W4 B4 R2 hB5
      go_wp2_with fail
      refine (unhide R3 _ (unhide B5)).mono ?_
      rintro e x3 ⟨rfl, hB6, b3⟩
      have W6 := hide ((unhide W5).trans b3)
      have B6 := hide hB6
      clear b3 W5 B5 R3 hB6
      go_wp2
      go_end0
      exact ⟨rfl, by rw [← unhide HH3]; exact unhide B6, unhide W6⟩

set_option maxHeartbeats 2000000 in
set_option maxRecDepth 100000 in
theorem fold_any (s : ByteArray) (hs : (s.size : Int) ≤ 1099511627776) (w : World) :
    Calls Tryz.prog 53 #[.string s] w fun e w' => e = .returned (.string (foldS s)) ∧ Below w.heap.size w w' := by
  have hmf : ∀ (fn : Fn) (first cap : Array Value) (w : World), (Instr.makeFunc fn first cap).run Tryz.prog w = .ok (.func fn first cap) w := fun _ _ _ _ => rfl
  have r2 := fun w => text_any (foldB s.data.toList) (foldB_ok _) w
  have e2 : blkS (foldB s.data.toList) = foldS s := rfl
  rw [e2] at r2
  have r1 := fun b w hb => eachPiece_any s hs b w hb
  generalize foldS s = t at *
  generalize foldB s.data.toList = f at *
  have R1 := hide r1
  have R2 := hide r2
  clear r1 r2 e2 hs
  go_enter Tryz.func53, Tryz.ntmps53
  go_wp2_with fail
  obtain ⟨hbel, q0, hsz⟩ := one_new w (.cells #[.int .u32 0, .int .u32 0, .int .u32 0, .int .u32 0] 121)
  generalize w.alloc _ = W at hbel q0 hsz ⊢
  have hZ : BlkAt W w.heap.size zeroB := q0
  refine (unhide R1 w.heap.size _ hZ).mono ?_
  rintro e w1 ⟨rfl, hB1, b1⟩
  have W1 := hide (hbel.trans b1)
  have c0 := hB1.cell0
  have c1 := hB1.cell1
  have c2 := hB1.cell2
  have c3 := hB1.cell3
  have hlt := hB1.lt
  clear hbel q0 hsz hZ b1 hB1 R1
  unfold blkV at R2
  go_wp2_with fail
  refine (unhide R2 _).mono ?_
  rintro e w2 ⟨rfl, b2⟩
  go_wp2
  go_ret
  exact ⟨rfl, (unhide W1).trans (b2.mono (Nat.le_of_lt hlt))⟩
end Go.Proofs.YtckkhpegimkefaaGreatDoor
namespace Go.Proofs
open Go.Shelf
def Tryz.lays105_ren : Go.Shelf.Ren := ⟨fun | 105 => 52 | 212 => 74 | 99 => 19 | 165 => 75 | 166 => 76 | 170 => 77 | 169 => 78 | 263 => 102 | 264 => 99 | 206 => 37 | 240 => 103 | 241 => 104 | 276 => 123 | 277 => 124 | n => n, fun | 9 => 9 | 3 => 3 | 4 => 4 | 20 => 20 | 0 => 0 | 46 => 72 | 109 => 108 | 5 => 5 | 72 => 112 | 76 => 116 | 51 => 119 | 146 => 142 | 53 => 82 | 148 => 139 | 70 => 110 | 37 => 43 | 75 => 115 | 127 => 144 | 164 => 157 | 80 => 118 | n => n, fun | n => n⟩
theorem Tryz.lays105 : Go.Proofs.Lays.n105 Tryz.prog Tryz.lays105_ren := {
  mixed := by kernel_rfl
  f99 := Tryz.func19.trans (congrArg some (by kernel_rfl))
  f105 := Tryz.func52.trans (congrArg some (by kernel_rfl))
  f165 := Tryz.func75.trans (congrArg some (by kernel_rfl))
  f166 := Tryz.func76.trans (congrArg some (by kernel_rfl))
  f169 := Tryz.func78.trans (congrArg some (by kernel_rfl))
  f170 := Tryz.func77.trans (congrArg some (by kernel_rfl))
  f206 := Tryz.func37.trans (congrArg some (by kernel_rfl))
  f212 := Tryz.func74.trans (congrArg some (by kernel_rfl))
  f240 := Tryz.func103.trans (congrArg some (by kernel_rfl))
  f241 := Tryz.func104.trans (congrArg some (by kernel_rfl))
  f263 := Tryz.func102.trans (congrArg some (by kernel_rfl))
  f264 := Tryz.func99.trans (congrArg some (by kernel_rfl))
  f276 := Tryz.func123.trans (congrArg some (by kernel_rfl))
  f277 := Tryz.func124.trans (congrArg some (by kernel_rfl))
  t0 := Tryz.underlying0
  a0 := Tryz.isAgg0
  z0 := Tryz.sizeOf0
  v0 := Tryz.zeroValue0
  t3 := Tryz.underlying3
  a3 := Tryz.isAgg3
  z3 := Tryz.sizeOf3
  v3 := Tryz.zeroValue3
  t4 := Tryz.underlying4
  a4 := Tryz.isAgg4
  z4 := Tryz.sizeOf4
  v4 := Tryz.zeroValue4
  t5 := Tryz.underlying5
  a5 := Tryz.isAgg5
  z5 := Tryz.sizeOf5
  v5 := Tryz.zeroValue5
  t9 := Tryz.underlying9
  a9 := Tryz.isAgg9
  z9 := Tryz.sizeOf9
  v9 := Tryz.zeroValue9
  t20 := Tryz.underlying20
  a20 := Tryz.isAgg20
  z20 := Tryz.sizeOf20
  v20 := Tryz.zeroValue20
  t37 := Tryz.underlying43
  a37 := Tryz.isAgg43
  z37 := Tryz.sizeOf43
  v37 := Tryz.zeroValue43
  t46 := Tryz.underlying72
  a46 := Tryz.isAgg72
  z46 := Tryz.sizeOf72
  v46 := Tryz.zeroValue72
  t51 := Tryz.underlying119
  a51 := Tryz.isAgg119
  z51 := Tryz.sizeOf119
  v51 := Tryz.zeroValue119
  t53 := Tryz.underlying82
  a53 := Tryz.isAgg82
  z53 := Tryz.sizeOf82
  v53 := Tryz.zeroValue82
  t70 := Tryz.underlying110
  a70 := Tryz.isAgg110
  z70 := Tryz.sizeOf110
  v70 := Tryz.zeroValue110
  t72 := Tryz.underlying112
  a72 := Tryz.isAgg112
  z72 := Tryz.sizeOf112
  v72 := Tryz.zeroValue112
  t75 := Tryz.underlying115
  a75 := Tryz.isAgg115
  z75 := Tryz.sizeOf115
  v75 := Tryz.zeroValue115
  t76 := Tryz.underlying116
  a76 := Tryz.isAgg116
  z76 := Tryz.sizeOf116
  v76 := Tryz.zeroValue116
  t109 := Tryz.underlying108
  a109 := Tryz.isAgg108
  z109 := Tryz.sizeOf108
  v109 := Tryz.zeroValue108
  t127 := Tryz.underlying144
  a127 := Tryz.isAgg144
  z127 := Tryz.sizeOf144
  v127 := Tryz.zeroValue144
  t146 := Tryz.underlying142
  a146 := Tryz.isAgg142
  z146 := Tryz.sizeOf142
  v146 := Tryz.zeroValue142
  t148 := Tryz.underlying139
  a148 := Tryz.isAgg139
  z148 := Tryz.sizeOf139
  v148 := Tryz.zeroValue139
  t164 := Tryz.underlying157
  a164 := Tryz.isAgg157
  z164 := Tryz.sizeOf157
  v164 := Tryz.zeroValue157 }
theorem Tryz.Builder_Extra_105 : Builder.Extra Tryz.prog Tryz.lays105_ren := {
  sizeBuilder := by kernel_rfl
  liesBuilder := by kernel_rfl
  t5 := Tryz.underlying5
  a5 := Tryz.isAgg5
  z5 := Tryz.sizeOf5
  v5 := Tryz.zeroValue5
  infoByte := by kernel_rfl
  cellsByte := by kernel_rfl
  sizeByte := by kernel_rfl
  neB5 := by decide }
end Go.Proofs
namespace Go.Proofs
open Go.Shelf
def Tryz.laysB_ren : Go.Shelf.Ren := ⟨fun | 166 => 76 | 169 => 78 | 240 => 103 | 276 => 123 | n => n, fun | 9 => 9 | 3 => 3 | 4 => 4 | 20 => 20 | 0 => 0 | 5 => 5 | 72 => 112 | 70 => 110 | 37 => 43 | 75 => 115 | 127 => 144 | 164 => 157 | 80 => 118 | n => n, fun | n => n⟩
theorem Tryz.laysB166 : Go.Proofs.Lays.n166 Tryz.prog Tryz.laysB_ren := {
  mixed := by kernel_rfl
  f166 := Tryz.func76.trans (congrArg some (by kernel_rfl))
  f240 := Tryz.func103.trans (congrArg some (by kernel_rfl))
  f276 := Tryz.func123.trans (congrArg some (by kernel_rfl))
  t0 := Tryz.underlying0
  a0 := Tryz.isAgg0
  z0 := Tryz.sizeOf0
  v0 := Tryz.zeroValue0
  t3 := Tryz.underlying3
  a3 := Tryz.isAgg3
  z3 := Tryz.sizeOf3
  v3 := Tryz.zeroValue3
  t4 := Tryz.underlying4
  a4 := Tryz.isAgg4
  z4 := Tryz.sizeOf4
  v4 := Tryz.zeroValue4
  t9 := Tryz.underlying9
  a9 := Tryz.isAgg9
  z9 := Tryz.sizeOf9
  v9 := Tryz.zeroValue9
  t20 := Tryz.underlying20
  a20 := Tryz.isAgg20
  z20 := Tryz.sizeOf20
  v20 := Tryz.zeroValue20
  t37 := Tryz.underlying43
  a37 := Tryz.isAgg43
  z37 := Tryz.sizeOf43
  v37 := Tryz.zeroValue43
  t70 := Tryz.underlying110
  a70 := Tryz.isAgg110
  z70 := Tryz.sizeOf110
  v70 := Tryz.zeroValue110
  t72 := Tryz.underlying112
  a72 := Tryz.isAgg112
  z72 := Tryz.sizeOf112
  v72 := Tryz.zeroValue112
  t75 := Tryz.underlying115
  a75 := Tryz.isAgg115
  z75 := Tryz.sizeOf115
  v75 := Tryz.zeroValue115
  t164 := Tryz.underlying157
  a164 := Tryz.isAgg157
  z164 := Tryz.sizeOf157
  v164 := Tryz.zeroValue157 }
theorem Tryz.laysB169 : Go.Proofs.Lays.n169 Tryz.prog Tryz.laysB_ren := {
  mixed := by kernel_rfl
  f169 := Tryz.func78.trans (congrArg some (by kernel_rfl))
  t0 := Tryz.underlying0
  a0 := Tryz.isAgg0
  z0 := Tryz.sizeOf0
  v0 := Tryz.zeroValue0
  t3 := Tryz.underlying3
  a3 := Tryz.isAgg3
  z3 := Tryz.sizeOf3
  v3 := Tryz.zeroValue3
  t9 := Tryz.underlying9
  a9 := Tryz.isAgg9
  z9 := Tryz.sizeOf9
  v9 := Tryz.zeroValue9
  t37 := Tryz.underlying43
  a37 := Tryz.isAgg43
  z37 := Tryz.sizeOf43
  v37 := Tryz.zeroValue43
  t70 := Tryz.underlying110
  a70 := Tryz.isAgg110
  z70 := Tryz.sizeOf110
  v70 := Tryz.zeroValue110
  t72 := Tryz.underlying112
  a72 := Tryz.isAgg112
  z72 := Tryz.sizeOf112
  v72 := Tryz.zeroValue112
  t127 := Tryz.underlying144
  a127 := Tryz.isAgg144
  z127 := Tryz.sizeOf144
  v127 := Tryz.zeroValue144 }
theorem Tryz.Builder_ExtraB : Builder.Extra Tryz.prog Tryz.laysB_ren := {
  sizeBuilder := by kernel_rfl
  liesBuilder := by kernel_rfl
  t5 := Tryz.underlying5
  a5 := Tryz.isAgg5
  z5 := Tryz.sizeOf5
  v5 := Tryz.zeroValue5
  infoByte := by kernel_rfl
  cellsByte := by kernel_rfl
  sizeByte := by kernel_rfl
  neB5 := by decide }
end Go.Proofs
namespace Go.Proofs.YtckkhpegimkefaaGreatDoor
open Go.ChangeShapes Go.WideShapes Go.ChangeAt Go.RowKit
set_option linter.unusedVariables false

/-- texts that lie in a row -/
def TRow (w : World) (ao : Option Addr) (l : List ByteArray) : Prop :=
  l = [] ∨ ∃ b off, ao = some ⟨b, off, none⟩ ∧ b < w.heap.size ∧ ∀ i s, l[i]? = some s → w.cell? ⟨b, off + i, none⟩ = some (.string s)
theorem TRow.below {w w' : World} {ao : Option Addr} {l : List ByteArray} (h : TRow w ao l) (hb : Below w.heap.size w w') : TRow w' ao l := by
  rcases h with h | ⟨b, off, e, hlt, hc⟩
  · exact .inl h
  · exact .inr ⟨b, off, e, Nat.lt_of_lt_of_le hlt hb.size, fun i s hi => (hb.cell (p := ⟨b, off + i, none⟩) hlt).trans (hc i s hi)⟩
/-- how many letters they have, and one each -/
def bulkT : List ByteArray → Nat
  | [] => 0
  | s :: r => s.size + 1 + bulkT r
theorem bulkT_mem {l : List ByteArray} {s : ByteArray} (h : s ∈ l) : s.size < bulkT l := by
  induction l with
  | nil => cases h
  | cons x r ih =>
    rcases List.mem_cons.1 h with rfl | h
    · simp only [bulkT]; omega
    · have := ih h
      simp only [bulkT]; omega
theorem bulkT_length (l : List ByteArray) : l.length ≤ bulkT l := by
  induction l with
  | nil => simp
  | cons x r ih => simp only [bulkT, List.length_cons]; omega
theorem strs_bulk {H : Type} (l : List ByteArray) : Rows.uptoBulkAll (strs l : List (DataW H)) = bulkT l := by
  induction l with
  | nil => rfl
  | cons x r ih =>
    have ih' : Rows.uptoBulkAll (List.map (fun s : ByteArray => DataW.lit (.string s.data.toList)) r : List (DataW H)) = bulkT r := ih
    simp only [strs, List.map_cons, Rows.uptoBulkAll, Rows.uptoBulk, bulkT, ih']
    have : x.data.toList.length = x.size := by simp
    omega
theorem cellsStrT : Tryz.prog.cellsOf 9 = 1 := by kernel_rfl
theorem cell_ltT {w : World} {a : Addr} {v : Value} (h : w.cell? a = some v) : a.block < w.heap.size := by
  rcases Nat.lt_or_ge a.block w.heap.size with h1 | h1
  · exact h1
  · unfold World.cell? at h
    rw [Array.getElem?_eq_none h1] at h
    cases h
theorem open_texts {H : Type} {enc : TypeId × Value → H} {W : World} {held : Bool} {ao : Option Addr} {len cap : Nat} {d : DataW H} {p : List MemPlace}
    (h : DataW.Trod enc Tryz.prog W 0 (fun _ => true) held 71 (.slice ao len cap) d p) :
    ∃ fs : List ByteArray, fs.length = len ∧ TRow W ao fs ∧ bulkT fs < Rows.uptoBulk d ∧ (∀ s ∈ fs, s.size ≤ maxLen) := by
  obtain ⟨fuel, hf⟩ := h
  rcases open_strings Tryz.underlying71 Tryz.underlying9 cellsStrT hf with ⟨hcs, hx⟩ | ⟨a, len', cap', ss, hcs, _, hl, hm, hz, hx, hcell, hsz⟩
  · simp [Value.cells] at hcs
    obtain ⟨rfl, rfl, rfl⟩ := hcs
    simp only [Prod.mk.injEq] at hx
    exact ⟨[], rfl, .inl rfl, by rw [hx.1]; simp [bulkT, Rows.uptoBulk], by simp⟩
  · simp [Value.cells] at hcs
    obtain ⟨rfl, rfl, rfl⟩ := hcs
    simp only [if_true] at hz
    simp only [Prod.mk.injEq] at hx
    refine ⟨ss.take len, by rw [List.length_take]; omega, ?_, ?_, fun s hs => hsz s (List.mem_of_mem_take hs)⟩
    · by_cases hl0 : len = 0
      · subst hl0; exact .inl rfl
      · obtain ⟨b, off, spot⟩ := a
        have hc0 := hcell 0 (by omega)
        have hspot : spot = none := by simpa [Addr.add] using World.cell?_spot hc0
        subst hspot
        refine .inr ⟨b, off, rfl, by simpa [Addr.add] using cell_ltT hc0, fun i s hi => ?_⟩
        have hi' : i < len := by
          rcases Nat.lt_or_ge i len with h | h
          · exact h
          · rw [List.getElem?_eq_none (by rw [List.length_take]; omega)] at hi; cases hi
        rw [List.getElem?_take_of_lt hi'] at hi
        have := hcell i (by omega)
        rw [WideShapes.add_plain] at this
        rw [this]
        simp [hi]
    · rw [hx.1]
      simp only [Rows.uptoBulk, strs_bulk]
      omega
end Go.Proofs.YtckkhpegimkefaaGreatDoor
