/- The reference's Row. -/
import Derived.Test.YtmdcaljccegiiaaGreatDoorM05
import Derived.Test.YtmdcaljccegiiaaGreatDoorM00
import Derived.Test.YtmdcaljccegiiaaGreatDoorM07
import Derived.Test.YtmdcaljccegiiaaGreatDoorM04
namespace Go.Proofs.YtmdcaljccegiiaaGreatDoor
open Go.RowKit
set_option linter.unusedVariables false

theorem rowS_nil : rowS [] = ⟨#[]⟩ := rfl
theorem rowS_take (fs : List ByteArray) (k : Nat) (s : ByteArray) (h : fs[k]? = some s) : rowS (fs.take (k + 1)) = rowS (fs.take k) ++ (strOfNums (bigL s.size 4) ++ s) := by
  apply ByteArray.ext
  apply Array.toList_inj.1
  rw [rowS_data, ByteArray.data_append, Array.toList_append, rowS_data, ByteArray.data_append, Array.toList_append, strOfNums_data, List.take_add_one, h, rowL_append]
  simp [rowL, partL, bytesOf]
theorem rowN_takeR (fs : List ByteArray) (k : Nat) : rowN (fs.take k) ≤ rowN fs := by
  rw [← rowL_length, ← rowL_length]
  conv => rhs; rw [← List.take_append_drop k fs]
  rw [rowL_append, List.length_append]
  omega

set_option maxHeartbeats 2000000 in
set_option maxRecDepth 100000 in
theorem rrow_any (fs : List ByteArray) (ao : Option Addr) (cap : Nat) (w : World) (hr : TRow w ao fs) (hn : (rowN fs : Int) ≤ 1099511627776) (hl : (fs.length : Int) ≤ 1099511627776) :
    Calls Tryz.prog 39 #[.slice ao fs.length cap] w fun e w' => e = .returned (.string (rowS fs)) ∧ Below w.heap.size w w' := by
  have HR := hide hr
  have HN := hide hn
  clear hr hn
  go_enter Tryz.func39, Tryz.ntmps39
  go_wp2
  go_loopw [3, 4] (fun s i wr => ∃ k : Nat, k ≤ fs.length ∧ i = .int .i64 k ∧ s = .string (rowS (fs.take k)) ∧ Below w.heap.size w wr) (fun _ i _ => fs.length - (intOf i).toNat)
  case atStart => exact ⟨0, Nat.zero_le _, rfl, rfl, Below.refl _ _⟩
  case round =>
    obtain ⟨k, hk, rfl, rfl, hbel⟩ := hrel
    by_cases hlt : k < fs.length
    · obtain ⟨s, hs⟩ : ∃ s, fs[k]? = some s := ⟨fs[k], List.getElem?_eq_getElem hlt⟩
      rcases (unhide HR) with hnil | ⟨b, off, rfl, hb, hc⟩
      · rw [hnil] at hlt; simp at hlt
      have hstep := rowS_take fs k s hs
      have hz1 : (rowS (fs.take (k + 1))).size ≤ rowN fs := by rw [rowS_size]; exact rowN_takeR fs (k + 1)
      have hz0 : (rowS (fs.take k)).size + (4 + s.size) ≤ rowN fs := by
        rw [hstep, ByteArray.size_append, ByteArray.size_append, strOfNums_size, bigL_length] at hz1
        exact hz1
      have hsb : (s.size : Int) ≤ 1099511627776 := by have := unhide HN; omega
      have hS : ((rowS (fs.take k)).size : Int) + (4 + (s.size : Int)) ≤ 1099511627776 := by have := unhide HN; omega
      have B0 := hide (fun w => big_any s.size 4 w (by decide) (by omega))
      have h4 : (strOfNums (bigL s.size 4)).size = 4 := by rw [strOfNums_size, bigL_length]
      generalize strOfNums (bigL s.size 4) = S4 at *
      have hbw : b < wr.heap.size := Nat.lt_of_lt_of_le hb hbel.size
      have hcw : wr.cell? ⟨b, off + k, none⟩ = some (.string s) := (hbel.cell (p := ⟨b, off + k, none⟩) hb).trans (hc k s hs)
      have C0 := hide (fun w1 (hw : Below wr.heap.size wr w1) => (hw.cell (p := ⟨b, off + k, none⟩) hbw).trans hcw)
      have HST := hide hstep
      have HW := hide hbel
      have hki : (k : Int) < (fs.length : Int) := by omega
      have hS1 : (S4 ++ s).size = 4 + s.size := by rw [ByteArray.size_append, h4]
      generalize rowS (fs.take k) = S at *
      have ha1 := fun w' => run_string_add_sum (P := Tryz.prog) w' S4 s (by omega)
      have ha2 := fun w' => run_string_add_sum (P := Tryz.prog) w' S (S4 ++ s) (by rw [hS1]; omega)
      clear hstep hz0 hz1 hbel hc hcw hs
      go_wp2_with fail
      refine wp_region_below wr (Below.refl _ _) (by kernel_rfl) (by kernel_rfl) ?_
      repeat (
        refine Quietly.step (fun K hK => ?_)
        go_simp
        first
          | (refine hK _ ?_; clear hK K)
          | (apply Exists.intro
             refine ⟨fun w1 hw1 => ?_, hK _ ?_⟩
             (first | rfl | (rw [unhide C0 w1 hw1]; exact ⟨rfl, rfl⟩) | (go_at_call 16; exact calls_below hw1 (unhide B0 _)))
             clear hK K))
      refine Quietly.nil ?_
      intro w2 hw2
      go_wp2
      go_roundw
      case rel => exact ⟨k + 1, by omega, by go_num, by rw [unhide HST], (unhide HW).trans (hw2.mono (unhide HW).size)⟩
      case measure => simp [intOf]; omega
    · rw [List.take_of_length_le (by omega)]
      go_wp2
      go_ret
      exact ⟨rfl, hbel⟩
end Go.Proofs.YtmdcaljccegiiaaGreatDoor
namespace Go.Proofs.YtmdcaljccegiiaaGreatDoor
open Go.RowKit
set_option linter.unusedVariables false

set_option maxHeartbeats 4000000 in
set_option maxRecDepth 100000 in
theorem rfold_any (s : ByteArray) (hs : (s.size : Int) ≤ 1099511627776) (w : World) :
    Calls Tryz.prog 38 #[.string s] w fun e w' => e = .returned (.string (foldS s)) ∧ Below w.heap.size w w' := by
  have hpd := padS_data s
  have hps := padS_size s
  obtain ⟨q, hq⟩ : ∃ q, q = s.size / 16 + 2 := ⟨_, rfl⟩
  have hf : foldS s = blkS (foldN (padS s).data.toList q) := by rw [foldS, foldB, hpd, hq]; simp
  have h128 : (strOfNums [128]).size = 1 := by rw [strOfNums_size]; rfl
  have hz1 := zeroS_size (fillN s.size)
  have hz2 := zeroS_size 8
  have hb8 : (strOfNums (bigL s.size 8)).size = 8 := by rw [strOfNums_size, bigL_length]
  obtain ⟨f, hfi⟩ : ∃ f, f = fillN s.size := ⟨_, rfl⟩
  have hf15 : f ≤ 15 := by rw [hfi]; unfold fillN; omega
  have hmod : (16 - ((s.size : Int) + 1) % 16) % 16 = (f : Int) := by rw [hfi]; unfold fillN; omega
  have B1 := hide (fun (w : World) (b off cap : Nat) (hbB : b < w.heap.size) (hc : w.cell? ⟨b, off, none⟩ = some (.int .i64 128)) => bytes_one 128 b off cap w hbB hc)
  rw [show lowByte 128 = 128 from rfl] at B1
  have Z1 := hide (fun w => rzeros_any f (by omega) w)
  have Z2 := hide (fun w => (rzeros_any 8 (by decide) w : Calls Tryz.prog 70 #[.int .i64 8] w _))
  have Z3 := hide (fun w => (rzeros_any 16 (by decide) w : Calls Tryz.prog 70 #[.int .i64 16] w _))
  have B2 := hide (fun w => (big_any s.size 8 w (by decide) (by omega) : Calls Tryz.prog 16 #[.int .i64 s.size, .int .i64 8] w _))
  have hp : padS s = (s ++ strOfNums [128]) ++ (zeroS f ++ zeroS 8 ++ strOfNums (bigL s.size 8)) := by rw [hfi]; rfl
  rw [← hq] at hps
  rw [← hfi] at hz1
  have hz16 : zeroS 16 = blkS zeroB := by decide
  rw [hz16] at Z3
  have HP := hide hp
  have HF := hide hf
  have HD := hide hpd
  have HQ := hide hq
  clear hp hf hpd hfi hq hz16
  generalize zeroS 8 = z8 at *
  generalize zeroS f = zf at *
  generalize strOfNums [128] = s1 at *
  generalize strOfNums (bigL s.size 8) = s8 at *
  have hs1 : (s ++ s1).size = s.size + 1 := by rw [ByteArray.size_append, h128]
  have hs2 : (zf ++ z8).size = f + 8 := by rw [ByteArray.size_append, hz1, hz2]
  have hs3 : (zf ++ z8 ++ s8).size = f + 16 := by rw [ByteArray.size_append, hs2, hb8]
  go_enter Tryz.func38, Tryz.ntmps38
  go_wp2_with fail
  refine (unhide B1 _ _ _ _ (by simp) (by simp)).mono ?_
  rintro e w1 ⟨rfl, b1⟩
  have W1 := hide (((Below.refl w.heap.size w).alloc (Nat.le_refl _) _).trans (b1.mono (by simp)))
  clear b1 B1
  go_wp2_with fail
  refine (unhide Z1 _).mono ?_
  rintro e w2 ⟨rfl, rfl⟩
  go_wp2_with fail
  refine (unhide Z2 _).mono ?_
  rintro e w3 ⟨rfl, rfl⟩
  go_wp2_with fail
  refine (unhide B2 _).mono ?_
  rintro e w4 ⟨rfl, b4⟩
  have W4 := hide ((unhide W1).trans (b4.mono (unhide W1).size))
  clear b4 B2 Z1 Z2 W1
  go_wp2_with fail
  refine (unhide Z3 _).mono ?_
  rintro e w5 ⟨rfl, rfl⟩
  rw [← unhide HP]
  obtain ⟨p, hpp⟩ : ∃ p, p = padS s := ⟨_, rfl⟩
  rw [← hpp]
  rw [← hpp] at hps
  have HF2 := unhide HF
  rw [← hpp] at HF2
  clear HF HP HD Z3
  have HF := hide HF2
  clear HF2 hpp
  go_wp2_with fail
  go_loopw [4, 5] (fun h i wr => ∃ k : Nat, k ≤ q ∧ i = .int .i64 (16 * k : Nat) ∧ h = .string (blkS (foldN p.data.toList k)) ∧ Below w.heap.size w wr) (fun _ i _ => 16 * q - (intOf i).toNat)
  case atStart => exact ⟨0, Nat.zero_le _, rfl, rfl, unhide W4⟩
  case round =>
    obtain ⟨k, hk, rfl, rfl, hbel⟩ := hrel
    by_cases hlt : k < q
    · have hlt2 : k + 1 ≤ q := hlt
      obtain ⟨j, hj⟩ : ∃ j, j = 16 * k := ⟨_, rfl⟩
      have hj1 : j + 16 ≤ p.size := by omega
      have hpe : blkOf (p.extract j (j + 16)).data.toList = blkOf (piece p.data.toList k) := by
        rw [extract_listR, piece, hj, Nat.add_sub_cancel_left]
      have hps16 : (p.extract j (j + 16)).size = 16 := by simp; omega
      have hok := foldN_ok p.data.toList k
      have r1 := fun w => rturn_any (p.extract j (j + 16)) (blkS (foldN p.data.toList k)) hps16 (blkS_size _) w
      have r2 := fun w => rxor_any (blkS (foldN p.data.toList k)) (turnS (p.extract j (j + 16)) (blkS (foldN p.data.toList k))) (by rw [blkS_size]; omega) (by rw [blkS_size, turnS_size]; omega) w
      rw [fold_text _ hok, hpe] at r2
      have hst : foldStep (foldN p.data.toList k) (blkOf (piece p.data.toList k)) = foldN p.data.toList (k + 1) := rfl
      rw [hst] at r2
      rw [← hj]
      have hj2 : 16 * (k + 1) = j + 16 := by omega
      have HJ := hide hj
      have HJ2 := hide hj2
      obtain ⟨t2, ht2⟩ : ∃ t2, t2 = blkS (foldN p.data.toList (k + 1)) := ⟨_, rfl⟩
      rw [← ht2] at r2
      have HT2 := hide ht2
      generalize turnS (p.extract j (j + 16)) (blkS (foldN p.data.toList k)) = t1 at *
      generalize blkS (foldN p.data.toList k) = t0 at *
      have R1 := hide r1
      have R2 := hide r2
      have HW := hide hbel
      have hji : (j : Int) + 16 ≤ (p.size : Int) := by omega
      have hpm : (p.size : Int) ≤ 1099511627810 := by have := unhide HQ; omega
      clear r1 r2 hst hok hps16 hpe hj hj2 ht2 hbel hps W4 HF HQ hlt hk
      go_wp2_with fail
      refine (unhide R1 _).mono ?_
      rintro e x1 ⟨rfl, b1⟩
      go_wp2_with fail
      refine (unhide R2 _).mono ?_
      rintro e x2 ⟨rfl, b2⟩
      have W5 := (unhide HW).trans (b1.mono (unhide HW).size)
      have W6 := hide (W5.trans (b2.mono W5.size))
      clear R1 R2 HW b1 b2 W5
      go_wp2
      go_roundw
      case rel => exact ⟨k + 1, hlt2, by rw [unhide HJ2]; go_num, by rw [unhide HT2], unhide W6⟩
      case measure => have := unhide HJ; simp [intOf]; omega
    · have hkq : k = q := by omega
      subst hkq
      rw [← hps, ← unhide HF]
      clear HF HQ W4 hps hlt
      go_wp2
      go_ret
      exact ⟨rfl, hbel⟩
end Go.Proofs.YtmdcaljccegiiaaGreatDoor
namespace Go.Proofs.YtmdcaljccegiiaaGreatDoor
open Go.RowKit
set_option linter.unusedVariables false

theorem TRow.new (w : World) (fs : List ByteArray) (e : TypeId) : TRow (w.alloc (.cells (fs.map Value.string).toArray e)) (some ⟨w.heap.size, 0, none⟩) fs := by
  refine .inr ⟨w.heap.size, 0, rfl, by simp, fun i s hi => ?_⟩
  rw [Nat.zero_add, cell_of_row _ _ i _ e _ (heap_alloc_new w _)]
  simp [hi]
theorem alloc_below (w : World) (o : Obj) : Below w.heap.size w (w.alloc o) := (Below.refl _ _).alloc (Nat.le_refl _) _
def sealWord : ByteArray := ⟨#[115, 101, 97, 108]⟩
theorem sealWord_size : sealWord.size = 4 := rfl
def deriveS (k l t : ByteArray) : ByteArray := foldS (rowS [k, l, t])
def sealF (t : ByteArray) : ByteArray := foldS (rowS [sealWord, t])
def sealS (k t : ByteArray) : ByteArray := (turnS k (sealF t)).extract 0 8

theorem seal_eq {x y : ByteArray} (h : x = y) : (x.toList == y.toList) = true := by rw [h]; simp
theorem seal_ne {x y : ByteArray} (h : ¬ x = y) : (x.toList == y.toList) = false := by
  rw [beq_eq_false_iff_ne, Lib.toList_data, Lib.toList_data]
  exact fun e => h (ByteArray.ext (Array.toList_inj.1 e))
end Go.Proofs.YtmdcaljccegiiaaGreatDoor
namespace Go.Proofs.YtmdcaljccegiiaaGreatDoor
open Go.RowKit
set_option linter.unusedVariables false

/-- the row behind j rounds: zeros, then the low j bytes -/
def rowAt (n k j : Nat) : List Int := List.replicate (k - j) 0 ++ bigL n j
theorem rowAt_length (n k j : Nat) (h : j ≤ k) : (rowAt n k j).length = k := by simp [rowAt, bigL_length]; omega
theorem rowAt_set (n k j : Nat) (h : j < k) : (rowAt n k j).set (k - 1 - j) ((n / 256 ^ j % 256 : Nat) : Int) = rowAt n k (j + 1) := by
  unfold rowAt
  rw [show k - j = (k - (j + 1)) + 1 by omega, List.replicate_succ', List.append_assoc, show k - 1 - j = (List.replicate (k - (j + 1)) (0 : Int)).length + 0 by simp; omega, List.set_append_right _ _ (by omega)]
  simp [bigL]
theorem made_row (k : Nat) (n : Nat) : (madeCells #[Value.int .u8 0] k).toList = (rowAt n k 0).map (Value.int .u8) := by
  have e : rowAt n k 0 = List.replicate k 0 := by simp [rowAt, bigL]
  rw [e, List.map_replicate]
  apply List.ext_getElem
  · simp [madeCells]
  · intro i h1 h2
    simp [madeCells, Nat.mod_one]
theorem pow_256 (n j : Nat) : ((n : Int) / 2 ^ (8 * j)) = ((n / 256 ^ j : Nat) : Int) := by
  rw [Int.pow_mul]
  simp

set_option maxHeartbeats 1000000 in
theorem number_any (n k : Nat) (w : World) (h1 : 1 ≤ k) (h8 : k ≤ 8) (hn2 : n ≤ 9223372036854775807) (hf : n < 256 ^ k) :
    Calls Tryz.prog 12 #[.int .i64 n, .int .i64 k] w fun e w' => e = .returned (.tuple #[.string (strOfNums (bigL n k)), .int .i64 0]) ∧ Below w.heap.size w w' := by
  obtain ⟨i0, hi, hz0, hz1, hz2⟩ := info_parts infoByte
  have ht : ((n : Int) / 2 ^ (8 * k) != 0) = false := by rw [pow_256, Nat.div_eq_of_lt hf]; rfl
  have hk1 : decide ((k : Int) < 1) = false := by simp; omega
  have hk8 : decide ((8 : Int) < (k : Int)) = false := by simp; omega
  have hn0 : decide ((n : Int) < 0) = false := by simp
  clear hf
  go_enter Tryz.func12, Tryz.ntmps12
  go_wp2_with (at_make; refine wpList_make_full _ rfl _ _ 39 rfl w.heap.size 5 i0 (.int .u8 0) 1 Tryz.underlying39 hi hz0 hz1 .i64 .i64 _ _ k rfl rfl rfl rfl (by rw [hz2]; omega) (by unfold maxLen; omega) (Nat.le_refl _) ?_)
  intro w1 hown hgrow
  rw [made_row k n] at hown
  have hb : Below w.heap.size w w1 := (Below.refl _ _).grown hgrow (Nat.le_refl _) (fun q hq => by cases hq)
  clear hgrow hi hz0 hz1 hz2 hk1 hk8 hn0 ht
  go_wp2
  go_loopw [28] (fun i wr => ∃ j : Nat, j ≤ k ∧ i = .int .i64 j ∧ wr.ownsRow w.heap.size 5 1 (.slice (some ⟨w.heap.size, 0, none⟩) k k) k ((rowAt n k j).map (Value.int .u8)) ∧ Below w.heap.size w wr)
    (fun i _ => k - (intOf i).toNat)
  case atStart => exact ⟨0, Nat.zero_le _, rfl, hown, hb⟩
  case round =>
    obtain ⟨j, hj, rfl, hown, hnx⟩ := hrel
    by_cases hlt : j < k
    · have hfz := hown.frozenAt (k - 1 - j)
      have hca : wr.cell? ⟨w.heap.size, k - 1 - j, none⟩ = some (.int .u8 ((rowAt n k j).getD (k - 1 - j) 0)) := by
        rw [hown.cellAt (k - 1 - j) (by omega)]
        simp [List.getElem?_eq_getElem (show k - 1 - j < (rowAt n k j).length by rw [rowAt_length _ _ _ hj]; omega)]
      go_wp2
      go_roundw
      case rel =>
        refine ⟨j + 1, by omega, by go_num, ?_, hnx.setCell (Nat.le_refl _) _⟩
        have hs := (hown.stored (k - 1 - j) (.int .u8 ((n : Int) / 2 ^ (8 * j) % 256))).1
        rw [← rowAt_set n k j hlt, List.map_set]
        have e : ((n : Int) / 2 ^ (8 * j) % 256) = ((n / 256 ^ j % 256 : Nat) : Int) := by rw [pow_256]; rfl
        rw [e] at hs ⊢
        exact hs
      case measure => simp [intOf]; omega
    · have hkl : j = k := by omega
      subst hkl
      rcases owned_cells hown with ⟨hv, hn⟩ | ⟨g, cap', hv, _, hcl⟩
      · simp at hv
      · simp only [Value.slice.injEq, Option.some.injEq, Addr.mk.injEq, and_true, true_and] at hv
        obtain ⟨hg, hcap⟩ := hv
        subst hg hcap
        have hcv := run_convert_bytes_arg (P := Tryz.prog) wr 39 5 Tryz.underlying39 Tryz.underlying5 w.heap.size 0 j j _ (by rw [rowAt_length _ _ _ hj]) hcl 9 Tryz.underlying9
        rw [show rowAt n j j = bigL n j by simp [rowAt]] at hcv
        clear hown hcl
        go_wp2
        go_ret2
        exact ⟨rfl, hnx⟩

theorem number_no1 (n k : Int) (w : World) (h : k < 1 ∨ 8 < k) :
    Calls Tryz.prog 12 #[.int .i64 n, .int .i64 k] w fun e w' => e = .returned (.tuple #[.string ⟨#[]⟩, .int .i64 3]) ∧ w' = w := by
  rcases h with h | h
  · have hk1 : decide (k < 1) = true := by simp; omega
    go_enter Tryz.func12, Tryz.ntmps12
    go_wp2
    go_ret2
    exact ⟨rfl, rfl⟩
  · have hk1 : decide (k < 1) = false := by simp; omega
    have hk8 : decide (8 < k) = true := by simp; omega
    go_enter Tryz.func12, Tryz.ntmps12
    go_wp2
    go_ret2
    exact ⟨rfl, rfl⟩
theorem number_no2 (n k : Int) (w : World) (h1 : 1 ≤ k) (h8 : k ≤ 8) (h : n < 0) :
    Calls Tryz.prog 12 #[.int .i64 n, .int .i64 k] w fun e w' => e = .returned (.tuple #[.string ⟨#[]⟩, .int .i64 3]) ∧ w' = w := by
  have hk1 : decide (k < 1) = false := by simp; omega
  have hk8 : decide (8 < k) = false := by simp; omega
  have hn0 : decide (n < 0) = true := by simp; omega
  go_enter Tryz.func12, Tryz.ntmps12
  go_wp2
  go_ret2
  exact ⟨rfl, rfl⟩
theorem number_no3 (n k : Nat) (w : World) (h1 : 1 ≤ k) (h8 : k ≤ 8) (hn2 : n ≤ 9223372036854775807) (hf : 256 ^ k ≤ n) :
    Calls Tryz.prog 12 #[.int .i64 n, .int .i64 k] w fun e w' => e = .returned (.tuple #[.string ⟨#[]⟩, .int .i64 3]) ∧ w' = w := by
  have hp := Nat.div_pos hf (Nat.pow_pos (by omega))
  have ht : ((n : Int) / 2 ^ (8 * k) != 0) = true := by rw [pow_256, bne_iff_ne]; omega
  have hk1 : decide ((k : Int) < 1) = false := by simp; omega
  have hk8 : decide ((8 : Int) < (k : Int)) = false := by simp; omega
  have hn0 : decide ((n : Int) < 0) = false := by simp
  clear hf
  go_enter Tryz.func12, Tryz.ntmps12
  go_wp2
  go_ret2
  exact ⟨rfl, rfl⟩


theorem wraps_u64 (n : Int) (h₀ : 0 ≤ n) (h₁ : n < 2 ^ 64) : IntKind.u64.wrap n = n := by
  simp [IntKind.wrap, IntKind.bits, IntKind.signed]
  omega
theorem or_u64 (m b : Nat) (hb : b < 256) (h : (m : Int) * 256 + b ≤ 18446744073709551615) : bits .or .u64 ((m : Int) * 256) b = ((m * 256 + b : Nat) : Int) := by
  rw [bits_join .u64 64 (by decide) wraps_u64 8 _ _ (by omega) (by omega) (by omega) (by omega) (by omega) (by omega)]
  omega
theorem valN_lt8 (l : List UInt8) (h : l.length ≤ 8) : valN l ≤ 18446744073709551615 := by
  have h1 := valN_lt l
  have h2 : 256 ^ l.length ≤ 256 ^ 8 := Nat.pow_le_pow_right (by omega) h
  omega

/-- what is answered of a number that was read -/
def readOf (m : Nat) : Value := if 9223372036854775807 < m then .tuple #[.int .i64 0, .int .i64 3] else .tuple #[.int .i64 m, .int .i64 0]
theorem readOf_big {m : Nat} (h : 9223372036854775807 < m) : readOf m = .tuple #[.int .i64 0, .int .i64 3] := by rw [readOf, if_pos h]
theorem readOf_small {m : Nat} (h : ¬ 9223372036854775807 < m) : readOf m = .tuple #[.int .i64 m, .int .i64 0] := by rw [readOf, if_neg h]

set_option maxHeartbeats 1000000 in
theorem readN_any (s : ByteArray) (w : World) (hs : s.size ≤ 8) :
    Calls Tryz.prog 17 #[.string s] w fun e w' => e = .returned (readOf (valN s.data.toList)) ∧ w' = w := by
  have hv := valN_lt8 s.data.toList hs
  go_enter Tryz.func17, Tryz.ntmps17
  go_wp2
  go_loop [4, 11] (fun n i => ∃ k : Nat, k ≤ s.size ∧ i = .int .i64 k ∧ n = .int .u64 (valN (s.data.toList.take k))) (fun _ i => s.size - (intOf i).toNat)
  case atStart => exact ⟨0, Nat.zero_le _, rfl, rfl⟩
  case round =>
    obtain ⟨k, hk, rfl, rfl⟩ := hrel
    by_cases hlt : k < s.size
    · have hsn := valN_snoc (s.data.toList.take k) s[k]
      rw [← take_snoc s k hlt] at hsn
      have hle := valN_take_le s.data.toList (k + 1)
      obtain ⟨m, hm⟩ : ∃ m, m = valN (s.data.toList.take k) := ⟨_, rfl⟩
      rw [← hm] at hsn ⊢
      have hmb : (m : Int) * 256 + (s[k].toNat : Int) ≤ 18446744073709551615 := by omega
      have HS : Hid (valN (s.data.toList.take (k + 1)) = m * 256 + s[k].toNat) := hsn
      clear hsn hle hm hv
      go_wp2
      go_round
      case rel => exact ⟨k + 1, by omega, by go_num, by rw [HS.out, or_u64 m _ (s[k].toNat_lt) hmb]⟩
      case measure => simp [intOf]; omega
    · obtain ⟨m, hm⟩ : ∃ m, m = valN s.data.toList := ⟨_, rfl⟩
      rw [List.take_of_length_le (by simp; omega), ← hm]
      rw [← hm] at hv
      have HM : Hid (m = valN s.data.toList) := hm
      clear hm
      by_cases hc : 9223372036854775807 < m
      · go_wp2
        go_ret2
        exact ⟨by rw [← HM.out, readOf_big hc]; rfl, rfl⟩
      · go_wp2
        go_ret2
        exact ⟨by rw [← HM.out, readOf_small hc]; rfl, rfl⟩
theorem read_long (s : ByteArray) (w : World) (hs : 8 < s.size) (hm : s.size ≤ maxLen) :
    Calls Tryz.prog 17 #[.string s] w fun e w' => e = .returned (.tuple #[.int .i64 0, .int .i64 2]) ∧ w' = w := by
  unfold maxLen at hm
  go_enter Tryz.func17, Tryz.ntmps17
  go_wp2
  go_ret2
  exact ⟨rfl, rfl⟩
theorem valN_cons (b : UInt8) (l : List UInt8) : valN (b :: l) = b.toNat * 256 ^ l.length + valN l := by
  have h : ∀ (l : List UInt8) (a : Nat), l.foldl (fun n b => n * 256 + b.toNat) a = a * 256 ^ l.length + l.foldl (fun n b => n * 256 + b.toNat) 0 := by
    intro l
    induction l with
    | nil => intro a; simp
    | cons b l ih =>
      intro a
      rw [List.foldl_cons, List.foldl_cons, List.length_cons, ih (a * 256 + b.toNat), ih (0 * 256 + b.toNat), Nat.pow_succ, Nat.add_mul]
      rw [show a * 256 * 256 ^ l.length = a * (256 ^ l.length * 256) by rw [Nat.mul_assoc, Nat.mul_comm 256], Nat.zero_mul, Nat.zero_add, Nat.add_assoc]
  show (b :: l).foldl _ 0 = _
  rw [List.foldl_cons, h]
  simp [valN]
theorem valN_eight (s : ByteArray) (h8 : s.size = 8) : 9223372036854775807 < valN s.data.toList ↔ 128 ≤ (s[0]'(by omega)).toNat := by
  match hl : s.data.toList with
  | [] => have : s.data.toList.length = 8 := by simpa using h8
          rw [hl] at this; simp at this
  | b :: l =>
    have hlen : s.data.toList.length = 8 := by simpa using h8
    have hb : s[0]'(by omega) = b := by
      have : s.data.toList[0]'(by omega) = b := by simp [hl]
      rw [← this]; rfl
    rw [hb, valN_cons]
    have hl7 : l.length = 7 := by rw [hl] at hlen; simpa using hlen
    have h1 := valN_lt l
    rw [hl7] at h1 ⊢
    omega
theorem value_eight (s : ByteArray) (w : World) (hs : s.size ≤ 8) (hv : ¬ 9223372036854775807 < valN s.data.toList) :
    Calls Tryz.prog 18 #[.string s] w fun e w' => e = .returned (.int .i64 (valN s.data.toList)) ∧ w' = w := value_any s w hs (by omega)


end Go.Proofs.YtmdcaljccegiiaaGreatDoor
