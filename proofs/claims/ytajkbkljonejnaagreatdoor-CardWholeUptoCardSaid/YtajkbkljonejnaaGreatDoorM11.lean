/- The reference's zeros, xor, Row, Fold. -/
import Derived.Test.YtajkbkljonejnaaGreatDoorM10
import Derived.Test.YtajkbkljonejnaaGreatDoorM04
import Derived.Test.YtajkbkljonejnaaGreatDoorM03
import Derived.Test.YtajkbkljonejnaaGreatDoorM02
import Derived.Test.YtajkbkljonejnaaGreatDoorM09
namespace Go.Proofs.YtajkbkljonejnaaGreatDoor
open Go.RowKit
set_option linter.unusedVariables false
def zeroS (n : Nat) : ByteArray := ⟨(List.replicate n (0 : UInt8)).toArray⟩
theorem zeroS_size (n : Nat) : (zeroS n).size = n := by simp [zeroS, ByteArray.size]
theorem zeroS_data (n : Nat) : (zeroS n).data.toList = List.replicate n 0 := by simp [zeroS]
theorem zeroS_snoc (n : Nat) : zeroS n ++ ⟨#[0]⟩ = zeroS (n + 1) := by
  apply ByteArray.ext
  apply Array.toList_inj.1
  rw [ByteArray.data_append, Array.toList_append, zeroS_data, zeroS_data, List.replicate_succ']
set_option maxHeartbeats 1000000 in
set_option maxRecDepth 100000 in
theorem rzeros_any (n : Nat) (hn : n ≤ 1000) (w : World) :
    Calls Tryz.prog 38 #[.int .i64 n] w fun e w' => e = .returned (.string (zeroS n)) ∧ w' = w := by
  go_enter Tryz.func38, Tryz.ntmps38
  go_wp2
  go_loop [3, 4] (fun s i => ∃ k : Nat, k ≤ n ∧ i = .int .i64 k ∧ s = .string (zeroS k)) (fun _ i => n - (intOf i).toNat)
  case atStart => exact ⟨0, Nat.zero_le _, rfl, rfl⟩
  case round =>
    obtain ⟨k, hk, rfl, rfl⟩ := hrel
    by_cases hlt : k < n
    · have hz := zeroS_size k
      have h1 : (⟨#[0]⟩ : ByteArray).size = 1 := rfl
      have hs := zeroS_snoc k
      have HS := hide hs
      clear hs
      generalize zeroS k = t at *
      go_wp2
      go_round
      case rel => exact ⟨k + 1, by omega, by go_num, by rw [unhide HS]⟩
      case measure => simp [intOf]; omega
    · have hkn : k = n := by omega
      subst hkn
      go_wp2
      go_ret
      exact ⟨rfl, rfl⟩
def xorL (a b : List UInt8) : List Int := List.zipWith (fun x y => ((x.toNat ^^^ y.toNat : Nat) : Int)) a b
theorem xorL_snoc (a b : List UInt8) (k : Nat) (x y : UInt8) (ha : a[k]? = some x) (hb : b[k]? = some y) : xorL (a.take (k + 1)) (b.take (k + 1)) = xorL (a.take k) (b.take k) ++ [((x.toNat ^^^ y.toNat : Nat) : Int)] := by
  have h1 : k < a.length := by
    rcases Nat.lt_or_ge k a.length with h | h
    · exact h
    · rw [List.getElem?_eq_none h] at ha; cases ha
  have h2 : k < b.length := by
    rcases Nat.lt_or_ge k b.length with h | h
    · exact h
    · rw [List.getElem?_eq_none h] at hb; cases hb
  unfold xorL
  rw [List.take_add_one, List.take_add_one, ha, hb, List.zipWith_append (by rw [List.length_take, List.length_take]; omega)]
  rfl
theorem xorL_length (a b : List UInt8) (h : a.length ≤ b.length) : (xorL a b).length = a.length := by simp [xorL]; omega
theorem xor_u8 (a b : Nat) (ha : a < 256) (hb : b < 256) : bits .xor .u8 a b = ((a ^^^ b : Nat) : Int) := xor_natM .u8 8 (by decide) (fun n h0 h1 => by simp [IntKind.wrap, IntKind.bits, IntKind.signed]; omega) a b ha hb
def xorS (a b : ByteArray) : ByteArray := strOfNums (xorL a.data.toList b.data.toList)
theorem xorS_size (a b : ByteArray) (h : a.size ≤ b.size) : (xorS a b).size = a.size := by
  rw [xorS, strOfNums_size, xorL_length _ _ (by simpa using h)]; simp
set_option maxHeartbeats 2000000 in
set_option maxRecDepth 100000 in
theorem rxor_any (a b : ByteArray) (h16 : a.size ≤ 16) (hab : a.size ≤ b.size) (w : World) :
    Calls Tryz.prog 87 #[.string a, .string b] w fun e w' => e = .returned (.string (xorS a b)) ∧ Below w.heap.size w w' := by
  go_enter Tryz.func87, Tryz.ntmps87
  go_wp2
  go_loopw [5, 6] (fun s i wr => ∃ k : Nat, k ≤ a.size ∧ i = .int .i64 k ∧ s = .string (strOfNums (xorL (a.data.toList.take k) (b.data.toList.take k))) ∧ Below w.heap.size w wr) (fun _ i _ => a.size - (intOf i).toNat)
  case atStart => exact ⟨0, Nat.zero_le _, rfl, rfl, Below.refl _ _⟩
  case round =>
    obtain ⟨k, hk, rfl, rfl, hbel⟩ := hrel
    by_cases hlt : k < a.size
    · have hlb : k < b.size := by omega
      have ea : a.data.toList[k]? = some a[k] := by rw [List.getElem?_eq_getElem (by simpa using hlt)]; rfl
      have eb : b.data.toList[k]? = some b[k] := by rw [List.getElem?_eq_getElem (by simpa using hlb)]; rfl
      have hsn := xorL_snoc a.data.toList b.data.toList k a[k] b[k] ea eb
      obtain ⟨x, hx⟩ : ∃ x, x = a[k].toNat := ⟨_, rfl⟩
      obtain ⟨y, hy⟩ : ∃ y, y = b[k].toNat := ⟨_, rfl⟩
      have hx2 : x < 256 := by rw [hx]; exact a[k].toNat_lt
      have hy2 : y < 256 := by rw [hy]; exact b[k].toNat_lt
      have hca : ∀ h : k < a.size, ((a[k]'h).toNat : Int) = (x : Int) := fun _ => by rw [hx]
      have hcb : ∀ h : k < b.size, ((b[k]'h).toNat : Int) = (y : Int) := fun _ => by rw [hy]
      rw [← hx, ← hy] at hsn
      have hxor := xor_u8 x y hx2 hy2
      have hz2 : x ^^^ y < 256 := Nat.xor_lt_two_pow (n := 8) hx2 hy2
      generalize x ^^^ y = z at *
      have hlow : lowByte (z : Int) = (z : Int) := by unfold lowByte; omega
      have hl1 : (strOfNums (xorL (a.data.toList.take k) (b.data.toList.take k))).size ≤ 16 := by
        rw [strOfNums_size]
        simp only [xorL, List.length_zipWith, List.length_take]
        omega
      have hl2 : (strOfNums [(z : Int)]).size = 1 := by rw [strOfNums_size]; rfl
      have hwz : IntKind.i64.wrap (z : Int) = (z : Int) := wraps_i64 _ (by omega) (by omega)
      have hnew : strOfNums (xorL (a.data.toList.take k) (b.data.toList.take k)) ++ strOfNums [(z : Int)] = strOfNums (xorL (a.data.toList.take (k + 1)) (b.data.toList.take (k + 1))) := by
        rw [hsn, strOfNums_append]
      generalize strOfNums (xorL (a.data.toList.take k) (b.data.toList.take k)) = S at *
      generalize hS2 : strOfNums [(z : Int)] = S2 at *
      have B1 := hide (fun (w : World) (b off cap : Nat) (hbB : b < w.heap.size) (hc : w.cell? ⟨b, off, none⟩ = some (.int .i64 (z : Int))) => bytes_one (z : Int) b off cap w hbB hc)
      rw [hlow, hS2] at B1
      have HN := hide hnew
      have HW := hide hbel
      have hbs := hbel.size
      have hki : (k : Int) < (a.size : Int) := by omega
      have hki2 : (k : Int) < (b.size : Int) := by omega
      clear hsn hx hy ea eb hnew hlow hS2 hbel
      go_wp2_with fail
      go_region_with ((go_at_call 54; refine (unhide B1 _ _ _ _ (by simp) (by simp)).mono ?_; rintro e w2 ⟨rfl, hb2⟩))
      all_goals
        go_wp2
        go_roundw
        case rel => exact ⟨k + 1, by omega, by go_num, by rw [unhide HN], (((unhide HW).drew.alloc hbs _).trans (hb2.mono (by simp; omega)))⟩
        case measure => simp [intOf]; omega
    · have hkl : k = a.size := by omega
      subst hkl
      have e : strOfNums (xorL (a.data.toList.take a.size) (b.data.toList.take a.size)) = xorS a b := by
        rw [xorS, List.take_of_length_le (by simp)]
        unfold xorL
        congr 1
        apply List.ext_getElem?
        intro i
        simp only [List.getElem?_zipWith, List.getElem?_take]
        by_cases hi : i < a.size
        · simp [hi]
        · have : a.data.toList[i]? = none := List.getElem?_eq_none (by simpa using hi)
          simp [this]
      rw [e]
      go_wp2
      go_ret
      exact ⟨rfl, hbel⟩
end Go.Proofs.YtajkbkljonejnaaGreatDoor
namespace Go.Proofs.YtajkbkljonejnaaGreatDoor
open Go.RowKit
set_option linter.unusedVariables false
theorem xor_byte (x y j : Nat) : (x / 256 ^ j % 256) ^^^ (y / 256 ^ j % 256) = (x ^^^ y) / 256 ^ j % 256 := by
  rw [show (256 : Nat) ^ j = 2 ^ (8 * j) by rw [Nat.pow_mul], show (256 : Nat) = 2 ^ 8 by rfl, ← Nat.xor_mod_two_pow, ← Nat.xor_div_two_pow]
theorem xorL_big (x y : Nat) (k : Nat) : xorL (bytesOf (bigL x k)) (bytesOf (bigL y k)) = bigL (x ^^^ y) k := by
  induction k with
  | zero => rfl
  | succ k ih =>
    simp only [bigL, bytesOf, List.map_cons, xorL, List.zipWith_cons_cons]
    rw [u8_of, u8_of, xor_byte]
    congr 1
theorem xorL_append (a b c d : List UInt8) (h : a.length = b.length) : xorL (a ++ c) (b ++ d) = xorL a b ++ xorL c d := by
  unfold xorL
  rw [List.zipWith_append h]
theorem blkS_data (v : Blk) : (blkS v).data.toList = bytesOf (bigL v.a 4) ++ (bytesOf (bigL v.b 4) ++ (bytesOf (bigL v.c 4) ++ bytesOf (bigL v.d 4))) := by
  rw [blkS, strOfNums_data]
  simp only [blkL, List.map_append, bytesOf]
theorem bytesOf_len (x y k : Nat) : (bytesOf (bigL x k)).length = (bytesOf (bigL y k)).length := by simp [bytesOf, bigL_length]
theorem xorS_blkS (u v : Blk) : xorS (blkS u) (blkS v) = blkS (xorB u v) := by
  rw [xorS, blkS_data, blkS_data, xorL_append _ _ _ _ (bytesOf_len _ _ _), xorL_append _ _ _ _ (bytesOf_len _ _ _), xorL_append _ _ _ _ (bytesOf_len _ _ _), xorL_big, xorL_big, xorL_big, xorL_big]
  rfl
theorem xorB_comm (u v : Blk) : xorB u v = xorB v u := by
  unfold xorB
  rw [Nat.xor_comm u.a, Nat.xor_comm u.b, Nat.xor_comm u.c, Nat.xor_comm u.d]
theorem fold_textX (h : Blk) (hh : h.ok) (p : ByteArray) : xorS (blkS h) (turnS p (blkS h)) = blkS (foldStep h (blkOf p.data.toList)) := by
  unfold turnS
  rw [blkOf_blkS h hh, xorS_blkS, xorB_comm]
  rfl
def padS (s : ByteArray) : ByteArray := (s ++ strOfNums [128]) ++ (zeroS (fillN s.size) ++ zeroS 8 ++ strOfNums (bigL s.size 8))
theorem padS_data (s : ByteArray) : (padS s).data.toList = padded s.data.toList := by
  have hl : s.data.toList.length = s.size := by simp
  unfold padS padded
  simp only [ByteArray.data_append, Array.toList_append, zeroS_data, strOfNums_data, hl, bytesOf, List.append_assoc]
  rfl
theorem padS_size (s : ByteArray) : (padS s).size = 16 * (s.size / 16 + 2) := by
  have h1 : (padS s).data.toList.length = (padS s).size := by simp
  have hl : s.data.toList.length = s.size := by simp
  rw [← h1, padS_data, padded_length, hl]
end Go.Proofs.YtajkbkljonejnaaGreatDoor
namespace Go.Proofs.YtajkbkljonejnaaGreatDoor
open Go.RowKit
set_option linter.unusedVariables false
theorem rowS_take (fs : List ByteArray) (k : Nat) (s : ByteArray) (h : fs[k]? = some s) : rowS (fs.take (k + 1)) = rowS (fs.take k) ++ (strOfNums (bigL s.size 4) ++ s) := by
  apply ByteArray.ext
  apply Array.toList_inj.1
  rw [rowS_data, ByteArray.data_append, Array.toList_append, rowS_data, ByteArray.data_append, Array.toList_append, strOfNums_data, List.take_add_one, h, rowL_append]
  simp [rowL, partL, bytesOf]
theorem rowN_takeR (fs : List ByteArray) (k : Nat) : rowN (fs.take k) ≤ rowN fs := by
  rw [← rowL_length, ← rowL_length]
  conv => rhs; rw [← List.take_append_drop k fs]
  rw [rowL_append, List.length_append]
  omega
set_option maxHeartbeats 2000000 in
set_option maxRecDepth 100000 in
theorem rrow_any (fs : List ByteArray) (ao : Option Addr) (cap : Nat) (w : World) (hr : TRow w ao fs) (hn : (rowN fs : Int) ≤ 1099511627776) (hl : (fs.length : Int) ≤ 1099511627776) :
    Calls Tryz.prog 86 #[.slice ao fs.length cap] w fun e w' => e = .returned (.string (rowS fs)) ∧ Below w.heap.size w w' := by
  have HR := hide hr
  have HN := hide hn
  clear hr hn
  go_enter Tryz.func86, Tryz.ntmps86
  go_wp2
  go_loopw [3, 4] (fun s i wr => ∃ k : Nat, k ≤ fs.length ∧ i = .int .i64 k ∧ s = .string (rowS (fs.take k)) ∧ Below w.heap.size w wr) (fun _ i _ => fs.length - (intOf i).toNat)
  case atStart => exact ⟨0, Nat.zero_le _, rfl, rfl, Below.refl _ _⟩
  case round =>
    obtain ⟨k, hk, rfl, rfl, hbel⟩ := hrel
    by_cases hlt : k < fs.length
    · obtain ⟨s, hs⟩ : ∃ s, fs[k]? = some s := ⟨fs[k], List.getElem?_eq_getElem hlt⟩
      rcases (unhide HR) with hnil | ⟨b, off, rfl, hb, hc⟩
      · rw [hnil] at hlt; simp at hlt
      have hstep := rowS_take fs k s hs
      have hz1 : (rowS (fs.take (k + 1))).size ≤ rowN fs := by rw [rowS_size]; exact rowN_takeR fs (k + 1)
      have hz0 : (rowS (fs.take k)).size + (4 + s.size) ≤ rowN fs := by
        rw [hstep, ByteArray.size_append, ByteArray.size_append, strOfNums_size, bigL_length] at hz1
        exact hz1
      have hsb : (s.size : Int) ≤ 1099511627776 := by have := unhide HN; omega
      have hS : ((rowS (fs.take k)).size : Int) + (4 + (s.size : Int)) ≤ 1099511627776 := by have := unhide HN; omega
      have B0 := hide (fun w => big_any s.size 4 w (by decide) (by omega))
      have h4 : (strOfNums (bigL s.size 4)).size = 4 := by rw [strOfNums_size, bigL_length]
      generalize strOfNums (bigL s.size 4) = S4 at *
      have hbw : b < wr.heap.size := Nat.lt_of_lt_of_le hb hbel.size
      have hcw : wr.cell? ⟨b, off + k, none⟩ = some (.string s) := (hbel.cell (p := ⟨b, off + k, none⟩) hb).trans (hc k s hs)
      have C0 := hide (fun w1 (hw : Below wr.heap.size wr w1) => (hw.cell (p := ⟨b, off + k, none⟩) hbw).trans hcw)
      have HST := hide hstep
      have HW := hide hbel
      have hki : (k : Int) < (fs.length : Int) := by omega
      have hS1 : (S4 ++ s).size = 4 + s.size := by rw [ByteArray.size_append, h4]
      generalize rowS (fs.take k) = S at *
      have ha1 := fun w' => run_string_add_sum (P := Tryz.prog) w' S4 s (by omega)
      have ha2 := fun w' => run_string_add_sum (P := Tryz.prog) w' S (S4 ++ s) (by rw [hS1]; omega)
      clear hstep hz0 hz1 hbel hc hcw hs
      go_wp2_with fail
      refine wp_region_below wr (Below.refl _ _) (by kernel_rfl) (by kernel_rfl) ?_
      repeat (
        refine Quietly.step (fun K hK => ?_)
        go_simp
        first
          | (refine hK _ ?_; clear hK K)
          | (apply Exists.intro
             refine ⟨fun w1 hw1 => ?_, hK _ ?_⟩
             (first | rfl | (rw [unhide C0 w1 hw1]; exact ⟨rfl, rfl⟩) | (go_at_call 89; exact calls_below hw1 (unhide B0 _)))
             clear hK K))
      refine Quietly.nil ?_
      intro w2 hw2
      go_wp2
      go_roundw
      case rel => exact ⟨k + 1, by omega, by go_num, by rw [unhide HST], (unhide HW).trans (hw2.mono (unhide HW).size)⟩
      case measure => simp [intOf]; omega
    · rw [List.take_of_length_le (by omega)]
      go_wp2
      go_ret
      exact ⟨rfl, hbel⟩
end Go.Proofs.YtajkbkljonejnaaGreatDoor
namespace Go.Proofs.YtajkbkljonejnaaGreatDoor
open Go.RowKit
set_option linter.unusedVariables false
set_option maxHeartbeats 4000000 in
set_option maxRecDepth 100000 in
theorem rfold_any (s : ByteArray) (hs : (s.size : Int) ≤ 1099511627776) (w : World) :
    Calls Tryz.prog 85 #[.string s] w fun e w' => e = .returned (.string (foldS s)) ∧ Below w.heap.size w w' := by
  have hpd := padS_data s
  have hps := padS_size s
  obtain ⟨q, hq⟩ : ∃ q, q = s.size / 16 + 2 := ⟨_, rfl⟩
  have hf : foldS s = blkS (foldN (padS s).data.toList q) := by rw [foldS, foldB, hpd, hq]; simp
  have h128 : (strOfNums [128]).size = 1 := by rw [strOfNums_size]; rfl
  have hz1 := zeroS_size (fillN s.size)
  have hz2 := zeroS_size 8
  have hb8 : (strOfNums (bigL s.size 8)).size = 8 := by rw [strOfNums_size, bigL_length]
  obtain ⟨f, hfi⟩ : ∃ f, f = fillN s.size := ⟨_, rfl⟩
  have hf15 : f ≤ 15 := by rw [hfi]; unfold fillN; omega
  have hmod : (16 - ((s.size : Int) + 1) % 16) % 16 = (f : Int) := by rw [hfi]; unfold fillN; omega
  have B1 := hide (fun (w : World) (b off cap : Nat) (hbB : b < w.heap.size) (hc : w.cell? ⟨b, off, none⟩ = some (.int .i64 128)) => bytes_one 128 b off cap w hbB hc)
  rw [show lowByte 128 = 128 from rfl] at B1
  have Z1 := hide (fun w => rzeros_any f (by omega) w)
  have Z2 := hide (fun w => (rzeros_any 8 (by decide) w : Calls Tryz.prog 38 #[.int .i64 8] w _))
  have Z3 := hide (fun w => (rzeros_any 16 (by decide) w : Calls Tryz.prog 38 #[.int .i64 16] w _))
  have B2 := hide (fun w => (big_any s.size 8 w (by decide) (by omega) : Calls Tryz.prog 89 #[.int .i64 s.size, .int .i64 8] w _))
  have hp : padS s = (s ++ strOfNums [128]) ++ (zeroS f ++ zeroS 8 ++ strOfNums (bigL s.size 8)) := by rw [hfi]; rfl
  rw [← hq] at hps
  rw [← hfi] at hz1
  have hz16 : zeroS 16 = blkS zeroB := by decide
  rw [hz16] at Z3
  have HP := hide hp
  have HF := hide hf
  have HD := hide hpd
  have HQ := hide hq
  clear hp hf hpd hfi hq hz16
  generalize zeroS 8 = z8 at *
  generalize zeroS f = zf at *
  generalize strOfNums [128] = s1 at *
  generalize strOfNums (bigL s.size 8) = s8 at *
  have hs1 : (s ++ s1).size = s.size + 1 := by rw [ByteArray.size_append, h128]
  have hs2 : (zf ++ z8).size = f + 8 := by rw [ByteArray.size_append, hz1, hz2]
  have hs3 : (zf ++ z8 ++ s8).size = f + 16 := by rw [ByteArray.size_append, hs2, hb8]
  go_enter Tryz.func85, Tryz.ntmps85
  go_wp2_with fail
  refine (unhide B1 _ _ _ _ (by simp) (by simp)).mono ?_
  rintro e w1 ⟨rfl, b1⟩
  have W1 := hide (((Below.refl w.heap.size w).alloc (Nat.le_refl _) _).trans (b1.mono (by simp)))
  clear b1 B1
  go_wp2_with fail
  refine (unhide Z1 _).mono ?_
  rintro e w2 ⟨rfl, rfl⟩
  go_wp2_with fail
  refine (unhide Z2 _).mono ?_
  rintro e w3 ⟨rfl, rfl⟩
  go_wp2_with fail
  refine (unhide B2 _).mono ?_
  rintro e w4 ⟨rfl, b4⟩
  have W4 := hide ((unhide W1).trans (b4.mono (unhide W1).size))
  clear b4 B2 Z1 Z2 W1
  go_wp2_with fail
  refine (unhide Z3 _).mono ?_
  rintro e w5 ⟨rfl, rfl⟩
  rw [← unhide HP]
  obtain ⟨p, hpp⟩ : ∃ p, p = padS s := ⟨_, rfl⟩
  rw [← hpp]
  rw [← hpp] at hps
  have HF2 := unhide HF
  rw [← hpp] at HF2
  clear HF HP HD Z3
  have HF := hide HF2
  clear HF2 hpp
  go_wp2_with fail
  go_loopw [4, 5] (fun h i wr => ∃ k : Nat, k ≤ q ∧ i = .int .i64 (16 * k : Nat) ∧ h = .string (blkS (foldN p.data.toList k)) ∧ Below w.heap.size w wr) (fun _ i _ => 16 * q - (intOf i).toNat)
  case atStart => exact ⟨0, Nat.zero_le _, rfl, rfl, unhide W4⟩
  case round =>
    obtain ⟨k, hk, rfl, rfl, hbel⟩ := hrel
    by_cases hlt : k < q
    · have hlt2 : k + 1 ≤ q := hlt
      obtain ⟨j, hj⟩ : ∃ j, j = 16 * k := ⟨_, rfl⟩
      have hj1 : j + 16 ≤ p.size := by omega
      have hpe : blkOf (p.extract j (j + 16)).data.toList = blkOf (piece p.data.toList k) := by
        rw [extract_listR, piece, hj, Nat.add_sub_cancel_left]
      have hps16 : (p.extract j (j + 16)).size = 16 := by simp; omega
      have hok := foldN_ok p.data.toList k
      have r1 := fun w => rturn_any (p.extract j (j + 16)) (blkS (foldN p.data.toList k)) hps16 (blkS_size _) w
      have r2 := fun w => rxor_any (blkS (foldN p.data.toList k)) (turnS (p.extract j (j + 16)) (blkS (foldN p.data.toList k))) (by rw [blkS_size]; omega) (by rw [blkS_size, turnS_size]; omega) w
      rw [fold_textX _ hok, hpe] at r2
      have hst : foldStep (foldN p.data.toList k) (blkOf (piece p.data.toList k)) = foldN p.data.toList (k + 1) := rfl
      rw [hst] at r2
      rw [← hj]
      have hj2 : 16 * (k + 1) = j + 16 := by omega
      have HJ := hide hj
      have HJ2 := hide hj2
      obtain ⟨t2, ht2⟩ : ∃ t2, t2 = blkS (foldN p.data.toList (k + 1)) := ⟨_, rfl⟩
      rw [← ht2] at r2
      have HT2 := hide ht2
      generalize turnS (p.extract j (j + 16)) (blkS (foldN p.data.toList k)) = t1 at *
      generalize blkS (foldN p.data.toList k) = t0 at *
      have R1 := hide r1
      have R2 := hide r2
      have HW := hide hbel
      have hji : (j : Int) + 16 ≤ (p.size : Int) := by omega
      have hpm : (p.size : Int) ≤ 1099511627810 := by have := unhide HQ; omega
      clear r1 r2 hst hok hps16 hpe hj hj2 ht2 hbel hps W4 HF HQ hlt hk
      go_wp2_with fail
      refine (unhide R1 _).mono ?_
      rintro e x1 ⟨rfl, b1⟩
      go_wp2_with fail
      refine (unhide R2 _).mono ?_
      rintro e x2 ⟨rfl, b2⟩
      have W5 := (unhide HW).trans (b1.mono (unhide HW).size)
      have W6 := hide (W5.trans (b2.mono W5.size))
      clear R1 R2 HW b1 b2 W5
      go_wp2
      go_roundw
      case rel => exact ⟨k + 1, hlt2, by rw [unhide HJ2]; go_num, by rw [unhide HT2], unhide W6⟩
      case measure => have := unhide HJ; simp [intOf]; omega
    · have hkq : k = q := by omega
      subst hkq
      rw [← hps, ← unhide HF]
      clear HF HQ W4 hps hlt
      go_wp2
      go_ret
      exact ⟨rfl, hbel⟩
end Go.Proofs.YtajkbkljonejnaaGreatDoor
namespace Go.Proofs.YtajkbkljonejnaaGreatDoor
open Go.RowKit
set_option linter.unusedVariables false
theorem TRow.new (w : World) (fs : List ByteArray) (e : TypeId) : TRow (w.alloc (.cells (fs.map Value.string).toArray e)) (some ⟨w.heap.size, 0, none⟩) fs := by
  refine .inr ⟨w.heap.size, 0, rfl, by simp, fun i s hi => ?_⟩
  rw [Nat.zero_add, cell_of_row _ _ i _ e _ (heap_alloc_new w _)]
  simp [hi]
theorem alloc_below (w : World) (o : Obj) : Below w.heap.size w (w.alloc o) := (Below.refl _ _).alloc (Nat.le_refl _) _
def sealWord : ByteArray := ⟨#[115, 101, 97, 108]⟩
theorem sealWord_size : sealWord.size = 4 := rfl
def deriveS (k l t : ByteArray) : ByteArray := foldS (rowS [k, l, t])
def sealF (t : ByteArray) : ByteArray := foldS (rowS [sealWord, t])
def sealS (k t : ByteArray) : ByteArray := (turnS k (sealF t)).extract 0 8
set_option maxHeartbeats 2000000 in
set_option maxRecDepth 100000 in
theorem derive_yes (k l t : ByteArray) (hk : k.size = 16) (hl : l.size ≤ 1048576) (ht : t.size ≤ 1048576) (w : World) :
    Calls Tryz.prog 71 #[.string k, .string l, .string t] w fun e w' => e = .returned (.tuple #[.string (deriveS k l t), .int .i64 0]) ∧ Below w.heap.size w w' := by
  have hb : bulkT [k, l, t] ≤ 4194304 := by simp only [bulkT]; omega
  have hn := rowN_bulk [k, l, t]
  have N1 := hide (row_any [k, l, t] (some ⟨w.heap.size, 0, none⟩) 3 (w.alloc (.cells ([k, l, t].map Value.string).toArray 9)) (TRow.new w _ _) hb)
  have N2 := hide (fun w => fold_any (rowS [k, l, t]) (by rw [rowS_size]; omega) w)
  have t1 := len_eq k hk
  have HA := hide (alloc_below w (.cells ([k, l, t].map Value.string).toArray 9))
  have e : foldS (rowS [k, l, t]) = deriveS k l t := rfl
  rw [e] at N2
  clear e hb hn hk hl ht
  generalize deriveS k l t = x at *
  generalize rowS [k, l, t] = y at *
  go_enter Tryz.func71, Tryz.ntmps71
  go_wp2_with fail
  refine (unhide N1).mono ?_
  rintro e x1 ⟨rfl, b1⟩
  have h1 := (unhide HA).trans (b1.mono (unhide HA).size)
  go_wp2_with fail
  refine (unhide N2 _).mono ?_
  rintro e x2 ⟨rfl, b2⟩
  go_wp2
  go_ret2
  exact ⟨rfl, h1.trans (b2.mono h1.size)⟩
set_option maxHeartbeats 2000000 in
set_option maxRecDepth 100000 in
theorem seal_yes (k t : ByteArray) (hk : k.size = 16) (ht : t.size ≤ 1048576) (w : World) :
    Calls Tryz.prog 27 #[.string k, .string t] w fun e w' => e = .returned (.tuple #[.string (sealS k t), .int .i64 0]) ∧ Below w.heap.size w w' := by
  have hb : bulkT [sealWord, t] ≤ 4194304 := by simp only [bulkT, sealWord_size]; omega
  have hn := rowN_bulk [sealWord, t]
  have N1 := hide (row_any [sealWord, t] (some ⟨w.heap.size, 0, none⟩) 2 (w.alloc (.cells ([sealWord, t].map Value.string).toArray 9)) (TRow.new w _ _) hb)
  have N2 := hide (fun w => fold_any (rowS [sealWord, t]) (by rw [rowS_size]; omega) w)
  have HA := hide (alloc_below w (.cells ([sealWord, t].map Value.string).toArray 9))
  have N3 := hide (fun w => turn_yes k (sealF t) hk (foldS_size _) w)
  have e : foldS (rowS [sealWord, t]) = sealF t := rfl
  rw [e] at N2
  have e2 : (turnS k (sealF t)).extract 0 8 = sealS k t := rfl
  have hsz : (turnS k (sealF t)).size = 16 := turnS_size _ _
  have HE := hide e2
  clear e e2 hb hn hk ht
  generalize turnS k (sealF t) = z at *
  generalize sealF t = x at *
  generalize rowS [sealWord, t] = y at *
  have hsz8 : (8 : Int) ≤ (z.size : Int) := by omega
  go_enter Tryz.func27, Tryz.ntmps27
  go_wp2_with fail
  refine (unhide N1).mono ?_
  rintro e x1 ⟨rfl, b1⟩
  have h1 := (unhide HA).trans (b1.mono (unhide HA).size)
  go_wp2_with fail
  refine (unhide N2 _).mono ?_
  rintro e x2 ⟨rfl, b2⟩
  have h2 := h1.trans (b2.mono h1.size)
  go_wp2_with fail
  refine (unhide N3 _).mono ?_
  rintro e x3 ⟨rfl, b3⟩
  have h3 := h2.trans (b3.mono h2.size)
  clear N1 N2 N3 b1 b2 b3 h1 h2 HA
  go_wp2
  go_ret2
  exact ⟨by rw [← unhide HE]; rfl, h3⟩
theorem seal_ne {x y : ByteArray} (h : ¬ x = y) : (x.toList == y.toList) = false := by
  rw [beq_eq_false_iff_ne, Lib.toList_data, Lib.toList_data]
  exact fun e => h (ByteArray.ext (Array.toList_inj.1 e))
set_option maxHeartbeats 2000000 in
theorem sealed_yes (k t s : ByteArray) (hk : k.size = 16) (ht : t.size ≤ 1048576) (w : World) :
    Calls Tryz.prog 31 #[.string k, .string t, .string s] w fun e w' => e = .returned (.bool (decide (s = sealS k t))) ∧ Below w.heap.size w w' := by
  have N1 := hide (fun w => seal_yes k t hk ht w)
  generalize sealS k t = x at *
  by_cases h : s = x
  · subst h
    rw [decide_eq_true rfl]
    go_enter Tryz.func31, Tryz.ntmps31
    go_wp2_with fail
    refine (unhide N1 _).mono ?_
    rintro e x1 ⟨rfl, b1⟩
    go_wp2
    go_ret
    exact ⟨ret_bool (by simp), b1⟩
  · rw [decide_eq_false h]
    have hne := seal_ne h
    clear h
    go_enter Tryz.func31, Tryz.ntmps31
    go_wp2_with fail
    refine (unhide N1 _).mono ?_
    rintro e x1 ⟨rfl, b1⟩
    go_wp2
    go_ret
    exact ⟨ret_bool (by simp), b1⟩
set_option maxHeartbeats 2000000 in
set_option maxRecDepth 100000 in
theorem rderive_any (k l t : ByteArray) (hk : k.size = 16) (hl : l.size ≤ 1048576) (ht : t.size ≤ 1048576) (w : World) :
    Calls Tryz.prog 36 #[.string k, .string l, .string t] w fun e w' => e = .returned (.string (deriveS k l t)) ∧ Below w.heap.size w w' := by
  have hb : bulkT [k, l, t] ≤ 4194304 := by simp only [bulkT]; omega
  have hn := rowN_bulk [k, l, t]
  have N1 := hide (rrow_any [k, l, t] (some ⟨w.heap.size, 0, none⟩) 3 (w.alloc (.cells ([k, l, t].map Value.string).toArray 9)) (TRow.new w _ _) (by omega) (by simp))
  have N2 := hide (fun w => rfold_any (rowS [k, l, t]) (by rw [rowS_size]; omega) w)
  have HA := hide (alloc_below w (.cells ([k, l, t].map Value.string).toArray 9))
  have e : foldS (rowS [k, l, t]) = deriveS k l t := rfl
  rw [e] at N2
  clear e hb hn hk hl ht
  generalize deriveS k l t = x at *
  generalize rowS [k, l, t] = y at *
  go_enter Tryz.func36, Tryz.ntmps36
  go_wp2_with fail
  refine (unhide N1).mono ?_
  rintro e x1 ⟨rfl, b1⟩
  have h1 := (unhide HA).trans (b1.mono (unhide HA).size)
  go_wp2_with fail
  refine (unhide N2 _).mono ?_
  rintro e x2 ⟨rfl, b2⟩
  go_wp2
  go_ret
  exact ⟨rfl, h1.trans (b2.mono h1.size)⟩
set_option maxHeartbeats 2000000 in
set_option maxRecDepth 100000 in
theorem rseal_any (k t : ByteArray) (hk : k.size = 16) (ht : t.size ≤ 1048576) (w : World) :
    Calls Tryz.prog 39 #[.string k, .string t] w fun e w' => e = .returned (.string (sealS k t)) ∧ Below w.heap.size w w' := by
  have hb : bulkT [sealWord, t] ≤ 4194304 := by simp only [bulkT, sealWord_size]; omega
  have hn := rowN_bulk [sealWord, t]
  have N1 := hide (rrow_any [sealWord, t] (some ⟨w.heap.size, 0, none⟩) 2 (w.alloc (.cells ([sealWord, t].map Value.string).toArray 9)) (TRow.new w _ _) (by omega) (by simp))
  have N2 := hide (fun w => rfold_any (rowS [sealWord, t]) (by rw [rowS_size]; omega) w)
  have HA := hide (alloc_below w (.cells ([sealWord, t].map Value.string).toArray 9))
  have N3 := hide (fun w => rturn_any k (sealF t) hk (foldS_size _) w)
  have e : foldS (rowS [sealWord, t]) = sealF t := rfl
  rw [e] at N2
  have e2 : (turnS k (sealF t)).extract 0 8 = sealS k t := rfl
  have hsz : (turnS k (sealF t)).size = 16 := turnS_size _ _
  have HE := hide e2
  clear e e2 hb hn hk ht
  generalize turnS k (sealF t) = z at *
  generalize sealF t = x at *
  generalize rowS [sealWord, t] = y at *
  have hsz8 : (8 : Int) ≤ (z.size : Int) := by omega
  go_enter Tryz.func39, Tryz.ntmps39
  go_wp2_with fail
  refine (unhide N1).mono ?_
  rintro e x1 ⟨rfl, b1⟩
  have h1 := (unhide HA).trans (b1.mono (unhide HA).size)
  go_wp2_with fail
  refine (unhide N2 _).mono ?_
  rintro e x2 ⟨rfl, b2⟩
  have h2 := h1.trans (b2.mono h1.size)
  go_wp2_with fail
  refine (unhide N3 _).mono ?_
  rintro e x3 ⟨rfl, b3⟩
  have h3 := h2.trans (b3.mono h2.size)
  clear N1 N2 N3 b1 b2 b3 h1 h2 HA
  go_wp2
  go_ret
  exact ⟨by rw [← unhide HE]; rfl, h3⟩
end Go.Proofs.YtajkbkljonejnaaGreatDoor
