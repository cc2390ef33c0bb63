/- Blocks as texts, exclusive-or; the text that is filled up. -/
import Derived.Test.YtbiipeapcclbkaaDoorMillRef
namespace Go.Proofs.YtbiipeapcclbkaaDoor
open Go.RowKit
set_option linter.unusedVariables false

theorem xor_byte (x y j : Nat) : (x / 256 ^ j % 256) ^^^ (y / 256 ^ j % 256) = (x ^^^ y) / 256 ^ j % 256 := by
  rw [show (256 : Nat) ^ j = 2 ^ (8 * j) by rw [Nat.pow_mul], show (256 : Nat) = 2 ^ 8 by rfl, ← Nat.xor_mod_two_pow, ← Nat.xor_div_two_pow]
theorem xorL_big (x y : Nat) (k : Nat) : xorL (bytesOf (bigL x k)) (bytesOf (bigL y k)) = bigL (x ^^^ y) k := by
  induction k with
  | zero => rfl
  | succ k ih =>
    simp only [bigL, bytesOf, List.map_cons, xorL, List.zipWith_cons_cons]
    rw [u8_of, u8_of, xor_byte]
    congr 1
theorem xorL_append (a b c d : List UInt8) (h : a.length = b.length) : xorL (a ++ c) (b ++ d) = xorL a b ++ xorL c d := by
  unfold xorL
  rw [List.zipWith_append h]
theorem blkS_data (v : Blk) : (blkS v).data.toList = bytesOf (bigL v.a 4) ++ (bytesOf (bigL v.b 4) ++ (bytesOf (bigL v.c 4) ++ bytesOf (bigL v.d 4))) := by
  rw [blkS, strOfNums_data]
  simp only [blkL, List.map_append, bytesOf]
theorem bytesOf_len (x y k : Nat) : (bytesOf (bigL x k)).length = (bytesOf (bigL y k)).length := by simp [bytesOf, bigL_length]
theorem xorS_blkS (u v : Blk) : xorS (blkS u) (blkS v) = blkS (xorB u v) := by
  rw [xorS, blkS_data, blkS_data, xorL_append _ _ _ _ (bytesOf_len _ _ _), xorL_append _ _ _ _ (bytesOf_len _ _ _), xorL_append _ _ _ _ (bytesOf_len _ _ _), xorL_big, xorL_big, xorL_big, xorL_big]
  rfl
theorem xorB_comm (u v : Blk) : xorB u v = xorB v u := by
  unfold xorB
  rw [Nat.xor_comm u.a, Nat.xor_comm u.b, Nat.xor_comm u.c, Nat.xor_comm u.d]
theorem fold_text (h : Blk) (hh : h.ok) (p : ByteArray) : xorS (blkS h) (turnS p (blkS h)) = blkS (foldStep h (blkOf p.data.toList)) := by
  unfold turnS
  rw [blkOf_blkS h hh, xorS_blkS, xorB_comm]
  rfl
/-- the text that is folded -/
def padS (s : ByteArray) : ByteArray := (s ++ strOfNums [128]) ++ (zeroS (fillN s.size) ++ zeroS 8 ++ strOfNums (bigL s.size 8))
theorem padS_data (s : ByteArray) : (padS s).data.toList = padded s.data.toList := by
  have hl : s.data.toList.length = s.size := by simp
  unfold padS padded
  simp only [ByteArray.data_append, Array.toList_append, zeroS_data, strOfNums_data, hl, bytesOf, List.append_assoc]
  rfl
theorem padS_size (s : ByteArray) : (padS s).size = 16 * (s.size / 16 + 2) := by
  have h1 : (padS s).data.toList.length = (padS s).size := by simp
  have hl : s.data.toList.length = s.size := by simp
  rw [← h1, padS_data, padded_length, hl]
end Go.Proofs.YtbiipeapcclbkaaDoor
