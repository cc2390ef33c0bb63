/- The fold, plain: pieces of 16 bytes, of the text itself and of the text that is filled up. -/
import Derived.Test.YtbiipeapcclbkaaDoorMill0
namespace Go.Proofs.YtbiipeapcclbkaaDoor
open Go.RowKit
set_option linter.unusedVariables false

def zeroB : Blk := ⟨0, 0, 0, 0⟩
theorem zeroB_ok : zeroB.ok := by unfold zeroB Blk.ok; decide
def xorB (u v : Blk) : Blk := ⟨u.a ^^^ v.a, u.b ^^^ v.b, u.c ^^^ v.c, u.d ^^^ v.d⟩
theorem xorB_ok {u v : Blk} (h : u.ok) (k : v.ok) : (xorB u v).ok := ⟨xor_lt32 h.1 k.1, xor_lt32 h.2.1 k.2.1, xor_lt32 h.2.2.1 k.2.2.1, xor_lt32 h.2.2.2 k.2.2.2⟩
/-- h becomes Turn(piece, h) exclusive-or h -/
def foldStep (h p : Blk) : Blk := xorB (fwd p 12 h) h
theorem foldStep_ok {h : Blk} (hk : h.ok) (p : Blk) : (foldStep h p).ok := xorB_ok (fwd_ok p 12 h hk) hk
def piece (l : List UInt8) (i : Nat) : List UInt8 := (l.drop (16 * i)).take 16
/-- behind so many pieces of a text -/
def foldN (l : List UInt8) : Nat → Blk
  | 0 => zeroB
  | k + 1 => foldStep (foldN l k) (blkOf (piece l k))
theorem foldN_ok (l : List UInt8) (k : Nat) : (foldN l k).ok := by
  induction k with
  | zero => exact zeroB_ok
  | succ k ih => exact foldStep_ok ih _

/-- bytes of numbers -/
def bytesOf (xs : List Int) : List UInt8 := xs.map fun z => UInt8.ofNat z.toNat
/-- what stands behind a text of n bytes -/
def fillN (n : Nat) : Nat := 15 - n % 16
def padded (l : List UInt8) : List UInt8 := l ++ (128 :: (List.replicate (fillN l.length) 0 ++ (List.replicate 8 0 ++ bytesOf (bigL l.length 8))))
theorem padded_length (l : List UInt8) : (padded l).length = 16 * (l.length / 16 + 2) := by
  simp only [padded, List.length_append, List.length_cons, List.length_replicate, bytesOf, List.length_map, bigL_length, fillN]
  omega
/-- the fold of a text -/
def foldB (l : List UInt8) : Blk := foldN (padded l) (l.length / 16 + 2)
def foldS (s : ByteArray) : ByteArray := blkS (foldB s.data.toList)
theorem foldS_size (s : ByteArray) : (foldS s).size = 16 := blkS_size _
theorem foldB_ok (l : List UInt8) : (foldB l).ok := foldN_ok _ _

theorem piece_same (l r : List UInt8) (i : Nat) (h : 16 * (i + 1) ≤ l.length) : piece (l ++ r) i = piece l i := by
  unfold piece
  rw [List.drop_append_of_le_length (by omega), List.take_append_of_le_length (by simp; omega)]
theorem foldN_same (l r : List UInt8) (k : Nat) (h : 16 * k ≤ l.length) : foldN (l ++ r) k = foldN l k := by
  induction k with
  | zero => rfl
  | succ k ih => rw [foldN, foldN, ih (by omega), piece_same l r k (by omega)]
/-- the piece that the text ends in -/
def lastPiece (l : List UInt8) : List UInt8 := l.drop (16 * (l.length / 16)) ++ 128 :: List.replicate (fillN l.length) 0
theorem lastPiece_length (l : List UInt8) : (lastPiece l).length = 16 := by
  simp only [lastPiece, List.length_append, List.length_drop, List.length_cons, List.length_replicate, fillN]
  omega
theorem padded_split (l : List UInt8) : padded l = (l ++ 128 :: List.replicate (fillN l.length) 0) ++ (List.replicate 8 0 ++ bytesOf (bigL l.length 8)) := by
  simp [padded]
theorem piece_last (l : List UInt8) : piece (padded l) (l.length / 16) = lastPiece l := by
  rw [padded_split, piece_same _ _ _ (by simp only [List.length_append, List.length_cons, List.length_replicate, fillN]; omega)]
  unfold piece
  rw [List.drop_append_of_le_length (by omega)]
  exact List.take_of_length_le (Nat.le_of_eq (lastPiece_length l))
theorem piece_size (l : List UInt8) : piece (padded l) (l.length / 16 + 1) = List.replicate 8 0 ++ bytesOf (bigL l.length 8) := by
  rw [padded_split]
  unfold piece
  rw [List.drop_append_of_le_length (by simp only [List.length_append, List.length_cons, List.length_replicate, fillN]; omega), List.drop_of_length_le (by simp only [List.length_append, List.length_cons, List.length_replicate, fillN]; omega), List.nil_append]
  exact List.take_of_length_le (by simp [bytesOf, bigL_length])
theorem blkOf_size (n : Nat) (h : n < 18446744073709551616) : blkOf (List.replicate 8 0 ++ bytesOf (bigL n 8)) = ⟨0, 0, n / 4294967296, n % 4294967296⟩ := by
  simp only [List.replicate_succ, List.replicate_zero, blkOf, wordAt, bytesOf, bigL, List.map_cons, List.map_nil, List.cons_append, List.nil_append, Nat.mul_zero, List.drop_zero, List.take_succ_cons, List.take_zero, Nat.reduceMul, List.drop_succ_cons, val4, u8_of]
  congr 1
  · omega
  · omega
/-- the fold as the program makes it -/
theorem foldB_eq (l : List UInt8) (h : l.length < 18446744073709551616) : foldB l = foldStep (foldStep (foldN l (l.length / 16)) (blkOf (lastPiece l))) ⟨0, 0, l.length / 4294967296, l.length % 4294967296⟩ := by
  unfold foldB
  rw [show l.length / 16 + 2 = (l.length / 16 + 1) + 1 by omega, foldN, foldN, piece_last, piece_size, blkOf_size _ h]
  congr 2
  exact foldN_same _ _ _ (by omega)
end Go.Proofs.YtbiipeapcclbkaaDoor
