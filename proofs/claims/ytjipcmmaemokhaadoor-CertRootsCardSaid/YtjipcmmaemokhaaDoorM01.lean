/- The mill, plain: rounds, and the way back; blocks as texts. -/
import Derived.Test.YtjipcmmaemokhaaDoorM00
namespace Go.Proofs.YtjipcmmaemokhaaDoor
open Go.RowKit
set_option linter.unusedVariables false

/-- a word turned to the left -/
def rl (x n : Nat) : Nat := x * 2 ^ n % 4294967296 ||| x / 2 ^ (32 - n)

theorem or_add (a b k : Nat) (h : b < 2 ^ k) : a * 2 ^ k ||| b = a * 2 ^ k + b := by
  have := Nat.shiftLeft_add_eq_or_of_lt h a
  rw [Nat.shiftLeft_eq] at this
  exact this.symm
theorem rl12 (x : Nat) (h : x < 4294967296) : rl x 12 = x % 1048576 * 4096 + x / 1048576 := by
  unfold rl
  rw [show x * 2 ^ 12 % 4294967296 = (x % 1048576) * 2 ^ 12 by omega, or_add _ _ 12 (by omega)]
theorem rl16 (x : Nat) (h : x < 4294967296) : rl x 16 = x % 65536 * 65536 + x / 65536 := by
  unfold rl
  rw [show x * 2 ^ 16 % 4294967296 = (x % 65536) * 2 ^ 16 by omega, or_add _ _ 16 (by omega)]
theorem rl20 (x : Nat) (h : x < 4294967296) : rl x 20 = x % 4096 * 1048576 + x / 4096 := by
  unfold rl
  rw [show x * 2 ^ 20 % 4294967296 = (x % 4096) * 2 ^ 20 by omega, or_add _ _ 20 (by omega)]
theorem rl12_lt (x : Nat) (h : x < 4294967296) : rl x 12 < 4294967296 := by rw [rl12 x h]; omega
theorem rl16_lt (x : Nat) (h : x < 4294967296) : rl x 16 < 4294967296 := by rw [rl16 x h]; omega
theorem rl20_lt (x : Nat) (h : x < 4294967296) : rl x 20 < 4294967296 := by rw [rl20 x h]; omega
theorem rl12_20 (x : Nat) (h : x < 4294967296) : rl (rl x 12) 20 = x := by
  rw [rl20 _ (rl12_lt x h), rl12 x h]; omega
theorem rl20_12 (x : Nat) (h : x < 4294967296) : rl (rl x 20) 12 = x := by
  rw [rl12 _ (rl20_lt x h), rl20 x h]; omega
theorem rl16_16 (x : Nat) (h : x < 4294967296) : rl (rl x 16) 16 = x := by
  rw [rl16 _ (rl16_lt x h), rl16 x h]; omega
theorem xor_lt32 {a b : Nat} (ha : a < 4294967296) (hb : b < 4294967296) : a ^^^ b < 4294967296 := Nat.xor_lt_two_pow (n := 32) ha hb
theorem xor_twice (a b : Nat) : (a ^^^ b) ^^^ b = a := by rw [Nat.xor_assoc, Nat.xor_self, Nat.xor_zero]

/-- four words -/
structure Blk where
  a : Nat
  b : Nat
  c : Nat
  d : Nat
def Blk.ok (v : Blk) : Prop := v.a < 4294967296 ∧ v.b < 4294967296 ∧ v.c < 4294967296 ∧ v.d < 4294967296
/-- the word with a number -/
def Blk.at (v : Blk) : Nat → Nat
  | 0 => v.a
  | 1 => v.b
  | 2 => v.c
  | _ => v.d
theorem Blk.at_lt {v : Blk} (h : v.ok) (i : Nat) : v.at i < 4294967296 := by
  obtain ⟨h1, h2, h3, h4⟩ := h
  match i with
  | 0 => exact h1
  | 1 => exact h2
  | 2 => exact h3
  | n + 3 => exact h4
/-- what a round adds -/
def added (k : Blk) (i : Nat) : Nat := k.at (i % 4) + i * 2654435769
def nextA (k : Blk) (i : Nat) (v : Blk) : Nat := (v.a + v.b + added k i) % 4294967296
def nextD (k : Blk) (i : Nat) (v : Blk) : Nat := rl (v.d ^^^ nextA k i v) 16
def nextC (k : Blk) (i : Nat) (v : Blk) : Nat := (v.c + nextD k i v) % 4294967296
def nextB (k : Blk) (i : Nat) (v : Blk) : Nat := rl (v.b ^^^ nextC k i v) 12
/-- a round -/
def rnd (k : Blk) (i : Nat) (v : Blk) : Blk := ⟨nextB k i v, nextC k i v, nextD k i v, nextA k i v⟩
/-- so many rounds -/
def fwd (k : Blk) : Nat → Blk → Blk
  | 0, v => v
  | n + 1, v => rnd k n (fwd k n v)
/-- the way back of a round: the words are (b, c, d, a) -/
def lastB (v : Blk) : Nat := rl v.a 20 ^^^ v.b
def lastC (v : Blk) : Nat := (v.b + (4294967296 - v.c)) % 4294967296
def lastD (v : Blk) : Nat := rl v.c 16 ^^^ v.d
def lastA (k : Blk) (i : Nat) (v : Blk) : Nat := (v.d + (4294967296 - (lastB v + added k i) % 4294967296)) % 4294967296
def unrnd (k : Blk) (i : Nat) (v : Blk) : Blk := ⟨lastA k i v, lastB v, lastC v, lastD v⟩
/-- so many of the last rounds undone -/
def bwd (k : Blk) : Nat → Blk → Blk
  | 0, v => v
  | n + 1, v => unrnd k (11 - n) (bwd k n v)

theorem nextA_lt (k : Blk) (i : Nat) (v : Blk) : nextA k i v < 4294967296 := Nat.mod_lt _ (by decide)
theorem nextD_lt (k : Blk) (i : Nat) (v : Blk) (h : v.ok) : nextD k i v < 4294967296 := rl16_lt _ (xor_lt32 h.2.2.2 (nextA_lt k i v))
theorem nextC_lt (k : Blk) (i : Nat) (v : Blk) : nextC k i v < 4294967296 := Nat.mod_lt _ (by decide)
theorem nextB_lt (k : Blk) (i : Nat) (v : Blk) (h : v.ok) : nextB k i v < 4294967296 := rl12_lt _ (xor_lt32 h.2.1 (nextC_lt k i v))
theorem rnd_ok (k : Blk) (i : Nat) (v : Blk) (h : v.ok) : (rnd k i v).ok := ⟨nextB_lt k i v h, nextC_lt k i v, nextD_lt k i v h, nextA_lt k i v⟩
theorem fwd_ok (k : Blk) (n : Nat) (v : Blk) (h : v.ok) : (fwd k n v).ok := by
  induction n with
  | zero => exact h
  | succ n ih => exact rnd_ok k n _ ih
theorem lastA_lt (k : Blk) (i : Nat) (v : Blk) : lastA k i v < 4294967296 := Nat.mod_lt _ (by decide)
theorem lastB_lt (v : Blk) (h : v.ok) : lastB v < 4294967296 := xor_lt32 (rl20_lt _ h.1) h.2.1
theorem lastC_lt (v : Blk) : lastC v < 4294967296 := Nat.mod_lt _ (by decide)
theorem lastD_lt (v : Blk) (h : v.ok) : lastD v < 4294967296 := xor_lt32 (rl16_lt _ h.2.2.1) h.2.2.2
theorem unrnd_ok (k : Blk) (i : Nat) (v : Blk) (h : v.ok) : (unrnd k i v).ok := ⟨lastA_lt k i v, lastB_lt v h, lastC_lt v, lastD_lt v h⟩
theorem bwd_ok (k : Blk) (n : Nat) (v : Blk) (h : v.ok) : (bwd k n v).ok := by
  induction n with
  | zero => exact h
  | succ n ih => exact unrnd_ok k _ _ ih

theorem unrnd_rnd (k : Blk) (i : Nat) (v : Blk) (h : v.ok) : unrnd k i (rnd k i v) = v := by
  have hb : lastB (rnd k i v) = v.b := by
    show rl (rl (v.b ^^^ nextC k i v) 12) 20 ^^^ nextC k i v = v.b
    rw [rl12_20 _ (xor_lt32 h.2.1 (nextC_lt k i v)), xor_twice]
  have hc : lastC (rnd k i v) = v.c := by
    show (nextC k i v + (4294967296 - nextD k i v)) % 4294967296 = v.c
    have h1 := nextD_lt k i v h
    have h2 := h.2.2.1
    unfold nextC
    omega
  have hd : lastD (rnd k i v) = v.d := by
    show rl (rl (v.d ^^^ nextA k i v) 16) 16 ^^^ nextA k i v = v.d
    rw [rl16_16 _ (xor_lt32 h.2.2.2 (nextA_lt k i v)), xor_twice]
  have ha : lastA k i (rnd k i v) = v.a := by
    unfold lastA
    rw [hb]
    show (nextA k i v + (4294967296 - (v.b + added k i) % 4294967296)) % 4294967296 = v.a
    have h1 := h.1
    unfold nextA
    omega
  cases v
  simp only [unrnd, hb, hc, hd, ha]
theorem rnd_unrnd (k : Blk) (i : Nat) (v : Blk) (h : v.ok) : rnd k i (unrnd k i v) = v := by
  have ha : nextA k i (unrnd k i v) = v.d := by
    show (lastA k i v + lastB v + added k i) % 4294967296 = v.d
    have h1 := h.2.2.2
    unfold lastA
    omega
  have hd : nextD k i (unrnd k i v) = v.c := by
    unfold nextD
    rw [ha]
    show rl ((rl v.c 16 ^^^ v.d) ^^^ v.d) 16 = v.c
    rw [xor_twice, rl16_16 _ h.2.2.1]
  have hc : nextC k i (unrnd k i v) = v.b := by
    unfold nextC
    rw [hd]
    show ((v.b + (4294967296 - v.c)) % 4294967296 + v.c) % 4294967296 = v.b
    have h1 := h.2.1
    have h2 := h.2.2.1
    omega
  have hb : nextB k i (unrnd k i v) = v.a := by
    unfold nextB
    rw [hc]
    show rl ((rl v.a 20 ^^^ v.b) ^^^ v.b) 12 = v.a
    rw [xor_twice, rl20_12 _ h.1]
  cases v
  simp only [rnd, hb, hc, hd, ha]
theorem fwd_bwd_step (k : Blk) (n : Nat) : ∀ v : Blk, v.ok → n ≤ 12 → bwd k n (fwd k 12 v) = fwd k (12 - n) v := by
  induction n with
  | zero => intro v h hn; rfl
  | succ n ih =>
    intro v h hn
    rw [bwd, ih v h (by omega), show 12 - n = (11 - n) + 1 by omega, fwd, unrnd_rnd _ _ _ (fwd_ok k _ v h), show 12 - (n + 1) = 11 - n by omega]
theorem bwd_fwd (k : Blk) (v : Blk) (h : v.ok) : bwd k 12 (fwd k 12 v) = v := fwd_bwd_step k 12 v h (Nat.le_refl _)
theorem bwd_fwd_step (k : Blk) (n : Nat) : ∀ v : Blk, v.ok → n ≤ 12 → fwd k n (bwd k 12 v) = bwd k (12 - n) v := by
  induction n with
  | zero => intro v h hn; rfl
  | succ n ih =>
    intro v h hn
    rw [fwd, ih v h (by omega), show 12 - n = (11 - n) + 1 by omega, bwd, show 11 - (11 - n) = n by omega, rnd_unrnd _ _ _ (bwd_ok k _ v h), show 12 - (n + 1) = 11 - n by omega]
theorem fwd_bwd (k : Blk) (v : Blk) (h : v.ok) : fwd k 12 (bwd k 12 v) = v := bwd_fwd_step k 12 v h (Nat.le_refl _)

/-- the text of a block -/
def blkL (v : Blk) : List Int := bigL v.a 4 ++ (bigL v.b 4 ++ (bigL v.c 4 ++ bigL v.d 4))
/-- four bytes of a text as a word -/
def wordAt (l : List UInt8) (j : Nat) : Nat := valN ((l.drop (4 * j)).take 4)
/-- the block of a text -/
def blkOf (l : List UInt8) : Blk := ⟨wordAt l 0, wordAt l 1, wordAt l 2, wordAt l 3⟩
def blkS (v : Blk) : ByteArray := strOfNums (blkL v)

theorem wordAt_lt (l : List UInt8) (j : Nat) : wordAt l j < 4294967296 := by
  have h := valN_lt ((l.drop (4 * j)).take 4)
  have h2 : 256 ^ ((l.drop (4 * j)).take 4).length ≤ 256 ^ 4 := Nat.pow_le_pow_right (by omega) (by simp; omega)
  unfold wordAt
  omega
theorem blkOf_ok (l : List UInt8) : (blkOf l).ok := ⟨wordAt_lt l 0, wordAt_lt l 1, wordAt_lt l 2, wordAt_lt l 3⟩
theorem blkL_length (v : Blk) : (blkL v).length = 16 := by simp [blkL, bigL_length]
theorem blkS_size (v : Blk) : (blkS v).size = 16 := by rw [blkS, strOfNums_size, blkL_length]

theorem val4 (b0 b1 b2 b3 : UInt8) : valN [b0, b1, b2, b3] = ((b0.toNat * 256 + b1.toNat) * 256 + b2.toNat) * 256 + b3.toNat := by
  simp [valN]
theorem u8_of (n : Nat) : (UInt8.ofNat (((n % 256 : Nat) : Int)).toNat).toNat = n % 256 := by
  rw [Int.toNat_natCast, UInt8.toNat_ofNat']
  omega
theorem list16 (l : List UInt8) (h : l.length = 16) : ∃ x0 x1 x2 x3 x4 x5 x6 x7 x8 x9 xa xb xc xd xe xf, l = [x0, x1, x2, x3, x4, x5, x6, x7, x8, x9, xa, xb, xc, xd, xe, xf] := by
  match l, h with
  | [x0, x1, x2, x3, x4, x5, x6, x7, x8, x9, xa, xb, xc, xd, xe, xf], _ => exact ⟨_, _, _, _, _, _, _, _, _, _, _, _, _, _, _, _, rfl⟩
theorem u8_back (b : UInt8) (n : Nat) (h : n % 256 = b.toNat) : UInt8.ofNat (((n % 256 : Nat) : Int)).toNat = b := by
  apply UInt8.toNat_inj.1
  rw [u8_of, h]
theorem val_four (v : Nat) (h : v < 4294967296) : ((v / 256 ^ 3 % 256 * 256 + v / 256 ^ 2 % 256) * 256 + v / 256 ^ 1 % 256) * 256 + v / 256 ^ 0 % 256 = v := by omega
theorem blkOf_blkS (v : Blk) (h : v.ok) : blkOf (blkS v).data.toList = v := by
  obtain ⟨h1, h2, h3, h4⟩ := h
  cases v with | mk a b c d =>
  simp only at h1 h2 h3 h4
  simp only [blkOf, blkS, blkL, strOfNums_data, wordAt, bigL, List.map_cons, List.map_nil, List.cons_append, List.nil_append, Nat.mul_zero, List.drop_zero, List.take_succ_cons, List.take_zero, Nat.reduceMul, List.drop_succ_cons, val4, u8_of]
  rw [val_four a h1, val_four b h2, val_four c h3, val_four d h4]
theorem big_four (b0 b1 b2 b3 : UInt8) : (bigL (valN [b0, b1, b2, b3]) 4).map (fun z => UInt8.ofNat z.toNat) = [b0, b1, b2, b3] := by
  rw [val4]
  have e0 := b0.toNat_lt
  have e1 := b1.toNat_lt
  have e2 := b2.toNat_lt
  have e3 := b3.toNat_lt
  simp only [bigL, List.map_cons, List.map_nil]
  rw [u8_back b0 _ (by omega), u8_back b1 _ (by omega), u8_back b2 _ (by omega), u8_back b3 _ (by omega)]
theorem blkS_blkOf (s : ByteArray) (h : s.size = 16) : blkS (blkOf s.data.toList) = s := by
  obtain ⟨x0, x1, x2, x3, x4, x5, x6, x7, x8, x9, xa, xb, xc, xd, xe, xf, hl⟩ := list16 s.data.toList (by simpa using h)
  apply ByteArray.ext
  apply Array.toList_inj.1
  rw [hl]
  simp only [blkS, blkL, strOfNums_data, List.map_append, blkOf, wordAt, Nat.mul_zero, List.drop_zero, List.take_succ_cons, List.take_zero, Nat.reduceMul, List.drop_succ_cons, big_four, List.cons_append, List.nil_append]

/-- a block stirred by a key; and the way back -/
def turnS (k s : ByteArray) : ByteArray := blkS (fwd (blkOf k.data.toList) 12 (blkOf s.data.toList))
def backS (k s : ByteArray) : ByteArray := blkS (bwd (blkOf k.data.toList) 12 (blkOf s.data.toList))
theorem turnS_size (k s : ByteArray) : (turnS k s).size = 16 := blkS_size _
theorem backS_size (k s : ByteArray) : (backS k s).size = 16 := blkS_size _
theorem turn_back (k s : ByteArray) (h : s.size = 16) : turnS k (backS k s) = s := by
  unfold turnS backS
  rw [blkOf_blkS _ (bwd_ok _ _ _ (blkOf_ok _)), fwd_bwd _ _ (blkOf_ok _), blkS_blkOf s h]
theorem back_turn (k s : ByteArray) (h : s.size = 16) : backS k (turnS k s) = s := by
  unfold turnS backS
  rw [blkOf_blkS _ (fwd_ok _ _ _ (blkOf_ok _)), bwd_fwd _ _ (blkOf_ok _), blkS_blkOf s h]
theorem turn_inj (k a b : ByteArray) (ha : a.size = 16) (hb : b.size = 16) : turnS k a = turnS k b ↔ a = b :=
  ⟨fun e => by rw [← back_turn k a ha, e, back_turn k b hb], fun e => by rw [e]⟩
end Go.Proofs.YtjipcmmaemokhaaDoor
namespace Go.Proofs.YtjipcmmaemokhaaDoor
open Go.RowKit
set_option linter.unusedVariables false

def zeroB : Blk := ⟨0, 0, 0, 0⟩
theorem zeroB_ok : zeroB.ok := by unfold zeroB Blk.ok; decide
def xorB (u v : Blk) : Blk := ⟨u.a ^^^ v.a, u.b ^^^ v.b, u.c ^^^ v.c, u.d ^^^ v.d⟩
theorem xorB_ok {u v : Blk} (h : u.ok) (k : v.ok) : (xorB u v).ok := ⟨xor_lt32 h.1 k.1, xor_lt32 h.2.1 k.2.1, xor_lt32 h.2.2.1 k.2.2.1, xor_lt32 h.2.2.2 k.2.2.2⟩
/-- h becomes Turn(piece, h) exclusive-or h -/
def foldStep (h p : Blk) : Blk := xorB (fwd p 12 h) h
theorem foldStep_ok {h : Blk} (hk : h.ok) (p : Blk) : (foldStep h p).ok := xorB_ok (fwd_ok p 12 h hk) hk
def piece (l : List UInt8) (i : Nat) : List UInt8 := (l.drop (16 * i)).take 16
/-- behind so many pieces of a text -/
def foldN (l : List UInt8) : Nat → Blk
  | 0 => zeroB
  | k + 1 => foldStep (foldN l k) (blkOf (piece l k))
theorem foldN_ok (l : List UInt8) (k : Nat) : (foldN l k).ok := by
  induction k with
  | zero => exact zeroB_ok
  | succ k ih => exact foldStep_ok ih _

/-- bytes of numbers -/
def bytesOf (xs : List Int) : List UInt8 := xs.map fun z => UInt8.ofNat z.toNat
/-- what stands behind a text of n bytes -/
def fillN (n : Nat) : Nat := 15 - n % 16
def padded (l : List UInt8) : List UInt8 := l ++ (128 :: (List.replicate (fillN l.length) 0 ++ (List.replicate 8 0 ++ bytesOf (bigL l.length 8))))
theorem padded_length (l : List UInt8) : (padded l).length = 16 * (l.length / 16 + 2) := by
  simp only [padded, List.length_append, List.length_cons, List.length_replicate, bytesOf, List.length_map, bigL_length, fillN]
  omega
/-- the fold of a text -/
def foldB (l : List UInt8) : Blk := foldN (padded l) (l.length / 16 + 2)
def foldS (s : ByteArray) : ByteArray := blkS (foldB s.data.toList)
theorem foldS_size (s : ByteArray) : (foldS s).size = 16 := blkS_size _
theorem foldB_ok (l : List UInt8) : (foldB l).ok := foldN_ok _ _

theorem piece_same (l r : List UInt8) (i : Nat) (h : 16 * (i + 1) ≤ l.length) : piece (l ++ r) i = piece l i := by
  unfold piece
  rw [List.drop_append_of_le_length (by omega), List.take_append_of_le_length (by simp; omega)]
theorem foldN_same (l r : List UInt8) (k : Nat) (h : 16 * k ≤ l.length) : foldN (l ++ r) k = foldN l k := by
  induction k with
  | zero => rfl
  | succ k ih => rw [foldN, foldN, ih (by omega), piece_same l r k (by omega)]
/-- the piece that the text ends in -/
def lastPiece (l : List UInt8) : List UInt8 := l.drop (16 * (l.length / 16)) ++ 128 :: List.replicate (fillN l.length) 0
theorem lastPiece_length (l : List UInt8) : (lastPiece l).length = 16 := by
  simp only [lastPiece, List.length_append, List.length_drop, List.length_cons, List.length_replicate, fillN]
  omega
theorem padded_split (l : List UInt8) : padded l = (l ++ 128 :: List.replicate (fillN l.length) 0) ++ (List.replicate 8 0 ++ bytesOf (bigL l.length 8)) := by
  simp [padded]
theorem piece_last (l : List UInt8) : piece (padded l) (l.length / 16) = lastPiece l := by
  rw [padded_split, piece_same _ _ _ (by simp only [List.length_append, List.length_cons, List.length_replicate, fillN]; omega)]
  unfold piece
  rw [List.drop_append_of_le_length (by omega)]
  exact List.take_of_length_le (Nat.le_of_eq (lastPiece_length l))
theorem piece_size (l : List UInt8) : piece (padded l) (l.length / 16 + 1) = List.replicate 8 0 ++ bytesOf (bigL l.length 8) := by
  rw [padded_split]
  unfold piece
  rw [List.drop_append_of_le_length (by simp only [List.length_append, List.length_cons, List.length_replicate, fillN]; omega), List.drop_of_length_le (by simp only [List.length_append, List.length_cons, List.length_replicate, fillN]; omega), List.nil_append]
  exact List.take_of_length_le (by simp [bytesOf, bigL_length])
theorem blkOf_size (n : Nat) (h : n < 18446744073709551616) : blkOf (List.replicate 8 0 ++ bytesOf (bigL n 8)) = ⟨0, 0, n / 4294967296, n % 4294967296⟩ := by
  simp only [List.replicate_succ, List.replicate_zero, blkOf, wordAt, bytesOf, bigL, List.map_cons, List.map_nil, List.cons_append, List.nil_append, Nat.mul_zero, List.drop_zero, List.take_succ_cons, List.take_zero, Nat.reduceMul, List.drop_succ_cons, val4, u8_of]
  congr 1
  · omega
  · omega
/-- the fold as the program makes it -/
theorem foldB_eq (l : List UInt8) (h : l.length < 18446744073709551616) : foldB l = foldStep (foldStep (foldN l (l.length / 16)) (blkOf (lastPiece l))) ⟨0, 0, l.length / 4294967296, l.length % 4294967296⟩ := by
  unfold foldB
  rw [show l.length / 16 + 2 = (l.length / 16 + 1) + 1 by omega, foldN, foldN, piece_last, piece_size, blkOf_size _ h]
  congr 2
  exact foldN_same _ _ _ (by omega)
end Go.Proofs.YtjipcmmaemokhaaDoor
