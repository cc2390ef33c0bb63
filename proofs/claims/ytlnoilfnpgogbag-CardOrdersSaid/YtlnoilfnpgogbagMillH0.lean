/- Hide, plain: each byte exclusive-or one of a mask. -/
import Derived.Test.YtlnoilfnpgogbagMillX
namespace Go.Proofs.Ytlnoilfnpgogbag
open Go.RowKit
set_option linter.unusedVariables false

/-- the mask of a piece -/
def maskB (K : Blk) (n0 n1 j : Nat) : Blk := fwd K 12 ⟨n0, n1, 0, j⟩
/-- byte number r of a block -/
def byteB (v : Blk) (r : Nat) : Nat := v.at (r / 4) / 2 ^ (8 * (3 - r % 4)) % 256
theorem byteB_lt (v : Blk) (r : Nat) : byteB v r < 256 := Nat.mod_lt _ (by decide)
def maskAt (K : Blk) (n0 n1 i : Nat) : Nat := byteB (maskB K n0 n1 (i / 16)) (i % 16)
theorem maskAt_lt (K : Blk) (n0 n1 i : Nat) : maskAt K n0 n1 i < 256 := byteB_lt _ _
/-- a text hidden by a mask -/
def hidL (M : Nat → Nat) (l : List UInt8) : List Int := l.mapIdx fun i c => ((c.toNat ^^^ M i : Nat) : Int)
theorem hidL_length (M : Nat → Nat) (l : List UInt8) : (hidL M l).length = l.length := by simp [hidL]
theorem hidL_append (M : Nat → Nat) (a b : List UInt8) : hidL M (a ++ b) = hidL M a ++ hidL (fun i => M (a.length + i)) b := by
  unfold hidL
  rw [List.mapIdx_append]
  simp only [Nat.add_comm]
/-- the row behind k rounds -/
def hidAt (M : Nat → Nat) (l : List UInt8) (k : Nat) : List Int := hidL M (l.take k) ++ (l.drop k).map fun c => (c.toNat : Int)
theorem hidAt_zero (M : Nat → Nat) (l : List UInt8) : hidAt M l 0 = l.map fun c => (c.toNat : Int) := by simp [hidAt, hidL]
theorem hidAt_whole (M : Nat → Nat) (l : List UInt8) : hidAt M l l.length = hidL M l := by simp [hidAt]
theorem hidAt_length (M : Nat → Nat) (l : List UInt8) (k : Nat) (h : k ≤ l.length) : (hidAt M l k).length = l.length := by
  simp [hidAt, hidL_length]; omega
theorem hidAt_at (M : Nat → Nat) (l : List UInt8) (k : Nat) (c : UInt8) (hc : l[k]? = some c) : (hidAt M l k)[k]? = some (c.toNat : Int) := by
  have hk : k < l.length := by
    rcases Nat.lt_or_ge k l.length with h | h
    · exact h
    · rw [List.getElem?_eq_none h] at hc; cases hc
  unfold hidAt
  have hl : (hidL M (l.take k)).length = k := by rw [hidL_length, List.length_take]; omega
  rw [List.getElem?_append_right (by omega), hl, Nat.sub_self, List.getElem?_map, List.getElem?_drop, Nat.add_zero, hc]
  rfl
theorem hidAt_step (M : Nat → Nat) (l : List UInt8) (k : Nat) (c : UInt8) (hc : l[k]? = some c) : (hidAt M l k).set k ((c.toNat ^^^ M k : Nat) : Int) = hidAt M l (k + 1) := by
  have hk : k < l.length := by
    rcases Nat.lt_or_ge k l.length with h | h
    · exact h
    · rw [List.getElem?_eq_none h] at hc; cases hc
  have hck : l[k] = c := by rw [List.getElem?_eq_getElem hk] at hc; exact Option.some.inj hc
  unfold hidAt
  have hl : (hidL M (l.take k)).length = k := by rw [hidL_length, List.length_take]; omega
  have hlt : (l.take k).length = k := by rw [List.length_take]; omega
  rw [List.set_append_right _ _ (by omega), hl, Nat.sub_self, List.drop_eq_getElem_cons hk, List.map_cons, List.set_cons_zero, List.take_add_one, hc, hidL_append, hlt]
  simp [hidL]
theorem hidL_twice (M : Nat → Nat) (hM : ∀ i, M i < 256) (l : List UInt8) : hidL M (strOfNums (hidL M l)).data.toList = l.map fun c => (c.toNat : Int) := by
  rw [strOfNums_data]
  unfold hidL
  apply List.ext_getElem?
  intro i
  simp only [List.getElem?_mapIdx, List.getElem?_map]
  cases h : l[i]? with
  | none => rfl
  | some c =>
    simp only [Option.map_some, Int.toNat_natCast]
    have hx : c.toNat ^^^ M i < 256 := Nat.xor_lt_two_pow (n := 8) c.toNat_lt (hM i)
    rw [UInt8.toNat_ofNat', Nat.mod_eq_of_lt hx, xor_twice]
theorem strOfNums_own (s : ByteArray) : strOfNums (s.data.toList.map fun c => (c.toNat : Int)) = s := by
  apply ByteArray.ext
  apply Array.toList_inj.1
  rw [strOfNums_data, List.map_map]
  conv => rhs; rw [← List.map_id s.data.toList]
  apply List.map_congr_left
  intro b _
  simp
/-- a piece, as the reference hides it -/
theorem xorL_blk (x : List UInt8) (v : Blk) (hx : x.length ≤ 16) : xorL x (blkS v).data.toList = hidL (byteB v) x := by
  apply List.ext_getElem?
  intro i
  unfold xorL hidL
  rw [List.getElem?_zipWith, List.getElem?_mapIdx]
  by_cases hi : i < x.length
  · have hb : (blkS v).data.toList[i]? = some (UInt8.ofNat (byteB v i)) := by
      rw [blkS, strOfNums_data, List.getElem?_map, blkL_at v i (by omega), Option.map_some, Int.toNat_natCast]
      rfl
    rw [List.getElem?_eq_getElem hi, hb]
    simp only [Option.map_some]
    rw [UInt8.toNat_ofNat', Nat.mod_eq_of_lt (byteB_lt v i)]
  · rw [List.getElem?_eq_none (by omega)]
    rfl
theorem hidL_piece (K : Blk) (n0 n1 : Nat) (l : List UInt8) (j : Nat) (h : 16 * j < l.length) : hidL (maskAt K n0 n1) (l.take (16 * (j + 1))) = hidL (maskAt K n0 n1) (l.take (16 * j)) ++ hidL (byteB (maskB K n0 n1 j)) ((l.drop (16 * j)).take 16) := by
  have hl : (l.take (16 * j)).length = 16 * j := by rw [List.length_take]; omega
  have e : hidL (fun i => maskAt K n0 n1 (16 * j + i)) ((l.drop (16 * j)).take 16) = hidL (byteB (maskB K n0 n1 j)) ((l.drop (16 * j)).take 16) := by
    unfold hidL
    apply List.ext_getElem?
    intro i
    rw [List.getElem?_mapIdx, List.getElem?_mapIdx]
    by_cases hi : i < 16
    · have e1 : maskAt K n0 n1 (16 * j + i) = byteB (maskB K n0 n1 j) i := by
        unfold maskAt
        rw [show (16 * j + i) / 16 = j by omega, show (16 * j + i) % 16 = i by omega]
      simp only [e1]
    · have e2 : ((l.drop (16 * j)).take 16)[i]? = none := List.getElem?_eq_none (by rw [List.length_take]; omega)
      simp only [e2, Option.map_none]
  rw [← e, show 16 * (j + 1) = 16 * j + 16 by omega, List.take_add, hidL_append, hl]
def hideS (k n s : ByteArray) : ByteArray := strOfNums (hidL (maskAt (blkOf k.data.toList) (wordAt n.data.toList 0) (wordAt n.data.toList 1)) s.data.toList)
theorem hideS_size (k n s : ByteArray) : (hideS k n s).size = s.size := by rw [hideS, strOfNums_size, hidL_length]; simp
theorem hideS_twice (k n s : ByteArray) : hideS k n (hideS k n s) = s := by
  conv => lhs; rw [hideS]
  rw [hideS, hidL_twice _ (fun i => maskAt_lt _ _ _ _), strOfNums_own]
theorem wordAt_left (a b : List UInt8) (j : Nat) (h : 4 * j + 4 ≤ a.length) : wordAt (a ++ b) j = wordAt a j := by
  unfold wordAt
  rw [List.drop_append_of_le_length (by omega), List.take_append_of_le_length (by simp; omega)]
theorem blkOf_nonce (n : List UInt8) (j : Nat) (hn : n.length = 8) (hj : j < 4294967296) : blkOf (n ++ bytesOf (bigL j 8)) = ⟨wordAt n 0, wordAt n 1, 0, j⟩ := by
  have h := blkOf_size j (by omega)
  rw [Nat.div_eq_of_lt hj, Nat.mod_eq_of_lt hj] at h
  have e2 : wordAt (n ++ bytesOf (bigL j 8)) 2 = wordAt (List.replicate 8 0 ++ bytesOf (bigL j 8)) 2 := by
    unfold wordAt
    rw [List.drop_append_of_le_length (by omega), List.drop_append_of_le_length (by simp), List.drop_of_length_le (by omega), List.drop_of_length_le (by simp)]
  have e3 : wordAt (n ++ bytesOf (bigL j 8)) 3 = wordAt (List.replicate 8 0 ++ bytesOf (bigL j 8)) 3 := by
    unfold wordAt
    have d1 : n.drop (4 * 3) = [] := List.drop_of_length_le (by omega)
    have d2 : (List.replicate 8 (0 : UInt8)).drop (4 * 3) = [] := List.drop_of_length_le (by simp)
    rw [List.drop_append, List.drop_append, hn, List.length_replicate, d1, d2]
  unfold blkOf at h ⊢
  simp only [Blk.mk.injEq] at h
  rw [wordAt_left _ _ 0 (by omega), wordAt_left _ _ 1 (by omega), e2, e3, h.2.2.1, h.2.2.2]
end Go.Proofs.Ytlnoilfnpgogbag
