/- A book's find, plain: an entry's first cell is read; a text out of its pieces. -/
import Derived.Test.YtbiipeapcclbkaaBkK
namespace Go.Proofs.Ytbiipeapcclbkaa
set_option linter.unusedVariables false

theorem extract_left (s t : ByteArray) (a b : Nat) (h : b ≤ s.size) : (s ++ t).extract a b = s.extract a b := by
  apply ByteArray.ext
  apply Array.toList_inj.1
  have h1 : s.data.toList.length = s.size := by simp
  simp only [ByteArray.data_extract, ByteArray.data_append, Array.toList_extract, Array.toList_append, List.extract_eq_take_drop]
  rw [List.drop_append, List.take_append, List.length_drop, h1]
  by_cases hab : a ≤ b
  · rw [show b - a - (s.size - a) = 0 by omega, List.take_zero, List.append_nil]
  · rw [show b - a = 0 by omega]; simp
theorem extract_mid (s t : ByteArray) (a b : Nat) (ha : s.size ≤ a) : (s ++ t).extract a b = t.extract (a - s.size) (b - s.size) := by
  apply ByteArray.ext
  apply Array.toList_inj.1
  have h1 : s.data.toList.length = s.size := by simp
  simp only [ByteArray.data_extract, ByteArray.data_append, Array.toList_extract, Array.toList_append, List.extract_eq_take_drop]
  rw [List.drop_append, h1, List.drop_of_length_le (by omega), List.nil_append]
  congr 1
  omega
theorem extract_all (s : ByteArray) : s.extract 0 s.size = s := by
  apply ByteArray.ext
  simp
theorem pad_as (s : ByteArray) : pad s = s ++ ⟨Array.replicate (16 - s.size) 0⟩ := by
  unfold pad
  apply ByteArray.ext
  simp
/-- what is read of an entry's first cell -/
theorem head_parts (e : En) (h : okEn e) : (headB e).extract 0 1 = numS e.what 1 ∧ (headB e).extract 1 2 = numS e.how 1 ∧ (headB e).extract 2 4 = numS (e.text.size : Int) 2 := by
  obtain ⟨z1, z2, z3⟩ := headT_parts e h
  have hs := headT_size e h
  unfold headB
  rw [pad_as, extract_left _ _ 0 1 (by omega), extract_left _ _ 1 2 (by omega), extract_left _ _ 2 4 (by omega)]
  unfold headT
  generalize numS e.what 1 = a at *
  generalize numS e.how 1 = b at *
  generalize numS (e.text.size : Int) 2 = c at *
  have hab : (a ++ b).size = 2 := by rw [ByteArray.size_append]; omega
  refine ⟨?_, ?_, ?_⟩
  · rw [extract_left _ _ 0 1 (by omega), extract_left _ _ 0 1 (by omega)]
    have := extract_all a; rwa [z1] at this
  · rw [extract_left _ _ 1 2 (by omega), extract_mid _ _ 1 2 (by omega), z1]
    have := extract_all b; rwa [z2] at this
  · rw [extract_mid _ _ 2 4 (by omega), hab]
    have := extract_all c; rwa [z3] at this
theorem head_reads (e : En) (h : okEn e) : readV (numS e.what 1) = e.what ∧ readV (numS e.how 1) = e.how ∧ readV (numS (e.text.size : Int) 2) = (e.text.size : Int) := by
  obtain ⟨h1, h2, h3, h4, h5⟩ := h
  refine ⟨(read_num _ _ (by omega) ?_).1, (read_num _ _ (by omega) ?_).1, (read_num _ _ (by omega) ?_).1⟩
  · have := (numOk_nat e.what.toNat 1 (by decide) (by decide)).2 (by omega)
    rwa [show ((e.what.toNat : Nat) : Int) = e.what by omega] at this
  · have := (numOk_nat e.how.toNat 1 (by decide) (by decide)).2 (by omega)
    rwa [show ((e.how.toNat : Nat) : Int) = e.how by omega] at this
  · exact (numOk_nat e.text.size 2 (by decide) (by decide)).2 (by omega)
theorem zero_reads : readV (zeroC.extract 0 1) = 0 ∧ readV (zeroC.extract 1 2) = 0 ∧ readV (zeroC.extract 2 4) = 0 := by
  refine ⟨?_, ?_, ?_⟩ <;> decide +kernel
/-- the first k pieces of a text, as bytes -/
def chunksL (t : ByteArray) : Nat → List UInt8
  | 0 => []
  | k + 1 => chunksL t k ++ (chunk t k).data.toList
theorem chunksL_len (t : ByteArray) (k : Nat) : (chunksL t k).length = 16 * k := by
  induction k with
  | zero => rfl
  | succ k ih =>
    have : (chunk t k).data.toList.length = 16 := by have := chunk_size t k; simpa using this
    rw [chunksL, List.length_append, ih, this]; omega
theorem chunk_bytes (t : ByteArray) (k : Nat) : (chunk t k).data.toList = (t.data.toList.drop (k * 16)).take 16 ++ List.replicate (16 - ((t.data.toList.drop (k * 16)).take 16).length) 0 := by
  have hl : t.data.toList.length = t.size := by simp
  unfold chunk pad
  rw [Array.toList_append, Array.toList_replicate]
  have he : (t.extract (k * 16) (min (k * 16 + 16) t.size)).data.toList = (t.data.toList.drop (k * 16)).take 16 := by
    rw [ByteArray.data_extract, Array.toList_extract, List.extract_eq_take_drop]
    by_cases h : k * 16 + 16 ≤ t.size
    · rw [show min (k * 16 + 16) t.size - k * 16 = 16 by omega]
    · rw [List.take_of_length_le (by rw [List.length_drop, hl]; omega), List.take_of_length_le (by rw [List.length_drop, hl]; omega)]
  rw [he, ← he]
  rw [show (t.extract (k * 16) (min (k * 16 + 16) t.size)).data.toList.length = (t.extract (k * 16) (min (k * 16 + 16) t.size)).size from Array.length_toList]
/-- the pieces are the text, filled up -/
theorem chunksL_take (t : ByteArray) (k : Nat) : (chunksL t k).take t.size = t.data.toList.take (16 * k) := by
  have hl : t.data.toList.length = t.size := by simp
  induction k with
  | zero => simp [chunksL]
  | succ k ih =>
    rw [chunksL, List.take_append, ih, chunksL_len, chunk_bytes]
    by_cases h : 16 * k ≤ t.size
    · rw [show 16 * (k + 1) = 16 * k + 16 by omega, List.take_add]
      congr 1
      rw [show k * 16 = 16 * k by omega]
      generalize hd : t.data.toList.drop (16 * k) = d
      have hdl : d.length = t.size - 16 * k := by rw [← hd, List.length_drop, hl]
      rw [List.take_append]
      by_cases h16 : 16 ≤ d.length
      · rw [List.length_take, Nat.min_eq_left h16]
        simp only [Nat.sub_self, List.replicate_zero, List.take_nil, List.append_nil]
        rw [List.take_take, Nat.min_eq_right (by omega)]
      · have hd2 : d.take 16 = d := List.take_of_length_le (by omega)
        rw [hd2, List.take_of_length_le (by omega), show t.size - 16 * k - d.length = 0 by omega, List.take_zero, List.append_nil]
    · rw [show t.size - 16 * k = 0 by omega, List.take_zero, List.append_nil, List.take_of_length_le (by omega), List.take_of_length_le (by omega)]
theorem chunks_text (t : ByteArray) : (⟨(chunksL t (nC t.size)).toArray⟩ : ByteArray).extract 0 t.size = t := by
  apply ByteArray.ext
  apply Array.toList_inj.1
  have hl : t.data.toList.length = t.size := by simp
  rw [ByteArray.data_extract, Array.toList_extract, List.extract_eq_take_drop, List.drop_zero, Nat.sub_zero, chunksL_take, List.take_of_length_le]
  rw [hl]; unfold nC; omega
end Go.Proofs.Ytbiipeapcclbkaa
