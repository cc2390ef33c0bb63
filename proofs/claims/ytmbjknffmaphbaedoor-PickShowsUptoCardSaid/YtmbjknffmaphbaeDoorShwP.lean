/- What a display shows, plain: letters of a text, the runes that stand for them, and back to bytes. -/
import Derived.Test.YtmbjknffmaphbaeDoorLow0
import Derived.Lib.MapLaws
import Derived.Lib.TrimUEq
import Derived.Laws.Cover4
import Derived.Laws.IdiomStrings
namespace Go.Proofs.YtmbjknffmaphbaeDoor
open Go.RowKit Go.Lib
set_option linter.unusedVariables false

/-- the rune that stands for a letter -/
def asR (r n : Nat) : Int := if r = 65533 ∧ n = 1 then 63 else if r < 32 ∨ r = 127 then 32 else (r : Int)
def shR (l : List UInt8) : Int := asR (decodeL l).1 (decodeL l).2
def lettersF : Nat → List UInt8 → List Int
  | 0, _ => []
  | f + 1, l => if l = [] then [] else shR l :: lettersF f (l.drop (decodeL l).2)
def letters (l : List UInt8) : List Int := lettersF l.length l
theorem lettersF_enough : ∀ (f g : Nat) (l : List UInt8), l.length ≤ f → l.length ≤ g → lettersF f l = lettersF g l
  | 0, 0, l, _, _ => rfl
  | 0, g + 1, l, h, _ => by
    have : l = [] := List.length_eq_zero_iff.1 (by omega)
    subst this
    simp [lettersF]
  | f + 1, 0, l, _, h => by
    have : l = [] := List.length_eq_zero_iff.1 (by omega)
    subst this
    simp [lettersF]
  | f + 1, g + 1, l, h1, h2 => by
    unfold lettersF
    by_cases hl : l = []
    · rw [if_pos hl, if_pos hl]
    · rw [if_neg hl, if_neg hl]
      have hw := decodeL_width l
      have hpos : 0 < l.length := List.length_pos_iff.2 hl
      rw [lettersF_enough f g _ (by rw [List.length_drop]; omega) (by rw [List.length_drop]; omega)]
theorem letters_nil : letters [] = [] := rfl
theorem letters_step (l : List UInt8) (h : l ≠ []) : letters l = shR l :: letters (l.drop (decodeL l).2) := by
  have hw := decodeL_width l
  have hpos : 0 < l.length := List.length_pos_iff.2 h
  obtain ⟨n, hn⟩ : ∃ n, l.length = n + 1 := ⟨l.length - 1, by omega⟩
  unfold letters
  rw [hn, lettersF, if_neg h]
  congr 1
  exact lettersF_enough _ _ _ (by rw [List.length_drop]; omega) (Nat.le_refl _)
theorem letters_length (l : List UInt8) : (letters l).length ≤ l.length := by
  suffices h : ∀ f l, (lettersF f l).length ≤ f from h _ _
  intro f
  induction f with
  | zero => intro l; simp [lettersF]
  | succ f ih =>
    intro l
    unfold lettersF
    split
    · simp
    · have := ih (l.drop (decodeL l).2)
      simp; omega
/-- what is shown -/
def shownL (L : List Int) : List Int := if L.length ≤ 16 then L else L.take 15 ++ [62]
theorem shownL_length (L : List Int) : (shownL L).length ≤ 16 := by
  unfold shownL
  split
  · assumption
  · simp; omega
def bytesR (L : List Int) : List UInt8 := L.flatMap encodeRune
def textR (L : List Int) : ByteArray := ⟨(bytesR L).toArray⟩
theorem u8_eq {a : Nat} {b : Int} (h : (a : Int) = b) : UInt8.ofNat a = b.toNat.toUInt8 := by
  have : b.toNat = a := by omega
  rw [this]
theorem encode_same (r : Int) : Utf8.encode r = ⟨(encodeRune r).toArray⟩ := by
  by_cases h1 : 0 ≤ r ∧ r ≤ 127
  · have hv : Utf8.valid r = true := by simp [Utf8.valid]; omega
    have hc : r.toNat < 128 := by omega
    rw [encodeRune, encodeRuneZ_one h1.1 h1.2]
    simp only [Utf8.encode, hv, if_true, hc]
    rw [u8_eq (b := r) (by omega)]
    rfl
  · by_cases h2 : 128 ≤ r ∧ r ≤ 2047
    · have hv : Utf8.valid r = true := by simp [Utf8.valid]; omega
      have hc : ¬ r.toNat < 128 := by omega
      have hc2 : r.toNat < 2048 := by omega
      rw [encodeRune, encodeRuneZ_two h2.1 h2.2]
      simp only [Utf8.encode, hv, if_true, hc, if_false, hc2]
      rw [u8_eq (b := 192 + r / 64) (by omega), u8_eq (b := 128 + r % 64) (by omega)]
      rfl
    · by_cases h3 : (2048 ≤ r ∧ r < 55296) ∨ (57343 < r ∧ r ≤ 65535)
      · have hv : Utf8.valid r = true := by simp [Utf8.valid]; omega
        have hc : ¬ r.toNat < 128 := by omega
        have hc2 : ¬ r.toNat < 2048 := by omega
        have hc3 : r.toNat < 65536 := by omega
        rw [encodeRune, encodeRuneZ_three h3]
        simp only [Utf8.encode, hv, if_true, hc, if_false, hc2, hc3]
        rw [u8_eq (b := 224 + r / 4096) (by omega), u8_eq (b := 128 + r / 64 % 64) (by omega), u8_eq (b := 128 + r % 64) (by omega)]
        rfl
      · by_cases h4 : 65536 ≤ r ∧ r ≤ 1114111
        · have hv : Utf8.valid r = true := by simp [Utf8.valid]; omega
          have hc : ¬ r.toNat < 128 := by omega
          have hc2 : ¬ r.toNat < 2048 := by omega
          have hc3 : ¬ r.toNat < 65536 := by omega
          rw [encodeRune, encodeRuneZ_four h4.1 h4.2]
          simp only [Utf8.encode, hv, if_true, hc, if_false, hc2, hc3]
          rw [u8_eq (b := 240 + r / 262144) (by omega), u8_eq (b := 128 + r / 4096 % 64) (by omega), u8_eq (b := 128 + r / 64 % 64) (by omega), u8_eq (b := 128 + r % 64) (by omega)]
          rfl
        · have hv : Utf8.valid r = false := by simp [Utf8.valid]; omega
          rw [encodeRune, encodeRuneZ_bad (by omega)]
          simp only [Utf8.encode, hv, Bool.false_eq_true, if_false]
          rfl
theorem runesBytes_same (L : List Int) : runesBytes L = textR L := by
  suffices h : ∀ s : ByteArray, L.foldl (fun r n => r ++ Utf8.encode n) s = s ++ textR L by
    have := h ByteArray.empty
    rw [runesBytes, this]
    simp
  induction L with
  | nil =>
    intro s
    apply ByteArray.ext
    simp [textR, bytesR]
  | cons n L ih =>
    intro s
    rw [List.foldl_cons, ih, encode_same]
    apply ByteArray.ext
    apply Array.toList_inj.1
    simp [textR, bytesR, ByteArray.data_append]
/-- a letter, as the document writes it -/
theorem letter_text (s : ByteArray) (h : s.size ≠ 0) (hv : ¬ ((decodeL s.data.toList).1 = 65533 ∧ (decodeL s.data.toList).2 = 1)) :
    s.extract 0 (decodeL s.data.toList).2 = ⟨(encodeRune ((decodeL s.data.toList).1 : Int)).toArray⟩ := by
  have hne : s.data.toList ≠ [] := fun e => h (by have := congrArg List.length e; simpa using this)
  rw [encode_decode _ hne hv]
  apply ByteArray.ext
  apply Array.toList_inj.1
  simp [ByteArray.data_extract]
/-- what is decoded of what was encoded is as long -/
theorem decode_width (r : Int) (t : List UInt8) : (decodeL (encodeRune r ++ t)).2 = (encodeRune r).length := by
  rw [decodeL_N]
  by_cases h1 : 0 ≤ r ∧ r ≤ 127
  · rw [encodeRune, encodeRuneZ_one h1.1 h1.2]
    have hx : (r.toNat.toUInt8).toNat = r.toNat := by simp; omega
    simp only [List.map_cons, List.map_nil, List.cons_append, List.nil_append, List.getD_cons_zero, hx]
    rw [decodeN, if_pos (by omega)]
    rfl
  · by_cases h2 : 128 ≤ r ∧ r ≤ 2047
    · rw [encodeRune, encodeRuneZ_two h2.1 h2.2]
      have hx : ((192 + r / 64).toNat.toUInt8).toNat = (192 + r / 64).toNat := by simp; omega
      have hy : ((128 + r % 64).toNat.toUInt8).toNat = (128 + r % 64).toNat := by simp; omega
      simp only [List.map_cons, List.map_nil, List.cons_append, List.nil_append, List.getD_cons_zero, List.getD_cons_succ, hx, hy, List.length_cons]
      rw [decodeN, if_neg (by omega), if_pos ⟨by omega, by omega, by omega⟩, if_pos (by omega)]
      rfl
    · by_cases h3 : (2048 ≤ r ∧ r < 55296) ∨ (57343 < r ∧ r ≤ 65535)
      · rw [encodeRune, encodeRuneZ_three h3]
        have hx : ((224 + r / 4096).toNat.toUInt8).toNat = (224 + r / 4096).toNat := by simp; omega
        have hy : ((128 + r / 64 % 64).toNat.toUInt8).toNat = (128 + r / 64 % 64).toNat := by simp; omega
        have hz : ((128 + r % 64).toNat.toUInt8).toNat = (128 + r % 64).toNat := by simp; omega
        simp only [List.map_cons, List.map_nil, List.cons_append, List.nil_append, List.getD_cons_zero, List.getD_cons_succ, hx, hy, hz, List.length_cons]
        rw [decodeN, if_neg (by omega), if_neg (by omega), if_pos ⟨by omega, ⟨by omega, by omega⟩, by omega, by omega⟩, if_pos (by omega)]
        rfl
      · by_cases h4 : 65536 ≤ r ∧ r ≤ 1114111
        · rw [encodeRune, encodeRuneZ_four h4.1 h4.2]
          have hx : ((240 + r / 262144).toNat.toUInt8).toNat = (240 + r / 262144).toNat := by simp; omega
          have hy : ((128 + r / 4096 % 64).toNat.toUInt8).toNat = (128 + r / 4096 % 64).toNat := by simp; omega
          have hz : ((128 + r / 64 % 64).toNat.toUInt8).toNat = (128 + r / 64 % 64).toNat := by simp; omega
          have hu : ((128 + r % 64).toNat.toUInt8).toNat = (128 + r % 64).toNat := by simp; omega
          simp only [List.map_cons, List.map_nil, List.cons_append, List.nil_append, List.getD_cons_zero, List.getD_cons_succ, hx, hy, hz, hu, List.length_cons]
          rw [decodeN, if_neg (by omega), if_neg (by omega), if_neg (by omega), if_pos ⟨by omega, ⟨by omega, by omega⟩, ⟨by omega, by omega⟩, by omega, by omega⟩, if_pos (by omega)]
          rfl
        · rw [encodeRune, encodeRuneZ_bad (by omega)]
          simp only [List.map_cons, List.map_nil, List.cons_append, List.nil_append, List.getD_cons_zero, List.getD_cons_succ, List.length_cons]
          have e1 : ((239 : Int).toNat.toUInt8).toNat = 239 := rfl
          have e2 : ((191 : Int).toNat.toUInt8).toNat = 191 := rfl
          have e3 : ((189 : Int).toNat.toUInt8).toNat = 189 := rfl
          rw [e1, e2, e3, decodeN, if_neg (by omega), if_neg (by omega), if_pos ⟨by omega, ⟨by omega, by omega⟩, by omega, by omega⟩, if_pos (by omega)]
          rfl
/-- no more letters than runes were written -/
theorem runes_count : ∀ (L : List Int) (pre : List UInt8) (s : ByteArray) (b : Nat) (acc : Array Value), s.data.toList = pre ++ bytesR L → (Conv.runesFrom s b pre.length acc).size ≤ acc.size + L.length
  | L, pre, s, 0, acc, _ => by simp [Conv.runesFrom]
  | [], pre, s, b + 1, acc, h => by
    have hs : s.size = pre.length := by
      have := congrArg List.length h
      simpa [bytesR] using this
    unfold Conv.runesFrom
    rw [if_neg (by omega)]
    simp
  | r :: L, pre, s, b + 1, acc, h => by
    unfold Conv.runesFrom
    split
    · have hd : Utf8.decode s pre.length = decodeL (encodeRune r ++ bytesR L) := by
        rw [← decodeL_drop, h]
        simp [bytesR]
      have hw := decode_width r (bytesR L)
      rw [← hd] at hw
      have h2 : s.data.toList = (pre ++ encodeRune r) ++ bytesR L := by rw [h]; simp [bytesR]
      have := runes_count L (pre ++ encodeRune r) s b (acc.push (.int .i32 (Int.ofNat (Utf8.decode s pre.length).1))) h2
      simp only [List.length_append] at this
      simp only [hw]
      simp at this ⊢
      omega
    · exact Nat.le_add_right _ _
theorem shown_count (L : List Int) : (Conv.runesFrom (textR (shownL L)) (textR (shownL L)).size 0 #[]).size ≤ 16 := by
  have := runes_count (shownL L) [] (textR (shownL L)) (textR (shownL L)).size #[] (by simp [textR])
  have h := shownL_length L
  simp at this
  omega
end Go.Proofs.YtmbjknffmaphbaeDoor
