/- Frame of any block, of the program and of the reference: one contract each. -/
import Derived.Test.YthchicolifkpiaaDoorFrame3
namespace Go.Proofs.YthchicolifkpiaaDoor
open Go.RowKit
set_option linter.unusedVariables false

/-- the frame, or nothing -/
def fText (t n : Int) (m h : Bool) (b : ByteArray) : ByteArray := if checkE t n m h b = 0 then frameS t n m h b else ⟨#[]⟩
theorem fText_ok {t n : Int} {m h : Bool} {b : ByteArray} (he : checkE t n m h b = 0) : fText t n m h b = frameS t n m h b := by rw [fText, if_pos he]
theorem fText_no {t n : Int} {m h : Bool} {b : ByteArray} (he : checkE t n m h b ≠ 0) : fText t n m h b = ⟨#[]⟩ := by rw [fText, if_neg he]
theorem checkE_zero {t n : Int} {m h : Bool} {b : ByteArray} (he : checkE t n m h b = 0) : turnB t = true ∧ turnB n = true ∧ b.size ≤ 32 ∧ (!h && (t != 0 || m || !b.toList.isEmpty)) = false := by
  cases hh : (turnB t && turnB n) with
  | false => rw [checkE_range m h b hh] at he; simp at he
  | true =>
    obtain ⟨ht, hn⟩ : turnB t = true ∧ turnB n = true := by simpa using hh
    by_cases hl : 32 < b.size
    · rw [checkE_long m h ht hn hl] at he; simp at he
    · rw [checkE_rest m h ht hn hl] at he
      refine ⟨ht, hn, by omega, ?_⟩
      cases hf : (!h && (t != 0 || m || !b.toList.isEmpty)) with
      | false => rfl
      | true => rw [hf] at he; simp at he

theorem frame_all (t n : Int) (m h : Bool) (b : ByteArray) (w : World) (ht : Tab w) (hw0 : 0 < w.heap.size) (hb : b.size ≤ maxLen) :
    Calls Tryd.prog 31 #[blk t n m h b] w fun e w' => e = .returned (.tuple #[.string (fText t n m h b), .int .i64 (checkE t n m h b)]) ∧ Below w.heap.size w w' := by
  by_cases he : checkE t n m h b = 0
  · obtain ⟨h1, h2, h3, _⟩ := checkE_zero he
    rw [turnB_iff] at h1 h2
    rw [fText_ok he, he]
    exact frame_ok t n m h b w ht hw0 he (by omega) (by omega) (by omega) (by omega) h3
  · rw [fText_no he]
    exact frame_no t n m h b w he hb

theorem rframe_all (t n : Int) (m h : Bool) (b : ByteArray) (w : World) (hb : b.size ≤ maxLen) (p0 : -9223372036854775808 ≤ t) (p1 : t ≤ 9223372036854775807) (q0 : -9223372036854775808 ≤ n) (q1 : n ≤ 9223372036854775807) :
    Calls Tryd.prog 29 #[blk t n m h b] w fun e w' => e = .returned (.tuple #[.string (fText t n m h b), .int .i64 (checkE t n m h b)]) ∧ Below w.heap.size w w' := by
  unfold maxLen at hb
  cases hh : (turnB t && turnB n) with
  | false =>
    have he := checkE_range m h b hh
    rw [fText_no (by rw [he]; decide), he]
    exact rframe_range t n m h b w hh p0 p1 q0 q1
  | true =>
    obtain ⟨ht, hn⟩ : turnB t = true ∧ turnB n = true := by simpa using hh
    have ht' := (turnB_iff t).1 ht
    have hn' := (turnB_iff n).1 hn
    by_cases hl : 32 < b.size
    · have he := checkE_long m h ht hn hl
      rw [fText_no (by rw [he]; decide), he]
      exact rframe_long t n m h b w (by omega) (by omega) (by omega) (by omega) hl hb
    · have he := checkE_rest m h ht hn hl
      cases h with
      | false =>
        cases hf : (t != 0 || m || !b.toList.isEmpty) with
        | true =>
          rw [hf] at he
          have he' : checkE t n m false b = 1 := he
          rw [fText_no (by rw [he']; decide), he']
          exact rframe_form t n m b w (by omega) (by omega) (by omega) (by omega) (by omega) hf
        | false =>
          rw [hf] at he
          have he' : checkE t n m false b = 0 := he
          rw [fText_ok he', he']
          have hf' : t = 0 ∧ m = false ∧ b.toList = [] := by simpa [and_assoc] using hf
          obtain ⟨rfl, rfl, hbe⟩ := hf'
          exact rframe_none n b w (by omega) (by omega) (by omega) (by simp [hbe])
      | true =>
        have he' : checkE t n m true b = 0 := he
        rw [fText_ok he', he']
        cases m with
        | false => exact rframe_last t n b w (by omega) (by omega) (by omega) (by omega) (by omega)
        | true => exact rframe_more t n b w (by omega) (by omega) (by omega) (by omega) (by omega)
end Go.Proofs.YthchicolifkpiaaDoor
