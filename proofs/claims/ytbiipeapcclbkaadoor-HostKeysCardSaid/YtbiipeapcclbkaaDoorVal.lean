/- Value of the reference: the number that bytes say. -/
import Derived.Test.YtbiipeapcclbkaaDoorLow
namespace Go.Proofs.YtbiipeapcclbkaaDoor
open Go.RowKit

/-- the number that bytes say, the high one first -/
def valN (l : List UInt8) : Nat := l.foldl (fun n b => n * 256 + b.toNat) 0
theorem valN_snoc (l : List UInt8) (b : UInt8) : valN (l ++ [b]) = valN l * 256 + b.toNat := by simp [valN, List.foldl_append]
theorem foldl_ge (l : List UInt8) : ∀ a : Nat, a ≤ l.foldl (fun n b => n * 256 + b.toNat) a := by
  induction l with
  | nil => intro a; simp
  | cons b l ih => intro a; rw [List.foldl_cons]; exact Nat.le_trans (by omega) (ih _)
theorem valN_take_le (l : List UInt8) (k : Nat) : valN (l.take k) ≤ valN l := by
  rw (occs := .pos [2]) [← List.take_append_drop k l]
  unfold valN
  rw [List.foldl_append]
  exact foldl_ge _ _
theorem valN_lt (l : List UInt8) : valN l < 256 ^ l.length := by
  have h : ∀ (l : List UInt8) (a : Nat), l.foldl (fun n b => n * 256 + b.toNat) a < (a + 1) * 256 ^ l.length := by
    intro l
    induction l with
    | nil => intro a; simp
    | cons b l ih =>
      intro a
      rw [List.foldl_cons, List.length_cons, Nat.pow_succ]
      refine Nat.lt_of_lt_of_le (ih _) ?_
      have hb : b.toNat < 256 := b.toNat_lt
      calc (a * 256 + b.toNat + 1) * 256 ^ l.length ≤ ((a + 1) * 256) * 256 ^ l.length := Nat.mul_le_mul_right _ (by omega)
        _ = (a + 1) * (256 ^ l.length * 256) := by rw [Nat.mul_assoc, Nat.mul_comm 256]
  simpa [valN] using h l 0
set_option maxHeartbeats 1000000 in
theorem value_any (s : ByteArray) (w : World) (hs : s.size ≤ 8) (hv : valN s.data.toList ≤ 9223372036854775807) :
    Calls Tryd.prog 61 #[.string s] w fun e w' => e = .returned (.int .i64 (valN s.data.toList)) ∧ w' = w := by
  go_enter Tryd.func61, Tryd.ntmps61
  go_wp2
  go_loop [3, 4] (fun n i => ∃ k : Nat, k ≤ s.size ∧ i = .int .i64 k ∧ n = .int .i64 (valN (s.data.toList.take k))) (fun _ i => s.size - (intOf i).toNat)
  case atStart => exact ⟨0, Nat.zero_le _, rfl, rfl⟩
  case round =>
    obtain ⟨k, hk, rfl, rfl⟩ := hrel
    by_cases hlt : k < s.size
    · have hsn := valN_snoc (s.data.toList.take k) s[k]
      rw [← take_snoc s k hlt] at hsn
      have hle := valN_take_le s.data.toList (k + 1)
      obtain ⟨m, hm⟩ : ∃ m, m = valN (s.data.toList.take k) := ⟨_, rfl⟩
      rw [← hm] at hsn ⊢
      have hmb : (m : Int) * 256 + (s[k].toNat : Int) ≤ 9223372036854775807 := by omega
      have HS : Hid (valN (s.data.toList.take (k + 1)) = m * 256 + s[k].toNat) := hsn
      clear hsn hle hm hv
      go_wp2
      go_round
      case rel => exact ⟨k + 1, by omega, by go_num, by rw [HS.out]; go_num⟩
      case measure => simp [intOf]; omega
    · go_wp2
      go_ret
      exact ⟨ret_int (by rw [List.take_of_length_le (by simp; omega)]), rfl⟩

end Go.Proofs.YtbiipeapcclbkaaDoor
