/- The mill of the program: words, rounds, read, text. -/
import Derived.Test.YtbiipeapcclbkaaDoorMill2
import Derived.Deep.QuietTactic
import Derived.BigQuiet
import Derived.Lib.Strings
namespace Go.Proofs.YtbiipeapcclbkaaDoor
open Go.RowKit
set_option linter.unusedVariables false

theorem wraps_u32 (n : Int) (h₀ : 0 ≤ n) (h₁ : n < 2 ^ 32) : IntKind.u32.wrap n = n := by
  simp [IntKind.wrap, IntKind.bits, IntKind.signed]
  omega
theorem wrap_u32_nat (n : Nat) : IntKind.u32.wrap (n : Int) = ((n % 4294967296 : Nat) : Int) := by
  simp [IntKind.wrap, IntKind.bits, IntKind.signed]
theorem or_nat (k : IntKind) (j : Nat) (hj : j ≤ k.bits) (hk : ∀ n : Int, 0 ≤ n → n < 2 ^ j → k.wrap n = n) (a b : Nat) (ha : a < 2 ^ j) (hb : b < 2 ^ j) : bits .or k a b = ((a ||| b : Nat) : Int) := by
  have hp : 2 ^ j ≤ 2 ^ k.bits := Nat.pow_le_pow_right (by decide) hj
  have hx : a ||| b < 2 ^ j := Nat.or_lt_two_pow ha hb
  simp only [bits, BitVec.toNat_or, BitVec.toNat_ofInt]
  have ea : ((a : Int) % ((2 ^ k.bits : Nat) : Int)).toNat = a := by
    rw [← Int.natCast_emod, Int.toNat_natCast, Nat.mod_eq_of_lt (Nat.lt_of_lt_of_le ha hp)]
  have eb : ((b : Int) % ((2 ^ k.bits : Nat) : Int)).toNat = b := by
    rw [← Int.natCast_emod, Int.toNat_natCast, Nat.mod_eq_of_lt (Nat.lt_of_lt_of_le hb hp)]
  rw [ea, eb]
  exact hk _ (by omega) (by exact_mod_cast hx)
theorem xor_natM (k : IntKind) (j : Nat) (hj : j ≤ k.bits) (hk : ∀ n : Int, 0 ≤ n → n < 2 ^ j → k.wrap n = n) (a b : Nat) (ha : a < 2 ^ j) (hb : b < 2 ^ j) : bits .xor k a b = ((a ^^^ b : Nat) : Int) := by
  have hp : 2 ^ j ≤ 2 ^ k.bits := Nat.pow_le_pow_right (by decide) hj
  have hx : a ^^^ b < 2 ^ j := Nat.xor_lt_two_pow ha hb
  simp only [bits, BitVec.toNat_xor, BitVec.toNat_ofInt]
  have ea : ((a : Int) % ((2 ^ k.bits : Nat) : Int)).toNat = a := by
    rw [← Int.natCast_emod, Int.toNat_natCast, Nat.mod_eq_of_lt (Nat.lt_of_lt_of_le ha hp)]
  have eb : ((b : Int) % ((2 ^ k.bits : Nat) : Int)).toNat = b := by
    rw [← Int.natCast_emod, Int.toNat_natCast, Nat.mod_eq_of_lt (Nat.lt_of_lt_of_le hb hp)]
  rw [ea, eb]
  exact hk _ (by omega) (by exact_mod_cast hx)
theorem or_u32 (a b : Nat) (ha : a < 4294967296) (hb : b < 4294967296) : bits .or .u32 a b = ((a ||| b : Nat) : Int) := or_nat .u32 32 (by decide) wraps_u32 a b ha hb
theorem xor_u32 (a b : Nat) (ha : a < 4294967296) (hb : b < 4294967296) : bits .xor .u32 a b = ((a ^^^ b : Nat) : Int) := xor_natM .u32 32 (by decide) wraps_u32 a b ha hb

theorem rot_bits (x n m k : Nat) (hx : x < 4294967296) (hm : m = 2 ^ n) (hk : k = 2 ^ (32 - n)) : bits .or .u32 ((x : Int) * (m : Int) % 4294967296) ((x : Int) / (k : Int)) = (rl x n : Nat) := by
  rw [show (x : Int) * (m : Int) % 4294967296 = ((x * m % 4294967296 : Nat) : Int) by simp, show (x : Int) / (k : Int) = ((x / k : Nat) : Int) by simp, or_u32 _ _ (Nat.mod_lt _ (by decide)) (Nat.lt_of_le_of_lt (Nat.div_le_self _ _) hx), hm, hk]
  rfl
set_option maxHeartbeats 1000000 in
set_option maxRecDepth 100000 in
theorem rot16_any (x : Nat) (hx : x < 4294967296) (w : World) :
    Calls Tryd.prog 59 #[.int .u32 x, .int .i64 16] w fun e w' => e = .returned (.int .u32 (rl x 16 : Nat)) ∧ w' = w := by
  have hr : bits .or .u32 ((x : Int) * 65536 % 4294967296) ((x : Int) / 65536) = (rl x 16 : Nat) := rot_bits x 16 65536 65536 hx (by decide) (by decide)
  have hm : bits .and .u64 16 31 = 16 := by decide
  clear hx
  go_enter Tryd.func59, Tryd.ntmps59
  go_wp2
  go_ret
  exact ⟨rfl, rfl⟩
set_option maxHeartbeats 1000000 in
set_option maxRecDepth 100000 in
theorem rot12_any (x : Nat) (hx : x < 4294967296) (w : World) :
    Calls Tryd.prog 59 #[.int .u32 x, .int .i64 12] w fun e w' => e = .returned (.int .u32 (rl x 12 : Nat)) ∧ w' = w := by
  have hr : bits .or .u32 ((x : Int) * 4096 % 4294967296) ((x : Int) / 1048576) = (rl x 12 : Nat) := rot_bits x 12 4096 1048576 hx (by decide) (by decide)
  have hm : bits .and .u64 12 31 = 12 := by decide
  clear hx
  go_enter Tryd.func59, Tryd.ntmps59
  go_wp2
  go_ret
  exact ⟨rfl, rfl⟩
set_option maxHeartbeats 1000000 in
set_option maxRecDepth 100000 in
theorem rotm12_any (x : Nat) (hx : x < 4294967296) (w : World) :
    Calls Tryd.prog 59 #[.int .u32 x, .int .i64 (-12)] w fun e w' => e = .returned (.int .u32 (rl x 20 : Nat)) ∧ w' = w := by
  have hr : bits .or .u32 ((x : Int) * 1048576 % 4294967296) ((x : Int) / 4096) = (rl x 20 : Nat) := rot_bits x 20 1048576 4096 hx (by decide) (by decide)
  have hm : bits .and .u64 (IntKind.u64.wrap (-12)) 31 = 20 := by decide
  clear hx
  go_enter Tryd.func59, Tryd.ntmps59
  go_wp2
  go_ret
  exact ⟨rfl, rfl⟩
set_option maxHeartbeats 1000000 in
set_option maxRecDepth 100000 in
theorem rotm16_any (x : Nat) (hx : x < 4294967296) (w : World) :
    Calls Tryd.prog 59 #[.int .u32 x, .int .i64 (-16)] w fun e w' => e = .returned (.int .u32 (rl x 16 : Nat)) ∧ w' = w := by
  have hr : bits .or .u32 ((x : Int) * 65536 % 4294967296) ((x : Int) / 65536) = (rl x 16 : Nat) := rot_bits x 16 65536 65536 hx (by decide) (by decide)
  have hm : bits .and .u64 (IntKind.u64.wrap (-16)) 31 = 16 := by decide
  clear hx
  go_enter Tryd.func59, Tryd.ntmps59
  go_wp2
  go_ret
  exact ⟨rfl, rfl⟩
end Go.Proofs.YtbiipeapcclbkaaDoor
