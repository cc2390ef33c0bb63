/- Div64 by 3. -/
import Derived.Test.YtckkhpegimkefaaGreatDoorM31
import Derived.Deep.QuietTactic
import Derived.Test.YtckkhpegimkefaaGreatDoorM00
namespace Go.Proofs.YtckkhpegimkefaaGreatDoor
open Go.RowKit Go.Shelf
set_option linter.unusedVariables false

set_option maxHeartbeats 1000000 in
set_option maxRecDepth 100000 in
theorem div3_zero (lo : Nat) (hlo : lo < B64) (w : World) :
    Calls Tryz.prog 101 #[.int .u64 0, .int .u64 lo, .int .u64 3] w fun e w' => e = .returned (.tuple #[.int .u64 (lo / 3 : Nat), .int .u64 (lo % 3 : Nat)]) ∧ Below w.heap.size w w' := by
  have k1 : IntKind.u64.wrap ((lo : Int) / 3) = ((lo / 3 : Nat) : Int) := by
    have hlo' : lo < 18446744073709551616 := hlo
    rw [show ((lo : Int) / 3) = ((lo / 3 : Nat) : Int) by omega]
    exact Mul64.wrapN (lo / 3) (Nat.lt_of_le_of_lt (Nat.div_le_self lo 3) hlo)
  go_enter Tryz.func101, Tryz.ntmps101
  go_wp2_with fail
  go_quiet (fail)
  go_wp2
  go_ret2
  exact ⟨rfl, below_drewN (Below.refl _ _) _⟩
end Go.Proofs.YtckkhpegimkefaaGreatDoor
namespace Go.Proofs.YtckkhpegimkefaaGreatDoor
open Go.RowKit Go.Shelf
set_option linter.unusedVariables false
set_option maxRecDepth 100000

/-- what the long division by 3 * 2^62 comes to -/
theorem div3_plain {hi lo A q1 r1 U q0 r0 : Nat} (h1 : hi ≤ 2) (hlo : lo < 18446744073709551616) (hA : A = hi * 4611686018427387904 + lo / 4) (e1 : A = q1 * 3221225472 + r1) (hr1 : r1 < 3221225472)
    (hU : U = r1 * 4294967296 + lo % 4 * 1073741824) (e2 : U = q0 * 3221225472 + r0) (hr0 : r0 < 3221225472) :
    q1 < 4294967296 ∧ U < 18446744073709551616 ∧ q0 < 4294967296 ∧ q1 * 4294967296 + q0 = (hi * 18446744073709551616 + lo) / 3 ∧ r0 / 1073741824 = (hi * 18446744073709551616 + lo) % 3 := by
  refine ⟨by omega, by omega, by omega, by omega, by omega⟩
theorem wr (x : Int) : IntKind.u64.wrap x = x % 18446744073709551616 := by rw [IntKind.wrap_u64]
theorem wrN {x : Int} {n : Nat} (h : x = (n : Int)) (hn : n < 18446744073709551616) : IntKind.u64.wrap x = (n : Int) := by rw [wr]; omega
theorem a11 {hi lo A : Nat} (h1 : hi ≤ 2) (hlo : lo < 18446744073709551616) (hA : A = hi * 4611686018427387904 + lo / 4) : bits .or .u64 (IntKind.u64.wrap ((hi : Int) * 4611686018427387904)) ((lo : Int) / 4) = (A : Int) := by
  have e1 : IntKind.u64.wrap ((hi : Int) * 4611686018427387904) = ((hi * 4611686018427387904 : Nat) : Int) := wrN (by omega) (by omega)
  have e2 : ((lo : Int) / 4) = ((lo / 4 : Nat) : Int) := by omega
  rw [e1, e2, or_nat .u64 64 (by decide) (fun n h0 h1 => by rw [wr]; omega) _ _ (by omega) (by omega)]
  have e3 : hi * 4611686018427387904 = hi <<< 62 := by rw [Nat.shiftLeft_eq]
  rw [e3, ← Nat.shiftLeft_add_eq_or_of_lt (by omega : lo / 4 < 2 ^ 62), Nat.shiftLeft_eq, hA]
theorem a12 {lo b : Nat} (hb : b = lo % 4) : IntKind.u64.wrap ((lo : Int) * 4611686018427387904) = ((b * 4611686018427387904 : Nat) : Int) := by
  rw [wr]; omega
theorem a13 {b : Nat} (hb : b < 4) : ((b : Int) * 4611686018427387904 / 4294967296) = ((b * 1073741824 : Nat) : Int) := by omega
theorem a14 {b : Nat} (hb : b < 4) : bits .and .u64 ((b : Int) * 4611686018427387904) 4294967295 = 0 := by
  have h : b = 0 ∨ b = 1 ∨ b = 2 ∨ b = 3 := by omega
  rcases h with rfl | rfl | rfl | rfl <;> decide
theorem a15 {A q1 r1 : Nat} (e1 : A = q1 * 3221225472 + r1) (l1 : r1 < 3221225472) (p1 : q1 < 4294967296) : IntKind.u64.wrap ((A : Int) / 3221225472) = (q1 : Int) := wrN (by omega) (by omega)
theorem a16 {A q1 r1 : Nat} (e1 : A = q1 * 3221225472 + r1) (l1 : r1 < 3221225472) (p1 : q1 < 4294967296) : IntKind.u64.wrap ((A : Int) - IntKind.u64.wrap ((q1 : Int) * 3221225472)) = (r1 : Int) := by
  rw [wrN (x := (q1 : Int) * 3221225472) (n := q1 * 3221225472) (by omega) (by omega)]
  exact wrN (by omega) (by omega)
theorem a17 {A b q1 r1 U : Nat} (e1 : A = q1 * 3221225472 + r1) (l1 : r1 < 3221225472) (p1 : q1 < 4294967296) (hb : b < 4) (hU : U = r1 * 4294967296 + b * 1073741824) (p2 : U < 18446744073709551616) :
    IntKind.u64.wrap (IntKind.u64.wrap (IntKind.u64.wrap ((A : Int) * 4294967296) + (b : Int) * 1073741824) - IntKind.u64.wrap ((q1 : Int) * 13835058055282163712)) = (U : Int) := by
  rw [wr, wr, wr, wr]; omega
theorem a17b {b r1 U : Nat} (l1 : r1 < 3221225472) (hb : b < 4) (hU : U = r1 * 4294967296 + b * 1073741824) (p2 : U < 18446744073709551616) :
    IntKind.u64.wrap (IntKind.u64.wrap (4294967296 * (r1 : Int)) + (b : Int) * 1073741824) = (U : Int) := by
  rw [wr, wr]; omega
theorem a20 {r0 : Nat} (l2 : r0 < 3221225472) : IntKind.u64.wrap (4294967296 * (r0 : Int)) = ((r0 * 4294967296 : Nat) : Int) := wrN (by omega) (by omega)
theorem a28 {q1 q0 : Nat} (p1 : q1 < 4294967296) (p3 : q0 < 4294967296) : IntKind.u64.wrap (IntKind.u64.wrap ((q1 : Int) * 4294967296) + (q0 : Int)) = ((q1 * 4294967296 + q0 : Nat) : Int) := by
  rw [wr, wr]; omega
theorem a29 {U q0 r0 : Nat} (e2 : U = q0 * 3221225472 + r0) (l2 : r0 < 3221225472) (p3 : q0 < 4294967296) (p2 : U < 18446744073709551616) :
    IntKind.u64.wrap (IntKind.u64.wrap (IntKind.u64.wrap ((U : Int) * 4294967296)) - IntKind.u64.wrap ((q0 : Int) * 13835058055282163712)) / 4611686018427387904 = ((r0 / 1073741824 : Nat) : Int) := by
  have e : IntKind.u64.wrap (IntKind.u64.wrap (IntKind.u64.wrap ((U : Int) * 4294967296)) - IntKind.u64.wrap ((q0 : Int) * 13835058055282163712)) = ((r0 * 4294967296 : Nat) : Int) := by rw [wr, wr, wr, wr]; omega
  rw [e]; omega
end Go.Proofs.YtckkhpegimkefaaGreatDoor
