/- Montgomery's way, plain. -/
import Derived.Test.YtckkhpegimkefaaM13
namespace Go.Proofs.Ytckkhpegimkefaa
open Go.RowKit Go.Shelf
set_option linter.unusedVariables false

/-- what undoes so many doublings, modulo an odd number -/
def unTwo (M k : Nat) : Nat := ((M + 1) / 2) ^ k
theorem unTwo_mul (M k : Nat) (hM : M % 2 = 1) : 2 ^ k * unTwo M k % M = 1 % M := by
  unfold unTwo
  rw [← Nat.mul_pow, show 2 * ((M + 1) / 2) = M + 1 by omega, Nat.pow_mod, Nat.add_mod_left]
  rw [← Nat.pow_mod, Nat.one_pow]
theorem mod_mul_left (a b c M : Nat) (h : a % M = b % M) : a * c % M = b * c % M := by rw [Nat.mul_mod, h, ← Nat.mul_mod]
/-- what times answers -/
theorem mont_val (z a R Ri M : Nat) (hz : z < M) (hR : R * Ri % M = 1 % M) (h : z * R % M = a % M) : z = a * Ri % M := by
  have h1 := mod_mul_left (z * R) a Ri M h
  rw [Nat.mul_assoc] at h1
  have h2 : z * (R * Ri) % M = z := by
    rw [Nat.mul_mod, hR, ← Nat.mul_mod, Nat.mul_one, Nat.mod_eq_of_lt hz]
  rw [h2] at h1
  exact h1
/-- two numbers, each times R -/
theorem mont_mul (x y a b R Ri M : Nat) (hR : R * Ri % M = 1 % M) (hx : x = a * R % M) (hy : y = b * R % M) : x * y * Ri % M = a * b * R % M := by
  rw [hx, hy]
  have e1 : a * R % M * (b * R % M) * Ri % M = a * R * (b * R) * Ri % M := by
    rw [Nat.mul_mod, ← Nat.mul_mod (a * R), ← Nat.mul_mod]
  rw [e1, show a * R * (b * R) * Ri = a * b * R * (R * Ri) by grind, Nat.mul_mod, hR, ← Nat.mul_mod, Nat.mul_one]
/-- the way in: by R times R -/
theorem mont_in (x R Ri M : Nat) (hR : R * Ri % M = 1 % M) : x * (R * R % M) * Ri % M = x * R % M := by
  have e1 : x * (R * R % M) * Ri % M = x * (R * R) * Ri % M := by
    rw [Nat.mul_mod, Nat.mul_mod x, Nat.mod_mod, ← Nat.mul_mod x, ← Nat.mul_mod]
  rw [e1, show x * (R * R) * Ri = x * R * (R * Ri) by grind, Nat.mul_mod, hR, ← Nat.mul_mod, Nat.mul_one]
/-- the way out: by 1 -/
theorem mont_out (x a R Ri M : Nat) (hR : R * Ri % M = 1 % M) (hx : x = a * R % M) : x * 1 * Ri % M = a % M := by
  rw [hx, Nat.mul_one]
  have e1 : a * R % M * Ri % M = a * R * Ri % M := by rw [Nat.mul_mod, Nat.mod_mod, ← Nat.mul_mod]
  rw [e1, Nat.mul_assoc, Nat.mul_mod, hR, ← Nat.mul_mod, Nat.mul_one]
/-- a square on the way to R times R -/
theorem mont_sq (x a R Ri M : Nat) (hR : R * Ri % M = 1 % M) (hx : x = R * a % M) : x * x * Ri % M = R * (a * a) % M := by
  rw [mont_mul x x a a R Ri M hR (by rw [hx, Nat.mul_comm]) (by rw [hx, Nat.mul_comm]), Nat.mul_comm]
theorem twice_pow (k M : Nat) : 2 * (2 ^ k % M) % M = 2 ^ (k + 1) % M := by
  rw [Nat.mul_mod, Nat.mod_mod, ← Nat.mul_mod, Nat.pow_succ, Nat.mul_comm]
theorem sq_pow (s j : Nat) : 2 ^ (s * 2 ^ j) * 2 ^ (s * 2 ^ j) = 2 ^ (s * 2 ^ (j + 1)) := by
  rw [← Nat.pow_add, Nat.pow_succ]
  congr 1
  grind
theorem B64_two (n : Nat) : B64 ^ n = 2 ^ (64 * n) := by
  have hB : B64 = 2 ^ 64 := rfl
  rw [hB, ← Nat.pow_mul]
/-- so many bits of an exponent, from the top -/
theorem pow_bit (x M d i : Nat) (acc : Nat) (h : acc = x ^ (d / 2 ^ (i + 1)) % M) : acc * acc % M * (if d / 2 ^ i % 2 = 1 then x else 1) % M = x ^ (d / 2 ^ i) % M := by
  have hd : d / 2 ^ i = 2 * (d / 2 ^ (i + 1)) + d / 2 ^ i % 2 := by
    have : d / 2 ^ (i + 1) = d / 2 ^ i / 2 := by rw [Nat.pow_succ, Nat.div_div_eq_div_mul]
    omega
  generalize d / 2 ^ (i + 1) = e at *
  rw [h]
  have hsq : x ^ e % M * (x ^ e % M) % M = x ^ (2 * e) % M := by
    rw [← Nat.mul_mod, ← Nat.pow_add]
    congr 2
    omega
  rw [hsq, Nat.mul_mod, Nat.mod_mod, ← Nat.mul_mod]
  have h2 : d / 2 ^ i % 2 = 0 ∨ d / 2 ^ i % 2 = 1 := by omega
  rcases h2 with h2 | h2
  · rw [if_neg (by omega), Nat.mul_one]
    rw [h2, Nat.add_zero] at hd
    rw [hd]
  · rw [if_pos h2]
    rw [h2] at hd
    rw [hd, Nat.pow_succ]
end Go.Proofs.Ytckkhpegimkefaa
