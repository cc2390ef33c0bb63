/- inverse of the program: of an odd word. -/
import Derived.Test.YtomgjfobagjlaaaM31
import Derived.Test.YtomgjfobagjlaaaM33
namespace Go.Proofs.Ytomgjfobagjlaaa
open Go.RowKit Go.Shelf
set_option linter.unusedVariables false

/-- a step to the inverse -/
def invP (w x : Nat) : Nat := w * x % B64
def invR (p : Nat) : Nat := (2 + (B64 - p)) % B64
def invS (w x : Nat) : Nat := x * invR (invP w x) % B64
def invN (w : Nat) : Nat → Nat
  | 0 => w
  | k + 1 => invS w (invN w k)
theorem dvd_sub_mod (B : Int) (a b : Int) (h : B ∣ a - b) (c : Int) (hc : c ∣ B) : c ∣ a - b := Int.dvd_trans hc h
theorem emod_dvd (a B : Int) : B ∣ a - a % B := by
  have := Int.emod_add_mul_ediv a B
  exact ⟨a / B, by omega⟩
theorem inv_ring (w x p r y : Int) (M : Int) (hp : M ∣ w * x - p) (hr : M ∣ 2 - p - r) (hy : M ∣ x * r - y) (d : Int) (hd : d ∣ M) (m : Int) (hm : m ∣ w * x - 1) (hmm : d ∣ m * m) : d ∣ w * y - 1 := by
  obtain ⟨a, ha⟩ := Int.dvd_trans hd hp
  obtain ⟨b, hb⟩ := Int.dvd_trans hd hr
  obtain ⟨c, hc⟩ := Int.dvd_trans hd hy
  obtain ⟨e, he⟩ := hm
  obtain ⟨f, hf⟩ := hmm
  refine ⟨-(w * c) + w * x * a - w * x * b - f * e * e, ?_⟩
  have hpe : p = w * x - d * a := by omega
  have hre : r = 2 - p - d * b := by omega
  have hye : y = x * r - d * c := by omega
  have hxe : w * x = 1 + m * e := by omega
  rw [hye, hre, hpe]
  grind
theorem invP_dvd (w x : Nat) : (B64 : Int) ∣ (w : Int) * (x : Int) - (invP w x : Nat) := by
  unfold invP
  rw [Int.natCast_emod, Int.natCast_mul]
  exact emod_dvd _ _
theorem invP_lt (w x : Nat) : invP w x < B64 := Nat.mod_lt _ B64_pos
theorem invR_dvd (p : Nat) (hp : p < B64) : (B64 : Int) ∣ 2 - (p : Int) - (invR p : Nat) := by
  unfold invR
  have h := emod_dvd ((2 + (B64 - p) : Nat) : Int) (B64 : Int)
  obtain ⟨k, hk⟩ := h
  rw [Int.natCast_emod]
  have hc : ((2 + (B64 - p) : Nat) : Int) = 2 + ((B64 : Int) - (p : Int)) := by
    rw [Int.natCast_add, Int.natCast_sub (Nat.le_of_lt hp)]
    rfl
  rw [hc] at hk ⊢
  exact ⟨k - 1, by rw [Int.mul_sub, ← hk]; omega⟩
theorem invS_dvd (w x : Nat) : (B64 : Int) ∣ (x : Int) * (invR (invP w x) : Nat) - (invS w x : Nat) := by
  unfold invS
  rw [Int.natCast_emod, Int.natCast_mul]
  exact emod_dvd _ _
theorem inv_step (w x : Nat) (d m : Int) (hd : d ∣ (B64 : Int)) (hm : m ∣ (w : Int) * (x : Int) - 1) (hmm : d ∣ m * m) : d ∣ (w : Int) * (invS w x : Nat) - 1 :=
  inv_ring w x (invP w x : Nat) (invR (invP w x) : Nat) (invS w x : Nat) B64 (invP_dvd w x) (invR_dvd _ (invP_lt w x)) (invS_dvd w x) d hd m hm hmm
theorem inv_end (w : Nat) (h : w % 2 = 1) : (B64 : Int) ∣ (w : Int) * (invN w 5 : Nat) - 1 := by
  have h0 : (8 : Int) ∣ (w : Int) * (invN w 0 : Nat) - 1 := by
    show (8 : Int) ∣ (w : Int) * (w : Int) - 1
    obtain ⟨k, hk⟩ : ∃ k : Int, (w : Int) = 2 * k + 1 := ⟨(w : Int) / 2, by omega⟩
    rw [hk]
    have hk2 : k % 2 = 0 ∨ k % 2 = 1 := by omega
    rcases hk2 with h1 | h1
    · exact ⟨k / 2 * (k + 1), by
        have : k = 2 * (k / 2) := by omega
        generalize k / 2 = j at *
        grind⟩
    · exact ⟨k * ((k + 1) / 2), by
        have : k + 1 = 2 * ((k + 1) / 2) := by omega
        generalize (k + 1) / 2 = j at *
        grind⟩
  have hB : (B64 : Int) = 18446744073709551616 := rfl
  have h1 : (64 : Int) ∣ (w : Int) * (invN w 1 : Nat) - 1 := inv_step w _ 64 8 (by rw [hB]; exact ⟨288230376151711744, by decide⟩) h0 ⟨1, by decide⟩
  have h2 : (4096 : Int) ∣ (w : Int) * (invN w 2 : Nat) - 1 := inv_step w _ 4096 64 (by rw [hB]; exact ⟨4503599627370496, by decide⟩) h1 ⟨1, by decide⟩
  have h3 : (16777216 : Int) ∣ (w : Int) * (invN w 3 : Nat) - 1 := inv_step w _ 16777216 4096 (by rw [hB]; exact ⟨1099511627776, by decide⟩) h2 ⟨1, by decide⟩
  have h4 : (281474976710656 : Int) ∣ (w : Int) * (invN w 4 : Nat) - 1 := inv_step w _ 281474976710656 16777216 (by rw [hB]; exact ⟨65536, by decide⟩) h3 ⟨1, by decide⟩
  exact inv_step w _ B64 281474976710656 (Int.dvd_refl _) h4 (by rw [hB]; exact ⟨4294967296, by decide⟩)
theorem invN_lt (w k : Nat) (h : w < B64) : invN w k < B64 := by
  cases k with
  | zero => exact h
  | succ k => exact Nat.mod_lt _ B64_pos
/-- the negative of it -/
def negW (v : Nat) : Nat := (B64 - v) % B64
theorem neg_inv (w v : Nat) (hv : v < B64) (h : (B64 : Int) ∣ (w : Int) * (v : Int) - 1) : (w * negW v + 1) % B64 = 0 := by
  obtain ⟨k, hk⟩ := h
  unfold negW
  obtain ⟨j, hj⟩ := emod_dvd ((B64 - v : Nat) : Int) (B64 : Int)
  rw [Int.natCast_sub (Nat.le_of_lt hv)] at hj
  have hd : (B64 : Int) ∣ ((w * ((B64 - v) % B64) + 1 : Nat) : Int) := by
    rw [Int.natCast_add, Int.natCast_mul, Int.natCast_emod, Int.natCast_sub (Nat.le_of_lt hv)]
    refine ⟨w - k - w * j, ?_⟩
    have : ((B64 : Int) - v) % B64 = B64 - v - B64 * j := by omega
    rw [this]
    grind
  have := Int.emod_eq_zero_of_dvd hd
  omega

theorem wrapMulM (a b : Nat) : IntKind.u64.wrap ((a : Int) * (b : Int)) = ((a * b % B64 : Nat) : Int) := by
  rw [← Int.natCast_mul, Mul64.wrapM]
  rfl
theorem wrapSub2 (p : Nat) (hp : p < B64) : IntKind.u64.wrap (2 - (p : Int)) = (invR p : Nat) := by
  rw [IntKind.wrap_u64]
  unfold invR
  have hc : ((2 + (B64 - p) : Nat) : Int) = 2 - (p : Int) + (B64 : Int) := by
    rw [Int.natCast_add, Int.natCast_sub (Nat.le_of_lt hp)]
    show (2 : Int) + _ = _
    omega
  rw [Int.natCast_emod, hc, Int.add_emod_right]
  rfl
set_option maxHeartbeats 1000000 in
set_option maxRecDepth 100000 in
theorem inverse_any (v : Nat) (w : World) :
    Calls Try.prog 76 #[.int .u64 v] w fun e w' => e = .returned (.int .u64 (invN v 5 : Nat)) ∧ w' = w := by
  go_enter Try.func76, Try.ntmps76
  go_wp2
  go_loop [3, 5] (fun x i => ∃ k : Nat, k ≤ 5 ∧ i = .int .i64 k ∧ x = .int .u64 (invN v k : Nat)) (fun _ i => 5 - (intOf i).toNat)
  case atStart => exact ⟨0, by omega, rfl, rfl⟩
  case round =>
    obtain ⟨k, hk, rfl, rfl⟩ := hrel
    by_cases hlt : k < 5
    · have hs : invN v (k + 1) = invS v (invN v k) := rfl
      have w1 := wrapMulM v (invN v k)
      have w2 := wrapSub2 (invP v (invN v k)) (invP_lt _ _)
      have w3 := wrapMulM (invN v k) (invR (invP v (invN v k)))
      rw [show v * invN v k % B64 = invP v (invN v k) from rfl] at w1
      rw [show invN v k * invR (invP v (invN v k)) % B64 = invS v (invN v k) from rfl, ← hs] at w3
      have HS := hide hs
      clear hs
      obtain ⟨y, hy⟩ : ∃ y, y = invN v (k + 1) := ⟨_, rfl⟩
      rw [← hy] at w3
      have HY := hide hy
      clear hy HS
      generalize invR (invP v (invN v k)) = r at *
      generalize invP v (invN v k) = p at *
      generalize invN v k = x at *
      go_wp2
      go_round
      case rel => exact ⟨k + 1, by omega, by go_num, by rw [← unhide HY]⟩
      case measure => simp [intOf]; omega
    · have hk5 : k = 5 := by omega
      subst hk5
      go_wp2
      go_ret
      exact ⟨rfl, rfl⟩
end Go.Proofs.Ytomgjfobagjlaaa
namespace Go.Proofs.Ytomgjfobagjlaaa
open Go.RowKit Go.Shelf
set_option linter.unusedVariables false

/-- what undoes so many doublings, modulo an odd number -/
def unTwo (M k : Nat) : Nat := ((M + 1) / 2) ^ k
theorem unTwo_mul (M k : Nat) (hM : M % 2 = 1) : 2 ^ k * unTwo M k % M = 1 % M := by
  unfold unTwo
  rw [← Nat.mul_pow, show 2 * ((M + 1) / 2) = M + 1 by omega, Nat.pow_mod, Nat.add_mod_left]
  rw [← Nat.pow_mod, Nat.one_pow]
theorem mod_mul_left (a b c M : Nat) (h : a % M = b % M) : a * c % M = b * c % M := by rw [Nat.mul_mod, h, ← Nat.mul_mod]
/-- what times answers -/
theorem mont_val (z a R Ri M : Nat) (hz : z < M) (hR : R * Ri % M = 1 % M) (h : z * R % M = a % M) : z = a * Ri % M := by
  have h1 := mod_mul_left (z * R) a Ri M h
  rw [Nat.mul_assoc] at h1
  have h2 : z * (R * Ri) % M = z := by
    rw [Nat.mul_mod, hR, ← Nat.mul_mod, Nat.mul_one, Nat.mod_eq_of_lt hz]
  rw [h2] at h1
  exact h1
/-- two numbers, each times R -/
theorem mont_mul (x y a b R Ri M : Nat) (hR : R * Ri % M = 1 % M) (hx : x = a * R % M) (hy : y = b * R % M) : x * y * Ri % M = a * b * R % M := by
  rw [hx, hy]
  have e1 : a * R % M * (b * R % M) * Ri % M = a * R * (b * R) * Ri % M := by
    rw [Nat.mul_mod, ← Nat.mul_mod (a * R), ← Nat.mul_mod]
  rw [e1, show a * R * (b * R) * Ri = a * b * R * (R * Ri) by grind, Nat.mul_mod, hR, ← Nat.mul_mod, Nat.mul_one]
/-- the way in: by R times R -/
theorem mont_in (x R Ri M : Nat) (hR : R * Ri % M = 1 % M) : x * (R * R % M) * Ri % M = x * R % M := by
  have e1 : x * (R * R % M) * Ri % M = x * (R * R) * Ri % M := by
    rw [Nat.mul_mod, Nat.mul_mod x, Nat.mod_mod, ← Nat.mul_mod x, ← Nat.mul_mod]
  rw [e1, show x * (R * R) * Ri = x * R * (R * Ri) by grind, Nat.mul_mod, hR, ← Nat.mul_mod, Nat.mul_one]
/-- the way out: by 1 -/
theorem mont_out (x a R Ri M : Nat) (hR : R * Ri % M = 1 % M) (hx : x = a * R % M) : x * 1 * Ri % M = a % M := by
  rw [hx, Nat.mul_one]
  have e1 : a * R % M * Ri % M = a * R * Ri % M := by rw [Nat.mul_mod, Nat.mod_mod, ← Nat.mul_mod]
  rw [e1, Nat.mul_assoc, Nat.mul_mod, hR, ← Nat.mul_mod, Nat.mul_one]
/-- a square on the way to R times R -/
theorem mont_sq (x a R Ri M : Nat) (hR : R * Ri % M = 1 % M) (hx : x = R * a % M) : x * x * Ri % M = R * (a * a) % M := by
  rw [mont_mul x x a a R Ri M hR (by rw [hx, Nat.mul_comm]) (by rw [hx, Nat.mul_comm]), Nat.mul_comm]
theorem twice_pow (k M : Nat) : 2 * (2 ^ k % M) % M = 2 ^ (k + 1) % M := by
  rw [Nat.mul_mod, Nat.mod_mod, ← Nat.mul_mod, Nat.pow_succ, Nat.mul_comm]
theorem sq_pow (s j : Nat) : 2 ^ (s * 2 ^ j) * 2 ^ (s * 2 ^ j) = 2 ^ (s * 2 ^ (j + 1)) := by
  rw [← Nat.pow_add, Nat.pow_succ]
  congr 1
  grind
theorem B64_two (n : Nat) : B64 ^ n = 2 ^ (64 * n) := by
  have hB : B64 = 2 ^ 64 := rfl
  rw [hB, ← Nat.pow_mul]
/-- so many bits of an exponent, from the top -/
theorem pow_bit (x M d i : Nat) (acc : Nat) (h : acc = x ^ (d / 2 ^ (i + 1)) % M) : acc * acc % M * (if d / 2 ^ i % 2 = 1 then x else 1) % M = x ^ (d / 2 ^ i) % M := by
  have hd : d / 2 ^ i = 2 * (d / 2 ^ (i + 1)) + d / 2 ^ i % 2 := by
    have : d / 2 ^ (i + 1) = d / 2 ^ i / 2 := by rw [Nat.pow_succ, Nat.div_div_eq_div_mul]
    omega
  generalize d / 2 ^ (i + 1) = e at *
  rw [h]
  have hsq : x ^ e % M * (x ^ e % M) % M = x ^ (2 * e) % M := by
    rw [← Nat.mul_mod, ← Nat.pow_add]
    congr 2
    omega
  rw [hsq, Nat.mul_mod, Nat.mod_mod, ← Nat.mul_mod]
  have h2 : d / 2 ^ i % 2 = 0 ∨ d / 2 ^ i % 2 = 1 := by omega
  rcases h2 with h2 | h2
  · rw [if_neg (by omega), Nat.mul_one]
    rw [h2, Nat.add_zero] at hd
    rw [hd]
  · rw [if_pos h2]
    rw [h2] at hd
    rw [hd, Nat.pow_succ]
end Go.Proofs.Ytomgjfobagjlaaa
