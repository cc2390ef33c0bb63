/- Primes: Pocklington, with a power of the base alone (plain). -/

namespace Go.Proofs.YtjipcmmaemokhaaDoor.Prim
/-- a prime -/
def IsPrime (p : Nat) : Prop := 2 ≤ p ∧ ∀ d, d ∣ p → d = 1 ∨ d = p

theorem IsPrime.coprime {p a : Nat} (hp : IsPrime p) (h : ¬ p ∣ a) : Nat.Coprime p a := by
  rcases hp.2 (Nat.gcd p a) (Nat.gcd_dvd_left p a) with h1 | h1
  · exact h1
  · exact absurd (h1 ▸ Nat.gcd_dvd_right p a) h
theorem IsPrime.dvd_mul {p a b : Nat} (hp : IsPrime p) (h : p ∣ a * b) : p ∣ a ∨ p ∣ b := by
  by_cases ha : p ∣ a
  · exact .inl ha
  · exact .inr ((hp.coprime ha).dvd_of_dvd_mul_left h)
theorem IsPrime.dvd_pow {p a n : Nat} (hp : IsPrime p) (h : p ∣ a ^ n) : p ∣ a := by
  induction n with
  | zero =>
    rw [Nat.pow_zero] at h
    have := Nat.le_of_dvd (by decide) h
    have := hp.1
    omega
  | succ n ih =>
    rw [Nat.pow_succ] at h
    rcases hp.dvd_mul h with h | h
    · exact ih h
    · exact h
/-- each number from 2 on has a least divisor, a prime -/
theorem least_prime (n : Nat) (hn : 2 ≤ n) : ∃ r, IsPrime r ∧ r ∣ n ∧ ∀ d, d ∣ n → 2 ≤ d → r ≤ d := by
  have key : ∀ k, ∀ d, d ≤ k → 2 ≤ d → d ∣ n → ∃ r, r ∣ n ∧ 2 ≤ r ∧ ∀ d, d ∣ n → 2 ≤ d → r ≤ d := by
    intro k
    induction k with
    | zero => intro d h1 h2; omega
    | succ k ih =>
      intro d h1 h2 h3
      by_cases h : ∃ e, e ∣ n ∧ 2 ≤ e ∧ e < d
      · obtain ⟨e, he, h4, h5⟩ := h
        exact ih e (by omega) h4 he
      · refine ⟨d, h3, h2, fun e he h4 => ?_⟩
        by_cases h5 : e < d
        · exact absurd ⟨e, he, h4, h5⟩ h
        · omega
  obtain ⟨r, hr, h2, hm⟩ := key n n (Nat.le_refl _) hn (Nat.dvd_refl _)
  refine ⟨r, ⟨h2, fun d hd => ?_⟩, hr, hm⟩
  by_cases h1 : d = 1
  · exact .inl h1
  · have h0 : d ≠ 0 := by
      rintro rfl
      have := Nat.eq_zero_of_zero_dvd hd
      omega
    have := hm d (Nat.dvd_trans hd hr) (by omega)
    have := Nat.le_of_dvd (by omega) hd
    exact .inr (by omega)
/-- who is no prime has a prime that divides it, no greater than its root -/
theorem prime_of (p : Nat) (hp : 2 ≤ p) (h : ∀ r, IsPrime r → r ∣ p → p < r * r) : IsPrime p := by
  obtain ⟨r, hr, hd, hm⟩ := least_prime p hp
  have hlt := h r hr hd
  obtain ⟨k, hk⟩ := hd
  have hk1 : k = 1 := by
    by_cases h1 : k = 1
    · exact h1
    · have hk0 : k ≠ 0 := by
        rintro rfl
        rw [Nat.mul_zero] at hk
        omega
      have hle := hm k ⟨r, by rw [hk, Nat.mul_comm]⟩ (by omega)
      have := Nat.mul_le_mul_left r hle
      omega
  rw [hk1, Nat.mul_one] at hk
  rw [hk]
  exact hr
/-- no more pigeons than holes -/
theorem pigeon (m : Nat) : ∀ (n : Nat) (f : Nat → Nat), (∀ i, i < n → f i < m) → (∀ i j, i < j → j < n → f i ≠ f j) → n ≤ m := by
  induction m with
  | zero =>
    intro n f h1 h2
    cases n with
    | zero => exact Nat.le_refl _
    | succ n => exact absurd (h1 0 (by omega)) (by omega)
  | succ m ih =>
    intro n f h1 h2
    cases n with
    | zero => exact Nat.zero_le _
    | succ n =>
      by_cases h : ∃ i, i < n ∧ f i = m
      · obtain ⟨i, hi, him⟩ := h
        have := ih n (fun k => if k = i then f n else f k) (fun k hk => by
            by_cases hki : k = i
            · simp only [hki, if_true]
              have := h1 n (by omega)
              have := h2 i n hi (by omega)
              omega
            · simp only [if_neg hki]
              have := h1 k (by omega)
              have : f k ≠ m := by
                intro hk'
                rcases Nat.lt_or_gt_of_ne hki with h | h
                · exact h2 k i h (by omega) (by omega)
                · exact h2 i k h (by omega) (by omega)
              omega) (fun a b hab hb => by
            by_cases ha : a = i
            · have hbi : b ≠ i := by omega
              simp only [ha, if_true, if_neg hbi]
              exact fun e => h2 b n hb (by omega) e.symm
            · simp only [if_neg ha]
              by_cases hbi : b = i
              · simp only [hbi, if_true]
                exact h2 a n (by omega) (by omega)
              · simp only [if_neg hbi]
                exact h2 a b hab (by omega))
        omega
      · have := ih n f (fun k hk => by
            have := h1 k (by omega)
            have : f k ≠ m := fun e => h ⟨k, hk, e⟩
            omega) (fun a b hab hb => h2 a b hab (by omega))
        omega
/-- one power's exponent and another's: so their greatest common divisor's -/
theorem pow_one_gcd (b r m n : Nat) : b ^ m % r = 1 % r → b ^ n % r = 1 % r → b ^ Nat.gcd m n % r = 1 % r := by
  induction m, n using Nat.gcd.induction with
  | H0 n => intro _ h; rw [Nat.gcd_zero_left]; exact h
  | H1 m n hm ih =>
    intro h1 h2
    rw [Nat.gcd_rec]
    refine ih ?_ h1
    have e : n = m * (n / m) + n % m := (Nat.div_add_mod n m).symm
    rw [e, Nat.pow_add, Nat.pow_mul, Nat.mul_mod, Nat.pow_mod, h1, ← Nat.pow_mod, Nat.one_pow, ← Nat.mul_mod, Nat.one_mul] at h2
    exact h2
theorem mod_of_dvd {a b p r : Nat} (hr : r ∣ p) (h : a % p = b % p) : a % r = b % r := by
  rw [← Nat.mod_mod_of_dvd a hr, h, Nat.mod_mod_of_dvd b hr]
theorem dvd_sub_of_mod {a b r : Nat} (h : a % r = b % r) : r ∣ b - a := by
  rcases Nat.le_total a b with hl | hl
  · exact (Nat.dvd_iff_mod_eq_zero ..).2 (Nat.sub_mod_eq_zero_of_mod_eq h.symm)
  · rw [Nat.sub_eq_zero_of_le hl]; exact Nat.dvd_zero _
theorem mod_of_dvd_sub {a b r : Nat} (hl : a ≤ b) (h : r ∣ b - a) : a % r = b % r := by
  obtain ⟨k, hk⟩ := h
  have : b = a + r * k := by omega
  rw [this, Nat.add_mul_mod_self_left]
/-- POCKLINGTON, with a power of the base alone -/
theorem pocklington (p F b : Nat) (hp : 2 ≤ p) (hF : p < F * F) (h1 : b ^ F % p = 1 % p)
    (h2 : ∀ q, IsPrime q → q ∣ F → Nat.gcd (b ^ (F / q) % p + (p - 1)) p = 1) : IsPrime p := by
  refine prime_of p hp fun r hr hd => Nat.lt_of_lt_of_le hF ?_
  have hF0 : 0 < F := by
    rcases Nat.eq_zero_or_pos F with h | h
    · rw [h] at hF; omega
    · exact h
  have hFr : b ^ F % r = 1 % r := mod_of_dvd hd h1
  have hb : ¬ r ∣ b := fun h => by
    have := hr.1
    have h3 : r ∣ b ^ F := Nat.dvd_trans h (Nat.dvd_trans (by rw [Nat.pow_one]; exact Nat.dvd_refl _) (Nat.pow_dvd_pow b (show 1 ≤ F by omega)))
    rw [Nat.mod_eq_zero_of_dvd h3, Nat.mod_eq_of_lt (by omega)] at hFr
    omega
  have hle : F ≤ r := by
    refine pigeon r F (fun i => b ^ i % r) (fun i _ => Nat.mod_lt _ (by have := hr.1; omega)) (fun i j hij hj he => ?_)
    have hij' : b ^ j = b ^ i * b ^ (j - i) := by rw [← Nat.pow_add]; congr 1; omega
    have hb1 : 0 < b := Nat.pos_of_ne_zero (fun h => hb (by rw [h]; exact Nat.dvd_zero _))
    have hd1 : b ^ (j - i) % r = 1 % r := by
      have hs := dvd_sub_of_mod he
      rw [hij', show b ^ i * b ^ (j - i) - b ^ i = b ^ i * (b ^ (j - i) - 1) by rw [Nat.mul_sub, Nat.mul_one]] at hs
      rcases hr.dvd_mul hs with h | h
      · exact absurd (hr.dvd_pow h) hb
      · exact (mod_of_dvd_sub (Nat.pow_pos hb1) h).symm
    have hg := pow_one_gcd b r (j - i) F hd1 hFr
    have hgF := Nat.gcd_dvd_right (j - i) F
    have hgle : Nat.gcd (j - i) F ≤ j - i := Nat.le_of_dvd (by omega) (Nat.gcd_dvd_left _ _)
    generalize Nat.gcd (j - i) F = g at *
    obtain ⟨k, hk⟩ := hgF
    have hk2 : 2 ≤ k := by
      rcases Nat.lt_or_ge k 2 with h | h
      · have : k = 0 ∨ k = 1 := by omega
        rcases this with rfl | rfl
        · rw [Nat.mul_zero] at hk; omega
        · rw [Nat.mul_one] at hk; omega
      · exact h
    obtain ⟨q, hq, ⟨l, hl⟩, _⟩ := least_prime k hk2
    have hFq : F / q = g * l := by
      rw [hk, hl, show g * (q * l) = q * (g * l) by rw [← Nat.mul_assoc, Nat.mul_comm g q, Nat.mul_assoc], Nat.mul_div_cancel_left _ (by have := hq.1; omega)]
    have hone : b ^ (F / q) % r = 1 % r := by
      rw [hFq, Nat.pow_mul, Nat.pow_mod, hg, ← Nat.pow_mod, Nat.one_pow]
    have hgcd := h2 q hq ⟨g * l, by rw [hk, hl, ← Nat.mul_assoc, Nat.mul_comm g q, Nat.mul_assoc]⟩
    have hdv : r ∣ b ^ (F / q) % p + (p - 1) := by
      apply Nat.dvd_of_mod_eq_zero
      rw [Nat.add_mod, Nat.mod_mod_of_dvd _ hd, hone, ← Nat.add_mod, show 1 + (p - 1) = p by omega]
      exact Nat.mod_eq_zero_of_dvd hd
    have := Nat.dvd_gcd hdv hd
    rw [hgcd] at this
    have := Nat.le_of_dvd (by decide) this
    have := hr.1
    omega
  exact Nat.mul_le_mul hle hle
end Go.Proofs.YtjipcmmaemokhaaDoor.Prim
namespace Go.Proofs.YtjipcmmaemokhaaDoor.Prim
/-- the product of a list -/
def prodL : List Nat → Nat
  | [] => 1
  | x :: l => x * prodL l
theorem prodL_perm {l m : List Nat} (h : l.Perm m) : prodL l = prodL m := by
  induction h with
  | nil => rfl
  | cons x _ ih => simp only [prodL, ih]
  | swap x y l => simp only [prodL]; rw [← Nat.mul_assoc, ← Nat.mul_assoc, Nat.mul_comm x y]
  | trans _ _ h1 h2 => exact h1.trans h2
theorem perm_of_nodup : ∀ (M L : List Nat), M.Nodup → (∀ x, x ∈ M → x ∈ L) → L.length ≤ M.length → M.Perm L
  | [], L, _, _, hl => by
    have : L = [] := List.eq_nil_of_length_eq_zero (by simpa using hl)
    rw [this]
  | x :: M, L, hn, hs, hl => by
    have hx : x ∈ L := hs x (by simp)
    have hp := List.perm_cons_erase hx
    have hlen := hp.length_eq
    have hxM : x ∉ M := (List.nodup_cons.1 hn).1
    have ih := perm_of_nodup M (L.erase x) (List.nodup_cons.1 hn).2 (fun y hy => by
      have hyx : y ≠ x := fun e => hxM (e ▸ hy)
      exact (List.mem_erase_of_ne hyx).2 (hs y (by simp [hy]))) (by simp at hlen hl; omega)
    exact (List.Perm.cons x ih).trans hp.symm
theorem prodL_map_mul (a p : Nat) : ∀ l : List Nat, prodL (l.map (fun i => a * i % p)) % p = a ^ l.length * prodL l % p
  | [] => by simp [prodL]
  | x :: l => by
    rw [List.map_cons, prodL, prodL, Nat.mul_mod, Nat.mod_mod, prodL_map_mul a p l, ← Nat.mul_mod, List.length_cons, Nat.pow_succ]
    congr 1
    grind
theorem prodL_not_dvd {p : Nat} (hp : IsPrime p) : ∀ l : List Nat, (∀ x, x ∈ l → ¬ p ∣ x) → ¬ p ∣ prodL l
  | [], _ => fun h => by
    have h1 := Nat.le_of_dvd (show 0 < 1 by decide) (show p ∣ 1 from h)
    have := hp.1
    omega
  | x :: l, h => fun hd => by
    rcases hp.dvd_mul hd with h1 | h1
    · exact h x (by simp) h1
    · exact prodL_not_dvd hp l (fun y hy => h y (by simp [hy])) h1
/-- FERMAT -/
theorem fermat (p a : Nat) (hp : IsPrime p) (ha : ¬ p ∣ a) : a ^ (p - 1) % p = 1 % p := by
  have h2 := hp.1
  have hnd : ∀ x, x ∈ List.range' 1 (p - 1) → ¬ p ∣ x := fun x hx hd => by
    rw [List.mem_range'_1] at hx
    have := Nat.le_of_dvd (by omega) hd
    omega
  have hM : ((List.range' 1 (p - 1)).map (fun i => a * i % p)).Nodup := by
    rw [List.nodup_iff_pairwise_ne, List.pairwise_map]
    refine List.Pairwise.imp_of_mem ?_ (List.pairwise_lt_range' (s := 1) (n := p - 1))
    intro i j hi hj hij he
    have hs := dvd_sub_of_mod he
    rw [← Nat.mul_sub] at hs
    rw [List.mem_range'_1] at hi hj
    rcases hp.dvd_mul hs with h | h
    · exact ha h
    · have := Nat.le_of_dvd (by omega) h
      omega
  have hperm := perm_of_nodup _ (List.range' 1 (p - 1)) hM (fun x hx => by
    rw [List.mem_map] at hx
    obtain ⟨i, hi, rfl⟩ := hx
    rw [List.mem_range'_1]
    have hlt := Nat.mod_lt (a * i) (show 0 < p by omega)
    have hne : a * i % p ≠ 0 := fun h => by
      rcases hp.dvd_mul (Nat.dvd_of_mod_eq_zero h) with h | h
      · exact ha h
      · exact hnd i hi h
    omega) (by simp)
  have he := congrArg (· % p) (prodL_perm hperm)
  simp only [prodL_map_mul] at he
  rw [List.length_range'] at he
  have hP := prodL_not_dvd hp _ hnd
  have ha0 : 0 < a := Nat.pos_of_ne_zero (fun h => ha (by rw [h]; exact Nat.dvd_zero _))
  have hs := dvd_sub_of_mod he.symm
  generalize prodL (List.range' 1 (p - 1)) = P at *
  rw [show a ^ (p - 1) * P - P = (a ^ (p - 1) - 1) * P by rw [Nat.sub_mul, Nat.one_mul]] at hs
  rcases hp.dvd_mul hs with h | h
  · exact (mod_of_dvd_sub (Nat.pow_pos ha0) h).symm
  · exact absurd h hP
/-- modulo a prime: so often multiplied it is as it was -/
theorem fermat_more (p x n : Nat) (hp : IsPrime p) (hn : ∃ k, n = k * (p - 1) + 1) : x ^ n % p = x % p := by
  obtain ⟨k, rfl⟩ := hn
  by_cases h : p ∣ x
  · rw [Nat.mod_eq_zero_of_dvd h, Nat.mod_eq_zero_of_dvd (Nat.dvd_trans h (by rw [Nat.pow_succ]; exact Nat.dvd_mul_left _ _))]
  · have hf := fermat p x hp h
    rw [Nat.pow_succ, Nat.mul_comm k, Nat.pow_mul, Nat.mul_mod, Nat.pow_mod, hf, ← Nat.pow_mod, Nat.one_pow, ← Nat.mul_mod, Nat.one_mul]
theorem crt (p q u v : Nat) (hc : Nat.Coprime p q) (h1 : u % p = v % p) (h2 : u % q = v % q) : u % (p * q) = v % (p * q) := by
  rcases Nat.le_total u v with hl | hl
  · exact mod_of_dvd_sub hl (hc.mul_dvd_of_dvd_of_dvd (dvd_sub_of_mod h1) (dvd_sub_of_mod h2))
  · exact (mod_of_dvd_sub hl (hc.mul_dvd_of_dvd_of_dvd (dvd_sub_of_mod h1.symm) (dvd_sub_of_mod h2.symm))).symm
/-- RIVEST, SHAMIR, ADLEMAN -/
theorem rsa (p q e d x : Nat) (hp : IsPrime p) (hq : IsPrime q) (hpq : p ≠ q) (hx : x < p * q) (hd : ∃ k, e * d = k * ((p - 1) * (q - 1)) + 1) :
    (x ^ e % (p * q)) ^ d % (p * q) = x := by
  obtain ⟨k, hk⟩ := hd
  have hc : Nat.Coprime p q := hp.coprime (fun h => by
    rcases hq.2 p h with h1 | h1
    · have := hp.1; omega
    · exact hpq h1)
  rw [← Nat.pow_mod, ← Nat.pow_mul, hk]
  have := crt p q (x ^ (k * ((p - 1) * (q - 1)) + 1)) x hc (fermat_more p x _ hp ⟨k * (q - 1), by grind⟩) (fermat_more q x _ hq ⟨k * (p - 1), by grind⟩)
  rw [this, Nat.mod_eq_of_lt hx]
end Go.Proofs.YtjipcmmaemokhaaDoor.Prim
