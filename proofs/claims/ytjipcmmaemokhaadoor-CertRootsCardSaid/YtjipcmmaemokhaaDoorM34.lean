/- Rivest, Shamir, Adleman, over texts (plain). -/
import Derived.Test.YtjipcmmaemokhaaDoorM19
import Derived.Test.YtjipcmmaemokhaaDoorM32
import Derived.Test.YtjipcmmaemokhaaDoorM33
namespace Go.Proofs.YtjipcmmaemokhaaDoor
open Go.RowKit
set_option linter.unusedVariables false
set_option linter.unusedSimpArgs false
set_option maxRecDepth 100000

theorem valN_bigR (n : Nat) : ∀ k, valN ((bigL n k).map fun z => UInt8.ofNat z.toNat) = n % 256 ^ k
  | 0 => by simp [bigL, valN, Nat.mod_one]
  | k + 1 => by
    rw [bigL, List.map_cons, valN_consN, valN_bigR n k, List.length_map, bigL_length, Nat.pow_succ, Nat.mod_mul]
    have e : ((((n / 256 ^ k % 256 : Nat)) : Int)).toNat = n / 256 ^ k % 256 := rfl
    rw [e, show (UInt8.ofNat (n / 256 ^ k % 256)).toNat = n / 256 ^ k % 256 by simp, Nat.mul_comm, Nat.add_comm]
theorem valN_strR (n k : Nat) : valN (strOfNums (bigL n k)).data.toList = n % 256 ^ k := by
  rw [show (strOfNums (bigL n k)).data.toList = (bigL n k).map (fun z => UInt8.ofNat z.toNat) by simp [strOfNums], valN_bigR]
theorem bigL_more (a n k : Nat) : ∀ j, j ≤ k → bigL (a * 256 ^ k + n) j = bigL n j
  | 0, _ => rfl
  | j + 1, h => by
    rw [bigL, bigL, bigL_more a n k j (by omega)]
    have e : a * 256 ^ k = 256 ^ j * (256 * (a * 256 ^ (k - j - 1))) := by
      have : 256 ^ k = 256 ^ j * (256 * 256 ^ (k - j - 1)) := by
        rw [← Nat.pow_succ', ← Nat.pow_add]; congr 1; omega
      rw [this, Nat.mul_left_comm, Nat.mul_left_comm a 256]
    rw [e, Nat.mul_add_div (Nat.pow_pos (by decide)), Nat.mul_add_mod]
theorem list_of_num : ∀ l : List UInt8, (bigL (valN l) l.length).map (fun z => UInt8.ofNat z.toNat) = l
  | [] => rfl
  | b :: l => by
    have hv := valN_ltK l
    rw [List.length_cons, bigL, valN_consN, bigL_more _ _ _ _ (Nat.le_refl _), List.map_cons, list_of_num l]
    have e : (b.toNat * 256 ^ l.length + valN l) / 256 ^ l.length % 256 = b.toNat := by
      rw [Nat.mul_comm, Nat.mul_add_div (Nat.pow_pos (by decide)), Nat.div_eq_of_lt hv, Nat.add_zero]
      exact Nat.mod_eq_of_lt b.toNat_lt
    rw [e]
    congr 1
    simp
theorem text_of_num (x : ByteArray) : strOfNums (bigL (valN x.data.toList) x.size) = x := by
  apply ByteArray.ext
  apply Array.toList_inj.1
  have := list_of_num x.data.toList
  rw [show x.data.toList.length = x.size by simp] at this
  rw [← this]
  simp [strOfNums, this]
/-- powers as texts: of a modulus, and a number below it -/
theorem powT_again {m x : ByteArray} (h : powE m x = 0) (d : Nat) : powE m (powT m x d) = 0 ∧ valN (powT m x d).data.toList = valN x.data.toList ^ d % valN m.data.toList := by
  have hT : powT m x d = strOfNums (bigL (valN x.data.toList ^ d % valN m.data.toList) m.size) := by unfold powT; rw [if_pos h]
  have hm : isModB m = true ∧ x.size = m.size ∧ valN x.data.toList < valN m.data.toList := by
    unfold powE at h
    cases hmb : isModB m with
    | false => rw [hmb] at h; simp at h
    | true =>
      rw [hmb] at h
      by_cases hs : x.size = m.size
      · rw [decide_eq_false (by simpa using hs)] at h
        simp only [Bool.not_true, Bool.or_self, Bool.false_eq_true, if_false] at h
        by_cases hv : valN m.data.toList ≤ valN x.data.toList
        · rw [if_pos hv] at h; cases h
        · exact ⟨rfl, hs, by omega⟩
      · rw [decide_eq_true (by simpa using hs)] at h; simp at h
  obtain ⟨hmb, hs, hv⟩ := hm
  have hM0 : 0 < valN m.data.toList := by omega
  have hMl := valN_ltK m.data.toList
  rw [show m.data.toList.length = m.size by simp] at hMl
  have hlt := Nat.mod_lt (valN x.data.toList ^ d) hM0
  have hV : valN (powT m x d).data.toList = valN x.data.toList ^ d % valN m.data.toList := by
    rw [hT, valN_strR, Nat.mod_eq_of_lt (by omega)]
  have hZ : (powT m x d).size = m.size := by rw [hT, strOfNums_size, bigL_length]
  refine ⟨?_, hV⟩
  unfold powE
  rw [hmb, hV, decide_eq_false (by simpa using hZ)]
  simp only [Bool.not_true, Bool.or_self, Bool.false_eq_true, if_false]
  rw [if_neg (by omega)]
theorem rsa_text {m x : ByteArray} (h : powE m x = 0) (p q d e : Nat) (hp : Prim.IsPrime p) (hq : Prim.IsPrime q) (hpq : p ≠ q) (hm : valN m.data.toList = p * q) (hde : ∃ k, d * e = k * ((p - 1) * (q - 1)) + 1) :
    powT m (powT m x d) e = x := by
  obtain ⟨h1, h2⟩ := powT_again h d
  have hx : valN x.data.toList < p * q ∧ x.size = m.size := by
    unfold powE at h
    cases hmb : isModB m with
    | false => rw [hmb] at h; simp at h
    | true =>
      rw [hmb] at h
      by_cases hs : x.size = m.size
      · rw [decide_eq_false (by simpa using hs)] at h
        simp only [Bool.not_true, Bool.or_self, Bool.false_eq_true, if_false] at h
        by_cases hv : valN m.data.toList ≤ valN x.data.toList
        · rw [if_pos hv] at h; cases h
        · exact ⟨by omega, hs⟩
      · rw [decide_eq_true (by simpa using hs)] at h; simp at h
  unfold powT
  rw [if_pos (by exact h1)]
  have h2' := h2
  unfold powT at h2'
  rw [h2', hm, Prim.rsa p q d e _ hp hq hpq hx.1 hde, ← hx.2]
  exact text_of_num x
/-- a secret's D, three times, and 1 over -/
theorem secD_three {p q : ByteArray} (h : secE p q = 0) : 3 * secD p q = (3 - (valN p.data.toList - 1) * (valN q.data.toList - 1) % 3) * ((valN p.data.toList - 1) * (valN q.data.toList - 1)) + 1 := by
  have h3 : ¬ (valN p.data.toList - 1) * (valN q.data.toList - 1) % 3 = 0 := by
    intro h0
    unfold secE at h
    cases hf : (isFacB p && isFacB q) with
    | false => rw [hf] at h; simp at h
    | true =>
      cases hm : isModB (secT (valN p.data.toList) (valN q.data.toList)) with
      | false => rw [hf, hm] at h; simp at h
      | true => rw [hf, hm, if_pos h0] at h; simp at h
  unfold secD
  generalize (valN p.data.toList - 1) * (valN q.data.toList - 1) = N at *
  have hc : N % 3 = 1 ∨ N % 3 = 2 := by omega
  rcases hc with hc | hc
  · rw [hc, Nat.mul_comm N]
    omega
  · rw [hc, Nat.mul_comm N]
    omega
end Go.Proofs.YtjipcmmaemokhaaDoor
namespace Go.Proofs.YtjipcmmaemokhaaDoor.Prim
/-- a power modulo m, bit by bit -/
def pwm (m : Nat) : Nat → Nat → Nat → Nat
  | 0, _, _ => 1 % m
  | f + 1, b, e => bif e == 0 then 1 % m else bif e % 2 == 0 then pwm m f (b * b % m) (e / 2) else pwm m f (b * b % m) (e / 2) * b % m
theorem pwm_eq (m : Nat) : ∀ f b e, e < 2 ^ f → pwm m f b e = b ^ e % m
  | 0, b, e, h => by
    have : e = 0 := by omega
    rw [this, Nat.pow_zero]; rfl
  | f + 1, b, e, h => by
    have hlt : e / 2 < 2 ^ f := by rw [Nat.pow_succ] at h; omega
    have hsq : (b * b % m) ^ (e / 2) % m = b ^ (2 * (e / 2)) % m := by
      rw [← Nat.pow_mod, Nat.pow_mul, Nat.pow_two]
    unfold pwm
    cases he : e == 0 with
    | true =>
      rw [beq_iff_eq] at he
      rw [he, Nat.pow_zero]; rfl
    | false =>
      cases he2 : e % 2 == 0 with
      | true =>
        rw [beq_iff_eq] at he2
        simp only [cond_false, cond_true]
        rw [pwm_eq m f _ _ hlt, hsq]
        congr 2
        omega
      | false =>
        have he3 : e % 2 ≠ 0 := fun h => by rw [h] at he2; simp at he2
        simp only [cond_false]
        rw [pwm_eq m f _ _ hlt, hsq, Nat.mul_mod, Nat.mod_mod, ← Nat.mul_mod, ← Nat.pow_succ]
        congr 2
        omega
/-- a number with a root of D beside it, so often multiplied -/
def lucA (D u v : Nat) : Nat → Nat × Nat
  | 0 => (1, 0)
  | n + 1 => ((lucA D u v n).1 * u + D * ((lucA D u v n).2 * v), (lucA D u v n).1 * v + (lucA D u v n).2 * u)
theorem lucA_add (D u v m : Nat) : ∀ n, lucA D u v (m + n) = ((lucA D u v m).1 * (lucA D u v n).1 + D * ((lucA D u v m).2 * (lucA D u v n).2), (lucA D u v m).1 * (lucA D u v n).2 + (lucA D u v m).2 * (lucA D u v n).1)
  | 0 => by simp [lucA]
  | n + 1 => by
    rw [← Nat.add_assoc, lucA, lucA_add D u v m n]
    simp only [lucA, Prod.mk.injEq]
    constructor <;> grind
theorem lucA_mul (D u v m : Nat) : ∀ n, lucA D u v (m * n) = lucA D (lucA D u v m).1 (lucA D u v m).2 n
  | 0 => rfl
  | n + 1 => by rw [Nat.mul_succ, lucA_add, lucA_mul D u v m n]; rfl
/-- its norm -/
theorem lucA_norm (D u v : Nat) : ∀ n, (((lucA D u v n).1 : Int) * (lucA D u v n).1 - D * ((lucA D u v n).2 * (lucA D u v n).2)) = ((u : Int) * u - D * (v * v)) ^ n
  | 0 => by simp [lucA]
  | n + 1 => by
    rw [Int.pow_succ, ← lucA_norm D u v n]
    simp only [lucA]
    generalize (lucA D u v n).1 = a
    generalize (lucA D u v n).2 = b
    push_cast
    grind
/-- alike modulo r, both -/
def Alike (r : Nat) (x y : Nat × Nat) : Prop := x.1 % r = y.1 % r ∧ x.2 % r = y.2 % r
theorem mulmod {a b c d r : Nat} (h1 : a % r = c % r) (h2 : b % r = d % r) : a * b % r = c * d % r := by rw [Nat.mul_mod, h1, h2, ← Nat.mul_mod]
theorem addmod {a b c d r : Nat} (h1 : a % r = c % r) (h2 : b % r = d % r) : (a + b) % r = (c + d) % r := by rw [Nat.add_mod, h1, h2, ← Nat.add_mod]
theorem lucA_alike (r D u v u' v' : Nat) (hu : u % r = u' % r) (hv : v % r = v' % r) : ∀ n, Alike r (lucA D u v n) (lucA D u' v' n)
  | 0 => ⟨rfl, rfl⟩
  | n + 1 => by
    obtain ⟨h1, h2⟩ := lucA_alike r D u v u' v' hu hv n
    exact ⟨addmod (mulmod h1 hu) (mulmod rfl (mulmod h2 hv)), addmod (mulmod h1 hv) (mulmod h2 hu)⟩
theorem lucA_one (D : Nat) : ∀ n, lucA D 1 0 n = (1, 0)
  | 0 => rfl
  | n + 1 => by rw [lucA, lucA_one D n]; simp
theorem luc_gcd (D u v r m n : Nat) : Alike r (lucA D u v m) (1, 0) → Alike r (lucA D u v n) (1, 0) → Alike r (lucA D u v (Nat.gcd m n)) (1, 0) := by
  induction m, n using Nat.gcd.induction with
  | H0 n => intro _ h; rw [Nat.gcd_zero_left]; exact h
  | H1 m n hm ih =>
    intro h1 h2
    rw [Nat.gcd_rec]
    refine ih ?_ h1
    have e : n = m * (n / m) + n % m := (Nat.div_add_mod n m).symm
    rw [e, lucA_add, lucA_mul] at h2
    have h3 := lucA_alike r D _ _ 1 0 h1.1 h1.2 (n / m)
    rw [lucA_one] at h3
    obtain ⟨a1, a2⟩ := h3
    obtain ⟨b1, b2⟩ := h2
    generalize lucA D (lucA D u v m).1 (lucA D u v m).2 (n / m) = x at *
    generalize lucA D u v (n % m) = y at *
    have c1 := addmod (mulmod a1 (rfl : y.1 % r = y.1 % r)) (mulmod (rfl : D % r = D % r) (mulmod a2 (rfl : y.2 % r = y.2 % r)))
    have c2 := addmod (mulmod a1 (rfl : y.2 % r = y.2 % r)) (mulmod a2 (rfl : y.1 % r = y.1 % r))
    simp only [Nat.one_mul, Nat.zero_mul, Nat.mul_zero, Nat.add_zero] at c1 c2
    exact ⟨c1.symm.trans b1, c2.symm.trans b2⟩
theorem modI {a b r : Nat} (h : (r : Int) ∣ (a : Int) - b) : a % r = b % r := by
  have h1 : ((a : Int) % r) = ((b : Int) % r) := Int.emod_eq_emod_iff_emod_sub_eq_zero.2 (Int.emod_eq_zero_of_dvd h)
  exact_mod_cast h1
theorem dvdI {a b r : Nat} (h : a % r = b % r) : (r : Int) ∣ (a : Int) - b := by
  apply Int.dvd_of_emod_eq_zero
  rw [← Int.emod_eq_emod_iff_emod_sub_eq_zero]
  exact_mod_cast h
theorem dvd_mulI {p : Nat} (hp : IsPrime p) {a b : Int} (h : (p : Int) ∣ a * b) : (p : Int) ∣ a ∨ (p : Int) ∣ b := by
  have h1 : p ∣ a.natAbs * b.natAbs := by
    rw [← Int.natAbs_mul]
    exact Int.ofNat_dvd_left.1 h
  rcases hp.dvd_mul h1 with h | h
  · exact .inl (Int.ofNat_dvd_left.2 h)
  · exact .inr (Int.ofNat_dvd_left.2 h)
/-- LUCAS: an element of norm 1 whose power q, a prime, is 1 -/
theorem lucas (N q D u v : Nat) (hN : 2 ≤ N) (hq : IsPrime q) (hbig : N < ((q + 1) / 2) * ((q + 1) / 2)) (hD : Nat.gcd D N = 1)
    (hn : (u * u) % N = (1 + D * (v * v)) % N) (h1 : Alike N (lucA D u v q) (1, 0)) (hu : Nat.gcd (u + (N - 1)) N = 1) : IsPrime N := by
  refine prime_of N hN fun r hr hd => Nat.lt_of_lt_of_le hbig ?_
  have h2 := hr.1
  have hrD : ¬ r ∣ D := fun h => by
    have := Nat.dvd_gcd h hd
    rw [hD] at this
    have := Nat.le_of_dvd (by decide) this
    omega
  have hrq : Alike r (lucA D u v q) (1, 0) := ⟨mod_of_dvd hd h1.1, mod_of_dvd hd h1.2⟩
  have hnr : (r : Int) ∣ (u : Int) * u - D * (v * v) - 1 := by
    have h := dvdI (mod_of_dvd hd hn)
    push_cast at h
    rwa [show (u : Int) * u - (1 + D * (v * v)) = (u : Int) * u - D * (v * v) - 1 by omega] at h
  -- the norm of each power is 1
  have hnorm : ∀ n, (r : Int) ∣ (((lucA D u v n).1 : Int) * (lucA D u v n).1 - D * ((lucA D u v n).2 * (lucA D u v n).2)) - 1 := by
    intro n
    rw [lucA_norm]
    generalize (u : Int) * u - D * (v * v) = t at *
    induction n with
    | zero => simp
    | succ n ih =>
      have e : t ^ (n + 1) - 1 = (t ^ n - 1) * t + (t - 1) := by rw [Int.pow_succ]; grind
      rw [e]
      exact Int.dvd_add (Int.dvd_mul_of_dvd_left ih) hnr
  -- no lesser power is 1
  have hno : ∀ e, 0 < e → e < q → ¬ Alike r (lucA D u v e) (1, 0) := by
    intro e he heq ha
    have hg := luc_gcd D u v r e q ha hrq
    have hg1 : Nat.gcd e q = 1 := by
      rcases hq.2 _ (Nat.gcd_dvd_right e q) with h | h
      · exact h
      · have := Nat.le_of_dvd he (Nat.gcd_dvd_left e q)
        omega
    rw [hg1] at hg
    have hu1 : u % r = 1 % r := by simpa [lucA] using hg.1
    have hdv : r ∣ u + (N - 1) := by
      apply Nat.dvd_of_mod_eq_zero
      rw [addmod hu1 rfl, show 1 + (N - 1) = N by omega]
      exact Nat.mod_eq_zero_of_dvd hd
    have := Nat.dvd_gcd hdv hd
    rw [hu] at this
    have := Nat.le_of_dvd (by decide) this
    omega
  have hle : (q + 1) / 2 ≤ r := by
    refine pigeon r ((q + 1) / 2) (fun i => (lucA D u v i).1 % r) (fun i _ => Nat.mod_lt _ (by omega)) (fun i j hij hj he => ?_)
    have hi := hnorm i
    have hjn := hnorm j
    have hea := dvdI he
    have hjd : j = (j - i) + i := by omega
    have hadd := lucA_add D u v (j - i) i
    rw [← hjd] at hadd
    have hadd2 := lucA_add D u v i j
    have hnd := hno (j - i) (by omega) (by omega)
    have hns := hno (i + j) (by omega) (by omega)
    rw [hadd2] at hns
    have ha1 := congrArg Prod.fst hadd
    have ha2 := congrArg Prod.snd hadd
    simp only at ha1 ha2
    generalize lucA D u v (j - i) = z at *
    generalize lucA D u v i = x at *
    generalize lucA D u v j = y at *
    obtain ⟨a, b⟩ := x
    obtain ⟨c, d⟩ := y
    obtain ⟨f, g⟩ := z
    simp only at *
    have hI1 : (c : Int) = f * a + D * (g * b) := by exact_mod_cast ha1
    have hI2 : (d : Int) = f * b + g * a := by exact_mod_cast ha2
    have hprod : (r : Int) ∣ (D : Int) * (((b : Int) - d) * (b + d)) := by
      have e : (D : Int) * (((b : Int) - d) * (b + d)) = (((c : Int) * c - D * (d * d)) - 1) - (((a : Int) * a - D * (b * b)) - 1) + ((a : Int) - c) * (a + c) := by grind
      rw [e]
      exact Int.dvd_add (Int.dvd_sub hjn hi) (Int.dvd_mul_of_dvd_left hea)
    rcases dvd_mulI hr hprod with h | h
    · exact hrD (by exact_mod_cast h)
    · rcases dvd_mulI hr h with h | h
      · apply hnd
        refine ⟨modI ?_, modI ?_⟩
        · have e : (f : Int) - ((1 : Nat) : Int) = ((c : Int) - a) * a - D * ((d - b) * b) + (((a : Int) * a - D * (b * b)) - 1) - f * (((a : Int) * a - D * (b * b)) - 1) := by
            rw [hI1, hI2]; push_cast; grind
          rw [e]
          have hca : (r : Int) ∣ (c : Int) - a := by rw [show (c : Int) - a = -((a : Int) - c) by omega]; exact Int.dvd_neg.2 hea
          have hdb : (r : Int) ∣ (d : Int) - b := by rw [show (d : Int) - b = -((b : Int) - d) by omega]; exact Int.dvd_neg.2 h
          exact Int.dvd_sub (Int.dvd_add (Int.dvd_sub (Int.dvd_mul_of_dvd_left hca) (Int.dvd_mul_of_dvd_right (Int.dvd_mul_of_dvd_left hdb))) hi) (Int.dvd_mul_of_dvd_right hi)
        · have e : (g : Int) - ((0 : Nat) : Int) = (d - b) * a - b * (c - a) - g * (((a : Int) * a - D * (b * b)) - 1) := by
            rw [hI1, hI2]; push_cast; grind
          rw [e]
          have hca : (r : Int) ∣ (c : Int) - a := by rw [show (c : Int) - a = -((a : Int) - c) by omega]; exact Int.dvd_neg.2 hea
          have hdb : (r : Int) ∣ (d : Int) - b := by rw [show (d : Int) - b = -((b : Int) - d) by omega]; exact Int.dvd_neg.2 h
          exact Int.dvd_sub (Int.dvd_sub (Int.dvd_mul_of_dvd_left hdb) (Int.dvd_mul_of_dvd_right hca)) (Int.dvd_mul_of_dvd_right hi)
      · apply hns
        refine ⟨modI ?_, modI ?_⟩
        · have e : ((a * c + D * (b * d) : Nat) : Int) - ((1 : Nat) : Int) = -((a - c) * a) + D * (b * (b + d)) + (((a : Int) * a - D * (b * b)) - 1) := by push_cast; grind
          rw [e]
          exact Int.dvd_add (Int.dvd_add (Int.dvd_neg.2 (Int.dvd_mul_of_dvd_left hea)) (Int.dvd_mul_of_dvd_right (Int.dvd_mul_of_dvd_right h))) hi
        · have e : ((a * d + b * c : Nat) : Int) - ((0 : Nat) : Int) = a * (b + d) - b * (a - c) := by push_cast; grind
          rw [e]
          exact Int.dvd_sub (Int.dvd_mul_of_dvd_right h) (Int.dvd_mul_of_dvd_right hea)
  exact Nat.mul_le_mul hle hle
/-- the same power modulo N, bit by bit -/
def lpw (N D : Nat) : Nat → Nat × Nat → Nat → Nat × Nat
  | 0, _, _ => (1 % N, 0)
  | f + 1, x, e => bif e == 0 then (1 % N, 0) else
    let y := lpw N D f ((x.1 * x.1 + D * (x.2 * x.2)) % N, (x.1 * x.2 + x.2 * x.1) % N) (e / 2)
    bif e % 2 == 0 then y else ((y.1 * x.1 + D * (y.2 * x.2)) % N, (y.1 * x.2 + y.2 * x.1) % N)
theorem alike_trans {r : Nat} {x y z : Nat × Nat} (h1 : Alike r x y) (h2 : Alike r y z) : Alike r x z := ⟨h1.1.trans h2.1, h1.2.trans h2.2⟩
theorem lpw_eq (N D : Nat) : ∀ f x e, e < 2 ^ f → Alike N (lpw N D f x e) (lucA D x.1 x.2 e)
  | 0, x, e, h => by
    have : e = 0 := by omega
    rw [this]
    exact ⟨Nat.mod_mod _ _, rfl⟩
  | f + 1, x, e, h => by
    have hlt : e / 2 < 2 ^ f := by rw [Nat.pow_succ] at h; omega
    have ih := lpw_eq N D f ((x.1 * x.1 + D * (x.2 * x.2)) % N, (x.1 * x.2 + x.2 * x.1) % N) (e / 2) hlt
    have hsq : lucA D x.1 x.2 2 = (x.1 * x.1 + D * (x.2 * x.2), x.1 * x.2 + x.2 * x.1) := by simp [lucA]
    have hmul := lucA_mul D x.1 x.2 2 (e / 2)
    rw [hsq] at hmul
    have ih2 := alike_trans ih (lucA_alike N D _ _ _ _ (Nat.mod_mod _ _) (Nat.mod_mod _ _) (e / 2))
    rw [← hmul] at ih2
    unfold lpw
    cases he : e == 0 with
    | true =>
      rw [beq_iff_eq] at he
      rw [he]
      exact ⟨Nat.mod_mod _ _, rfl⟩
    | false =>
      cases he2 : e % 2 == 0 with
      | true =>
        rw [beq_iff_eq] at he2
        simp only [cond_false, cond_true]
        rw [show 2 * (e / 2) = e by omega] at ih2
        exact ih2
      | false =>
        have he3 : e % 2 ≠ 0 := fun h => by rw [h] at he2; simp at he2
        simp only [cond_false]
        have h1 : lucA D x.1 x.2 (2 * (e / 2) + 1) = ((lucA D x.1 x.2 (2 * (e / 2))).1 * x.1 + D * ((lucA D x.1 x.2 (2 * (e / 2))).2 * x.2), (lucA D x.1 x.2 (2 * (e / 2))).1 * x.2 + (lucA D x.1 x.2 (2 * (e / 2))).2 * x.1) := rfl
        rw [show 2 * (e / 2) + 1 = e by omega] at h1
        rw [h1]
        exact ⟨(Nat.mod_mod _ _).trans (addmod (mulmod ih2.1 rfl) (mulmod rfl (mulmod ih2.2 rfl))), (Nat.mod_mod _ _).trans (addmod (mulmod ih2.1 rfl) (mulmod ih2.2 rfl))⟩
/-- a small prime, by trial -/
def smallB (p : Nat) : Nat → Nat → Bool
  | 0, _ => false
  | f + 1, d => bif Nat.blt p (d * d) then true else bif p % d == 0 then false else smallB p f (d + 1)
theorem small_prime (p f : Nat) (hp : 2 ≤ p) (h : smallB p f 2 = true) : IsPrime p := by
  have key : ∀ f d, smallB p f d = true → (∀ e, 2 ≤ e → e < d → ¬ e ∣ p) → ∀ e, 2 ≤ e → e * e ≤ p → ¬ e ∣ p := by
    intro f
    induction f with
    | zero => intro d h; simp [smallB] at h
    | succ f ih =>
      intro d h hlow e he hee hdv
      unfold smallB at h
      by_cases h1 : p < d * d
      · by_cases hed : e < d
        · exact hlow e he hed hdv
        · have := Nat.mul_le_mul (show d ≤ e by omega) (show d ≤ e by omega)
          omega
      · have hb : Nat.blt p (d * d) = false := by
          rw [Bool.eq_false_iff]
          intro h; exact h1 (Nat.le_of_ble_eq_true h)
        rw [hb, cond_false] at h
        cases hm : p % d == 0 with
        | true => rw [hm] at h; simp at h
        | false =>
          rw [hm, cond_false] at h
          refine ih (d + 1) h (fun e' h2 h3 => ?_) e he hee hdv
          by_cases h4 : e' < d
          · exact hlow e' h2 h4
          · have : e' = d := by omega
            rw [this]
            intro hd
            rw [Nat.mod_eq_zero_of_dvd hd] at hm
            simp at hm
  refine prime_of p hp fun r hr hd => ?_
  have := key f 2 h (fun e h1 h2 => by omega) r hr.1
  by_cases hlt : p < r * r
  · exact hlt
  · exact absurd hd (this (by omega))
/-- the primes of a product of two, of one more -/
theorem prime_dvd_one_more {q a : Nat} {l : List Nat} (hq : IsPrime q) (ha : IsPrime a) (h : q ∣ prodL (a :: l)) : q = a ∨ q ∣ prodL l := by
  rcases hq.dvd_mul h with h | h
  · rcases ha.2 q h with h1 | h1
    · have := hq.1; omega
    · exact .inl h1
  · exact .inr h
theorem prime_of_list {q : Nat} (hq : IsPrime q) : ∀ l : List Nat, (∀ x, x ∈ l → IsPrime x) → q ∣ prodL l → q ∈ l
  | [], _, h => by
    have h1 := Nat.le_of_dvd (show 0 < 1 by decide) (show q ∣ 1 from h)
    have := hq.1
    omega
  | a :: l, ha, h => by
    rcases prime_dvd_one_more hq (ha a (by simp)) h with h | h
    · simp [h]
    · exact List.mem_cons_of_mem _ (prime_of_list hq l (fun x hx => ha x (by simp [hx])) h)
/-- all that Pocklington asks, as one truth that is reckoned -/
def pockB (p b f : Nat) (l : List Nat) : Bool :=
  Nat.ble 2 p && Nat.blt p (prodL l * prodL l) && Nat.blt (prodL l) (2 ^ f) && (pwm p f b (prodL l) == 1 % p) && l.all (fun q => Nat.gcd (pwm p f b (prodL l / q) + (p - 1)) p == 1)
theorem pock_of (p b f : Nat) (l : List Nat) (hl : ∀ x, x ∈ l → IsPrime x) (h : pockB p b f l = true) : IsPrime p := by
  unfold pockB at h
  simp only [Bool.and_eq_true, Nat.ble_eq, beq_iff_eq, List.all_eq_true] at h
  obtain ⟨⟨⟨⟨h1, h2⟩, h3⟩, h4⟩, h5⟩ := h
  have h2' : p < prodL l * prodL l := Nat.le_of_ble_eq_true h2
  have h3' : prodL l < 2 ^ f := Nat.le_of_ble_eq_true h3
  rw [pwm_eq _ _ _ _ h3'] at h4
  refine pocklington p (prodL l) b h1 h2' h4 fun q hq hd => ?_
  have := h5 q (prime_of_list hq l hl hd)
  rw [pwm_eq _ _ _ _ (Nat.lt_of_le_of_lt (Nat.div_le_self _ _) h3')] at this
  exact this
def lucB (N q D u v f : Nat) : Bool :=
  Nat.ble 2 N && Nat.blt N (((q + 1) / 2) * ((q + 1) / 2)) && (Nat.gcd D N == 1) && ((u * u) % N == (1 + D * (v * v)) % N) && Nat.blt q (2 ^ f) && (lpw N D f (u, v) q == (1, 0)) && (Nat.gcd (u + (N - 1)) N == 1)
theorem luc_of (N q D u v f : Nat) (hq : IsPrime q) (h : lucB N q D u v f = true) : IsPrime N := by
  unfold lucB at h
  simp only [Bool.and_eq_true, Nat.ble_eq, beq_iff_eq] at h
  obtain ⟨⟨⟨⟨⟨⟨h1, h2⟩, h3⟩, h4⟩, h5⟩, h6⟩, h7⟩ := h
  have h2' : N < ((q + 1) / 2) * ((q + 1) / 2) := Nat.le_of_ble_eq_true h2
  have h5' : q < 2 ^ f := Nat.le_of_ble_eq_true h5
  refine lucas N q D u v h1 hq h2' h3 h4 ?_ h7
  have := lpw_eq N D f (u, v) q h5'
  rw [h6] at this
  exact ⟨this.1.symm, this.2.symm⟩
end Go.Proofs.YtjipcmmaemokhaaDoor.Prim
