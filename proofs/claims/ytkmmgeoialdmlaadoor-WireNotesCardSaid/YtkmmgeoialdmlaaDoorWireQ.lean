/- Messages, plain: what is written is read. -/
import Derived.Test.YtkmmgeoialdmlaaDoorWireP
namespace Go.Proofs.YtkmmgeoialdmlaaDoor
set_option linter.unusedVariables false

theorem parse_digits : ∀ (l : List UInt8) (acc k : Nat), l.all isDig = true → l.length + k ≤ 18 → acc < 10 ^ k → Lib.parseUint10 acc l = .ok (l.foldl (fun a b => 10 * a + (b.toNat - 48)) acc)
  | [], acc, k, _, _, _ => rfl
  | c :: r, acc, k, h, hl, ha => by
    rw [List.all_cons, Bool.and_eq_true, isDig_iff] at h
    rw [List.length_cons] at hl
    have hp : 10 ^ k ≤ 10 ^ 17 := Nat.pow_le_pow_right (by decide) (by omega)
    have h17 : (10 : Nat) ^ 17 = 100000000000000000 := by decide
    simp only [Lib.parseUint10]
    rw [if_pos h.1, if_neg (by omega), if_neg (by omega), parse_digits r _ (k + 1) h.2 (by omega) (by rw [Nat.pow_succ]; omega), List.foldl_cons, Nat.mul_comm]
/-- what Atoi answers, an error or not -/
def atoiN (l : List UInt8) : Int := match Lib.atoiAll l with | .ok v => v | .syntax => 0 | .range => Lib.atoiSat l
theorem atoi_digits (l : List UInt8) (h : l.all isDig = true) (h0 : l ≠ []) (hl : l.length ≤ 18) : Lib.atoiAll l = .ok (valD l : Int) := by
  obtain ⟨c, r, rfl⟩ := List.exists_cons_of_ne_nil h0
  have hc := h
  rw [List.all_cons, Bool.and_eq_true, isDig_iff] at hc
  have hp := parse_digits (c :: r) 0 0 h (by omega) (by decide)
  have hv : valD (c :: r) < 10 ^ 18 := by
    have := valD_digs (c :: r).length (valD (c :: r))
    rw [digs_valD _ _ rfl h] at this
    have h2 : valD (c :: r) < 10 ^ (c :: r).length := by rw [this]; exact Nat.mod_lt _ (Nat.pow_pos (by decide))
    exact Nat.lt_of_lt_of_le h2 (Nat.pow_le_pow_right (by decide) hl)
  have h18 : (10 : Nat) ^ 18 = 1000000000000000000 := by decide
  unfold Lib.atoiAll
  have hs : ¬ (c.toNat = 43 ∨ c.toNat = 45) := by omega
  have hm : Lib.parseMag (c :: r) = .ok (valD (c :: r)) := by
    unfold Lib.parseMag
    rw [if_neg (by simp), hp]; rfl
  have h45 : ¬ c.toNat = 45 := by omega
  simp only [if_neg hs, hm]
  rw [if_neg (by omega), if_neg (by omega), if_neg h45]
/-- so many bytes, or what there is -/
def takeL (n : Int) (l : List UInt8) : List UInt8 × List UInt8 := (l.take (max 0 (min n l.length)).toNat, l.drop (max 0 (min n l.length)).toNat)
theorem takeL_app (a b : List UInt8) : takeL (a.length : Int) (a ++ b) = (a, b) := by
  have e : (max 0 (min (a.length : Int) ((a ++ b).length : Nat))).toNat = a.length := by rw [List.length_append]; omega
  unfold takeL
  rw [e]
  simp
def numL (k : Nat) (l : List UInt8) : Int × List UInt8 := (atoiN (takeL k l).1, (takeL k l).2)
theorem numL_app (n k : Nat) (b : List UInt8) (h1 : 1 ≤ k) (h : n < 10 ^ k) (hk : k ≤ 18) : numL k (digs n k ++ b) = ((n : Int), b) := by
  have ht : takeL (k : Int) (digs n k ++ b) = (digs n k, b) := by
    have := takeL_app (digs n k) b
    rwa [digs_length] at this
  unfold numL
  rw [ht]
  have hne : digs n k ≠ [] := by intro e; have := congrArg List.length e; rw [digs_length] at this; simp at this; omega
  rw [atoiN, atoi_digits _ (digs_all k n) hne (by rw [digs_length]; exact hk), valD_digs, Nat.mod_eq_of_lt h]
def partL (n : Nat) (l : List UInt8) : List UInt8 × List UInt8 := if 0 < fahead n then takeL (numL (fahead n) l).1 (numL (fahead n) l).2 else takeL (fmost n) l
theorem partL_app (n : Nat) (h1 : 1 ≤ n) (h16 : n ≤ 16) (s : ByteArray) (b : List UInt8) (h : takesB n s = true) : partL n (fieldL ((n : Int), s) ++ b) = (s.data.toList, b) := by
  obtain ⟨t1, t2⟩ := takes_ahead n h1 h16 s h
  have hz : s.data.toList.length = s.size := by rw [Array.length_toList]; rfl
  unfold partL fieldL aheadL
  simp only [Int.toNat_natCast]
  by_cases h0 : 0 < fahead n
  · have ha : fahead n ≤ 18 := by
      have : ∀ m : Fin 17, fahead m.val ≤ 18 := by decide
      exact this ⟨n, by omega⟩
    rw [if_pos h0, List.append_assoc, numL_app _ _ _ (by omega) (t1 h0) ha]
    have := takeL_app s.data.toList b
    rwa [hz] at this
  · have e0 : fahead n = 0 := by omega
    rw [if_neg h0, e0]
    have := takeL_app s.data.toList b
    rw [hz, t2 e0] at this
    exact this
def readP : Nat → Nat → Nat → List UInt8 → List Prt
  | 0, _, _, _ => []
  | f + 1, n, bits, l => if bits / 2 ^ (16 - n) % 2 = 1 then ((n : Int), ⟨(partL n l).1.toArray⟩) :: readP f (n + 1) bits (partL n l).2 else readP f (n + 1) bits l
def bitsL (l : List UInt8) : Nat := l.foldl (fun a b => a * 256 + b.toNat) 0
def msgP (l : List UInt8) : Int × List Prt := ((numL 2 l).1, readP 16 1 (bitsL (takeL 2 (numL 2 l).2).1) (takeL 2 (numL 2 l).2).2)
theorem good_cons {last : Int} {p : Prt} {r : List Prt} (h : goodP last (p :: r) = true) : last < p.1 ∧ p.1 ≤ 16 ∧ takesB p.1.toNat p.2 = true ∧ goodP p.1 r = true := by
  simp only [goodP, Bool.and_eq_true, decide_eq_true_eq] at h
  exact ⟨h.1.1.1, h.1.1.2, h.1.2, h.2⟩
theorem mapN_lt : ∀ (ps : List Prt) (n : Nat), goodP (n : Int) ps = true → n ≤ 16 → mapN ps < 2 ^ (16 - n)
  | [], n, _, _ => Nat.pow_pos (by decide)
  | p :: r, n, h, hn => by
    obtain ⟨h1, h2, _, h4⟩ := good_cons h
    obtain ⟨m, hm⟩ : ∃ m : Nat, p.1 = (m : Int) := ⟨p.1.toNat, by omega⟩
    rw [hm] at h1 h2 h4
    have := mapN_lt r m h4 (by omega)
    have e : mapN (p :: r) = 2 ^ (16 - m) + mapN r := by simp [mapN, bitN, hm]
    have hpow : 2 ^ (16 - n) = 2 ^ (16 - m + 1) * 2 ^ (m - n - 1) := by rw [← Nat.pow_add]; congr 1; omega
    have hp2 : 1 ≤ 2 ^ (m - n - 1) := Nat.one_le_pow _ _ (by decide)
    have hle : 2 ^ (16 - m + 1) ≤ 2 ^ (16 - n) := by rw [hpow]; exact Nat.le_mul_of_pos_right _ hp2
    rw [Nat.pow_succ] at hle
    omega
theorem good_mono {a b : Int} {ps : List Prt} (h : goodP b ps = true) (hab : a ≤ b) : goodP a ps = true := by
  cases ps with
  | nil => rfl
  | cons p r =>
    obtain ⟨h1, h2, h3, h4⟩ := good_cons h
    simp only [goodP, Bool.and_eq_true, decide_eq_true_eq]
    exact ⟨⟨⟨by omega, h2⟩, h3⟩, h4⟩
theorem readP_body : ∀ (f n bits : Nat) (ps : List Prt), n + f = 17 → 1 ≤ n → goodP ((n - 1 : Nat) : Int) ps = true → bits % 2 ^ (17 - n) = mapN ps → readP f n bits (bodyL ps) = ps
  | 0, n, bits, ps, hn, _, hg, _ => by
    have : n = 17 := by omega
    subst this
    cases ps with
    | nil => rfl
    | cons p r => have := (good_cons hg).1; have := (good_cons hg).2.1; omega
  | f + 1, n, bits, ps, hn, h1, hg, hb => by
    have hpow : 2 ^ (17 - n) = 2 ^ (16 - n) * 2 := by rw [← Nat.pow_succ]; congr 1; omega
    have hq : bits / 2 ^ (16 - n) % 2 = mapN ps / 2 ^ (16 - n) := by rw [← hb, hpow, Nat.mod_mul_right_div_self]
    have hr : bits % 2 ^ (17 - (n + 1)) = mapN ps % 2 ^ (16 - n) := by
      rw [show 17 - (n + 1) = 16 - n by omega, ← hb, hpow, Nat.mod_mul_right_mod]
    simp only [readP]
    rw [hq]
    have hpos : 0 < 2 ^ (16 - n) := Nat.pow_pos (by decide)
    by_cases hh : ∃ p r, ps = p :: r ∧ p.1 = (n : Int)
    · obtain ⟨p, r, rfl, hp⟩ := hh
      obtain ⟨g1, g2, g3, g4⟩ := good_cons hg
      obtain ⟨pn, s⟩ := p
      simp only at hp g1 g2 g3 g4
      subst hp
      have hm := mapN_lt r n g4 (by omega)
      have e : mapN (((n : Int), s) :: r) = 2 ^ (16 - n) + mapN r := by simp [mapN, bitN]
      rw [e] at hr ⊢
      have hdiv : (2 ^ (16 - n) + mapN r) / 2 ^ (16 - n) = 1 := by
        rw [Nat.add_div_left _ hpos, Nat.div_eq_of_lt hm]
      rw [if_pos hdiv]
      have hbody : bodyL (((n : Int), s) :: r) = fieldL ((n : Int), s) ++ bodyL r := by simp [bodyL]
      rw [hbody, partL_app n h1 (by omega) s _ (by simpa using g3)]
      simp only
      rw [readP_body f (n + 1) bits r (by omega) (by omega) (by simpa using g4) (by rw [hr, Nat.add_mod_left, Nat.mod_eq_of_lt hm])]
    · have hg' : goodP (n : Int) ps = true := by
        cases ps with
        | nil => rfl
        | cons p r =>
          obtain ⟨g1, g2, g3, g4⟩ := good_cons hg
          have hne : p.1 ≠ (n : Int) := fun e => hh ⟨p, r, rfl, e⟩
          simp only [goodP, Bool.and_eq_true, decide_eq_true_eq]
          exact ⟨⟨⟨by omega, g2⟩, g3⟩, g4⟩
      have hm := mapN_lt ps n hg' (by omega)
      rw [Nat.div_eq_of_lt hm, if_neg (by decide)]
      exact readP_body f (n + 1) bits ps (by omega) (by omega) (by simpa using hg') (by rw [hr, Nat.mod_eq_of_lt hm])
/-- WHAT IS WRITTEN IS READ -/
theorem msgP_pack (kind : Int) (ps : List Prt) (h : packE kind ps = 0) : msgP (packL kind ps) = (kind, ps) := by
  have hk : ¬ (kind < 0 ∨ 99 < kind) := by intro hx; rw [packE, if_pos hx] at h; cases h
  have hg : goodP 0 ps = true := by
    rw [packE, if_neg hk] at h
    cases hb : goodP 0 ps with
    | true => rfl
    | false => rw [hb] at h; cases h
  have hm := mapN_lt ps 0 hg (by omega)
  have h16 : (2 : Nat) ^ (16 - 0) = 65536 := by decide
  obtain ⟨k, rfl⟩ : ∃ k : Nat, kind = (k : Int) := ⟨kind.toNat, by omega⟩
  have e1 : numL 2 (packL (k : Int) ps) = ((k : Int), [UInt8.ofNat (mapN ps / 256), UInt8.ofNat (mapN ps % 256)] ++ bodyL ps) := by
    unfold packL
    rw [List.append_assoc, Int.toNat_natCast]
    exact numL_app k 2 _ (by decide) (by omega) (by decide)
  unfold msgP
  rw [e1]
  simp only
  have e2 := takeL_app [UInt8.ofNat (mapN ps / 256), UInt8.ofNat (mapN ps % 256)] (bodyL ps)
  have e3 : (([UInt8.ofNat (mapN ps / 256), UInt8.ofNat (mapN ps % 256)] : List UInt8).length : Int) = 2 := rfl
  rw [e3] at e2
  rw [e2]
  have e4 : bitsL [UInt8.ofNat (mapN ps / 256), UInt8.ofNat (mapN ps % 256)] = mapN ps := by
    simp only [bitsL, List.foldl_cons, List.foldl_nil, UInt8.toNat_ofNat']
    omega
  rw [e4, readP_body 16 1 (mapN ps) ps (by omega) (by omega) hg (by rw [show 17 - 1 = 16 - 0 by omega]; exact Nat.mod_eq_of_lt hm)]
end Go.Proofs.YtkmmgeoialdmlaaDoor
