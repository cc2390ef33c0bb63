/- Pack, plain: prefixes. -/
import Derived.Test.YtkmmgeoialdmlaaDoorWireO
namespace Go.Proofs.YtkmmgeoialdmlaaDoor
open Go.RowKit
set_option linter.unusedVariables false

def lastOf : Int → List Prt → Int
  | last, [] => last
  | _, p :: r => lastOf p.1 r
theorem lastOf_snoc (last : Int) (a : List Prt) (p : Prt) : lastOf last (a ++ [p]) = p.1 := by
  induction a generalizing last with
  | nil => rfl
  | cons x r ih => exact ih x.1
theorem goodP_app (last : Int) (a b : List Prt) : goodP last (a ++ b) = (goodP last a && goodP (lastOf last a) b) := by
  induction a generalizing last with
  | nil => simp [goodP, lastOf]
  | cons x r ih =>
    simp only [List.cons_append, goodP, lastOf, ih]
    simp only [Bool.and_assoc]
theorem last_ge {last : Int} {a : List Prt} (h : goodP last a = true) : last ≤ lastOf last a := by
  induction a generalizing last with
  | nil => exact Int.le_refl _
  | cons x r ih =>
    obtain ⟨h1, _, _, h4⟩ := good_cons h
    have := ih h4
    simp only [lastOf]
    omega
theorem last_le {last : Int} {a : List Prt} (h : goodP last a = true) (hl : last ≤ 16) : lastOf last a ≤ 16 := by
  induction a generalizing last with
  | nil => exact hl
  | cons x r ih =>
    obtain ⟨_, h2, _, h4⟩ := good_cons h
    exact ih h4 h2
theorem good_len {last : Int} {a : List Prt} (h : goodP last a = true) : (a.length : Int) ≤ lastOf last a - last := by
  induction a generalizing last with
  | nil => simp [lastOf]
  | cons x r ih =>
    obtain ⟨h1, _, _, h4⟩ := good_cons h
    have := ih h4
    simp only [lastOf, List.length_cons]
    omega
/-- all bits lie above those behind the last one -/
theorem mapN_mod {last : Nat} {a : List Prt} (h : goodP (last : Int) a = true) (n : Nat) (hn : lastOf (last : Int) a < (n : Int)) (h16 : n ≤ 16) : mapN a % 2 ^ (17 - n) = 0 := by
  induction a generalizing last with
  | nil => simp [mapN]
  | cons x r ih =>
    obtain ⟨h1, h2, _, h4⟩ := good_cons h
    obtain ⟨m, hm⟩ : ∃ m : Nat, x.1 = (m : Int) := ⟨x.1.toNat, by omega⟩
    simp only [lastOf] at hn
    rw [hm] at h4 hn
    have hge := last_ge h4
    have e : mapN (x :: r) = 2 ^ (16 - m) + mapN r := by simp [mapN, bitN, hm]
    have hd : 2 ^ (16 - m) % 2 ^ (17 - n) = 0 := by
      have : 2 ^ (16 - m) = 2 ^ (17 - n) * 2 ^ (n - 1 - m) := by rw [← Nat.pow_add]; congr 1; omega
      rw [this, Nat.mul_mod_right]
    rw [e, Nat.add_mod, hd, ih h4 hn]
    simp
theorem map_or (T n : Nat) (h16 : n ≤ 16) (h : T % 2 ^ (17 - n) = 0) (hT : T < 65536) : bits .or .i64 (T : Int) ((bitN n : Nat) : Int) = ((T + bitN n : Nat) : Int) := by
  have hp : bitN n < 2 ^ 63 := Nat.pow_lt_pow_right (by decide) (by omega)
  rw [or_natW T (bitN n) (by omega) hp]
  congr 1
  have hT2 : T = (T / 2 ^ (17 - n)) <<< (17 - n) := by
    rw [Nat.shiftLeft_eq]
    have := Nat.div_add_mod T (2 ^ (17 - n))
    rw [h, Nat.add_zero, Nat.mul_comm] at this
    exact this.symm
  have hlt : bitN n < 2 ^ (17 - n) := Nat.pow_lt_pow_right (by decide) (by omega)
  rw [hT2, ← Nat.shiftLeft_add_eq_or_of_lt hlt]
theorem mapN_snoc (a : List Prt) (p : Prt) : mapN (a ++ [p]) = mapN a + bitN p.1.toNat := by simp [mapN]
theorem bodyL_snoc (a : List Prt) (p : Prt) : bodyL (a ++ [p]) = bodyL a ++ fieldL p := by simp [bodyL]
theorem numS_ahead (n : Nat) (h1 : 1 ≤ n) (h16 : n ≤ 16) (s : ByteArray) (h : takesB n s = true) (h0 : 0 < fahead n) : (numS (s.size : Int) (fahead n)).data.toList = aheadL n s := by
  have hlt := (takes_ahead n h1 h16 s h).1 h0
  obtain ⟨k, hk⟩ : ∃ k, fahead n = k + 1 := ⟨fahead n - 1, by omega⟩
  unfold numS aheadL Lib.itoa zero48
  rw [if_neg (by omega), Int.toNat_natCast, decDigits_length, hk, ByteArray.data_append, Array.toList_append]
  rw [hk] at hlt
  exact number_digs k s.size hlt
theorem takes_size (n : Nat) (h1 : 1 ≤ n) (h16 : n ≤ 16) (s : ByteArray) (h : takesB n s = true) : s.size ≤ 9999 := by
  rw [takesB, Bool.and_eq_true, Bool.or_eq_true, Bool.and_eq_true] at h
  have hm : fmost n ≤ 9999 := by
    have : ∀ m : Fin 17, fmost m.val ≤ 9999 := by decide
    exact this ⟨n, by omega⟩
  rcases h.1 with h2 | h2
  · have := of_decide_eq_true h2; omega
  · have := of_decide_eq_true h2.1; omega
theorem body_len {last : Int} {a : List Prt} (h0 : 0 ≤ last) (h : goodP last a = true) : (bodyL a).length ≤ 10003 * a.length := by
  induction a generalizing last with
  | nil => simp [bodyL]
  | cons x r ih =>
    obtain ⟨h1, h2, h3, h4⟩ := good_cons h
    have := ih (by omega) h4
    have hs := takes_size x.1.toNat (by omega) (by omega) x.2 h3
    have ha : fahead x.1.toNat ≤ 4 := by
      have : ∀ m : Fin 17, fahead m.val ≤ 4 := by decide
      exact this ⟨x.1.toNat, by omega⟩
    have e : bodyL (x :: r) = fieldL x ++ bodyL r := by simp [bodyL]
    have hf : (fieldL x).length = fahead x.1.toNat + x.2.size := by
      unfold fieldL aheadL
      rw [List.length_append, digs_length, Array.length_toList]; rfl
    rw [e, List.length_append, List.length_cons, hf]
    omega
end Go.Proofs.YtkmmgeoialdmlaaDoor
