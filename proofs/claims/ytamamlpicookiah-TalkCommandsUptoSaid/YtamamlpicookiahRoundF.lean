/- What PrintFields wrote ParseFields reads: plain. -/
import Derived.Test.YtamamlpicookiahRParse0
namespace Go.Proofs.Ytamamlpicookiah
open Go.RowKit
set_option linter.unusedVariables false

theorem strOfNums_list (xs : List Int) : (strOfNums xs).data.toList = xs.map fun n => UInt8.ofNat n.toNat := by simp [strOfNums]
theorem foldl_bigL (n : Nat) : ∀ (k a : Nat), ((bigL n k).map fun z => UInt8.ofNat z.toNat).foldl (fun m b => m * 256 + b.toNat) a = a * 256 ^ k + n % 256 ^ k
  | 0, a => by simp [bigL, Nat.mod_one]
  | k + 1, a => by
    have e : bigL n (k + 1) = ((n / 256 ^ k % 256 : Nat) : Int) :: bigL n k := rfl
    rw [e, List.map_cons, List.foldl_cons, foldl_bigL n k]
    have h8 : (UInt8.ofNat (((n / 256 ^ k % 256 : Nat) : Int)).toNat).toNat = n / 256 ^ k % 256 := by
      rw [Int.toNat_natCast]; exact UInt8.toNat_ofNat_of_lt' (Nat.mod_lt _ (by decide))
    rw [h8, Nat.pow_succ, Nat.mod_mul, Nat.add_mul]
    have : a * 256 * 256 ^ k = a * (256 ^ k * 256) := by rw [Nat.mul_assoc, Nat.mul_comm 256]
    rw [this, Nat.mul_comm (256 ^ k) (n / 256 ^ k % 256)]
    omega
theorem valN_bigL (n k : Nat) (h : n < 256 ^ k) : valN ((bigL n k).map fun z => UInt8.ofNat z.toNat) = n := by
  unfold valN; rw [foldl_bigL, Nat.mod_eq_of_lt h]; simp
theorem lt_tagLen (t : Nat) (h : t < 16777216) : t < 256 ^ tagLen t := by
  unfold tagLen; split
  · simpa using ‹_›
  · split
    · simpa using ‹_›
    · simpa using h

theorem parse_text (fs : List (Int × Int)) : ∀ n, fs.all okF = true → fs.length ≤ n → parseL n ((textL fs).map fun z => UInt8.ofNat z.toNat) = some fs := by
  induction fs with
  | nil => intro n _ _; cases n <;> simp [textL, parseL]
  | cons f fs ih =>
    intro n hok hn
    obtain ⟨m, rfl⟩ : ∃ m, n = m + 1 := ⟨n - 1, by simp at hn; omega⟩
    rw [List.all_cons, Bool.and_eq_true] at hok
    obtain ⟨hf, hr⟩ := hok
    have ih' := ih m hr (by simpa using hn)
    obtain ⟨t, ln⟩ := f
    unfold okF at hf
    simp only [Bool.and_eq_true, Bool.not_eq_true', decide_eq_true_eq] at hf
    obtain ⟨hv, hm, h0, h255⟩ := hf
    have hlt := validB_lt hv
    obtain ⟨k, rfl⟩ : ∃ k : Nat, t = (k : Int) := ⟨t.toNat, by omega⟩
    obtain ⟨y, rfl⟩ : ∃ y : Nat, ln = (y : Int) := ⟨ln.toNat, by omega⟩
    rw [Int.toNat_natCast] at hm
    have hsp : (textL (((k : Int), (y : Int)) :: fs)).map (fun z => UInt8.ofNat z.toNat) = (bigL k (tagLen k)).map (fun z => UInt8.ofNat z.toNat) ++ (UInt8.ofNat y :: (textL fs).map fun z => UInt8.ofNat z.toNat) := by
      simp [textL, tagL]
    rw [hsp]
    have hb := valN_bigL k (tagLen k) (lt_tagLen k (by omega))
    have hlen : ((bigL k (tagLen k)).map fun z => UInt8.ofNat z.toNat).length = tagLen k := by rw [List.length_map, bigL_length]
    generalize (bigL k (tagLen k)).map (fun z => UInt8.ofNat z.toNat) = bs at *
    generalize (textL fs).map (fun z => UInt8.ofNat z.toNat) = r at *
    obtain ⟨e1, e2⟩ := tag_text_back k (UInt8.ofNat y :: r) hv bs hlen hb
    have hne : bs ++ UInt8.ofNat y :: r ≠ [] := by simp
    have hfa : fieldAt (bs ++ UInt8.ofNat y :: r) = some (((k : Int), (y : Int)), r) := by
      unfold fieldAt
      rw [e1, e2, hb, if_pos ⟨by simp; omega, hv, hm⟩, ← hlen]
      have h8 : (UInt8.ofNat y).toNat = y := UInt8.toNat_ofNat_of_lt' (by show y < 256; omega)
      simp [List.getD_eq_getElem?_getD, h8]
    rw [parseL, if_neg hne, hfa]
    simp only [ih', Option.map_some]

theorem round_text (fs : List (Int × Int)) (he : fieldsE fs = 0) : parseL 100 (printS fs).data.toList = some fs := by
  unfold printS
  rw [if_pos he, strOfNums_list]
  have := fieldsE_zero he
  exact parse_text fs 100 this.1 this.2
theorem print_empty (fs : List (Int × Int)) (he : fieldsE fs ≠ 0) : printS fs = ⟨#[]⟩ ∧ 0 < fs.length := by
  refine ⟨by unfold printS; rw [if_neg he], ?_⟩
  cases fs with
  | nil => exact absurd rfl he
  | cons a b => simp
end Go.Proofs.Ytamamlpicookiah
