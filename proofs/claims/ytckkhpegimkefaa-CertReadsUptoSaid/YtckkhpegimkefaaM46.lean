/- Div64 by 3, of two words. Made by drafts/genNumPs.py. -/
import Derived.Test.YtckkhpegimkefaaM45
import Derived.Deep.DeepCutAuto
import Derived.Test.YtckkhpegimkefaaM12
import Derived.Deep.RegionHeld3
namespace Go.Proofs.Ytckkhpegimkefaa
open Go.RowKit Go.Shelf
set_option linter.unusedVariables false
set_option linter.unusedSimpArgs false
set_option maxRecDepth 100000

theorem retPN {a b c d : Int} (h1 : a = c) (h2 : b = d) : Ending.returned (.tuple #[.int .u64 a, .int .u64 b]) = .returned (.tuple #[.int .u64 c, .int .u64 d]) := by rw [h1, h2]
theorem intN {a b : Int} (h : a = b) : Value.int .u64 a = .int .u64 b := by rw [h]
end Go.Proofs.Ytckkhpegimkefaa
namespace Go.Proofs.Ytckkhpegimkefaa
open Go.RowKit Go.Shelf
set_option linter.unusedVariables false
set_option linter.unusedSimpArgs false
set_option maxRecDepth 100000

theorem drop_consN {xs : List Nat} {j x : Nat} (h : xs[j]? = some x) : xs.drop j = x :: xs.drop (j + 1) := by
  have hj : j < xs.length := (List.getElem?_eq_some_iff.1 h).1
  rw [List.drop_eq_getElem_cons hj]
  congr 1
  rw [List.getElem?_eq_getElem hj] at h
  exact Option.some.inj h
/-- one word more -/
theorem div_step {x N : Nat} (hx : x < B64) : (N % 3 * B64 + x) / 3 < B64 ∧ (x + B64 * N) / 3 = (N % 3 * B64 + x) / 3 + B64 * (N / 3) ∧ (x + B64 * N) % 3 = (N % 3 * B64 + x) % 3 := by
  unfold B64 at *
  omega
end Go.Proofs.Ytckkhpegimkefaa
namespace Go.Proofs.Ytckkhpegimkefaa
open Go.RowKit Go.Shelf
set_option linter.unusedVariables false
set_option linter.unusedSimpArgs false
set_option maxRecDepth 100000

theorem third_room {N n : Nat} (h : N < B64 ^ n) : 1 + (3 - N % 3) * N < B64 ^ (n + 1) := by
  rw [Nat.pow_succ]
  generalize B64 ^ n = P at *
  have h3 : 3 - N % 3 ≤ 3 := by omega
  have h4 : (3 - N % 3) * N ≤ 3 * N := Nat.mul_le_mul_right _ h3
  unfold B64
  omega
end Go.Proofs.Ytckkhpegimkefaa
namespace Go.Proofs.Ytckkhpegimkefaa
open Go.RowKit Go.Shelf
set_option linter.unusedVariables false
set_option linter.unusedSimpArgs false
set_option maxRecDepth 100000

theorem bigL_last (n : Nat) : ∀ k, (bigL n (k + 1))[k]? = some ((n % 256 : Nat) : Int)
  | 0 => by simp [bigL]
  | k + 1 => by
    have := bigL_last n k
    rw [bigL, List.getElem?_cons_succ]
    exact this
/-- the modulus of a product, if it is one, is odd -/
theorem mod_odd {n k : Nat} (h : isModB (strOfNums (bigL n k)) = true) : n % 2 = 1 := by
  unfold isModB at h
  simp only [Bool.and_eq_true, decide_eq_true_eq] at h
  obtain ⟨⟨⟨h40, _⟩, _⟩, ho⟩ := h
  rw [strOfNums_size, bigL_length] at h40
  obtain ⟨j, rfl⟩ : ∃ j, k = j + 1 := ⟨k - 1, by omega⟩
  rw [strOfNums_data, List.getLastD_eq_getLast?, List.getLast?_eq_getElem?, List.length_map, bigL_length, Nat.add_sub_cancel, List.getElem?_map, bigL_last] at ho
  simp at ho
  omega
theorem dec_row {r : List Nat} {x : Nat} (h0 : r[0]? = some x) (hr : okW r) (ho : natW r % 2 = 1) : 1 ≤ x ∧ natW (r.set 0 (x - 1)) = natW r - 1 ∧ okW (r.set 0 (x - 1)) := by
  cases r with
  | nil => cases h0
  | cons y t =>
    obtain rfl : y = x := by simpa using h0
    have e : natW (y :: t) = y + B64 * natW t := rfl
    have hx := okW_get hr h0
    have h1 : 1 ≤ y := by
      rw [e] at ho
      unfold B64 at ho
      omega
    refine ⟨h1, ?_, okW_set hr 0 _ (by omega)⟩
    rw [List.set_cons_zero, e]
    show y - 1 + B64 * natW t = _
    omega
theorem odd_mul {a b : Nat} (h : a * b % 2 = 1) : a % 2 = 1 ∧ b % 2 = 1 := by
  rw [Nat.mul_mod] at h
  rcases Nat.mod_two_eq_zero_or_one a with ha | ha <;> rcases Nat.mod_two_eq_zero_or_one b with hb | hb <;> rw [ha, hb] at h <;> simp_all
end Go.Proofs.Ytckkhpegimkefaa
namespace Go.Proofs.Ytckkhpegimkefaa
open Go.RowKit Go.Shelf
set_option linter.unusedVariables false
set_option linter.unusedSimpArgs false
set_option maxRecDepth 100000

def noneO (k : Int) : Ending := .returned (.tuple #[.string ⟨#[]⟩, .slice none 0 0, .int .i64 k])
/-- what comes of a secret: of its two numbers a and b -/
inductive OpenPost (a b : Nat) (f : Bool) (w : World) (e : Ending) (w' : World) : Prop where
  | form (hf : f = false) (he : e = noneO 1) : OpenPost a b f w e w'
  | mod (L : Nat) (hf : f = true) (hL : IsLenW (a * b) L) (hm : isModB (strOfNums (bigL (a * b) ((L + 7) / 8))) = false) (he : e = noneO 1) : OpenPost a b f w e w'
  | third (L : Nat) (hf : f = true) (hL : IsLenW (a * b) L) (hm : isModB (strOfNums (bigL (a * b) ((L + 7) / 8))) = true) (h3 : (a - 1) * (b - 1) % 3 = 0) (he : e = noneO 5) : OpenPost a b f w e w'
  | ok (L g : Nat) (row : List Nat) (hf : f = true) (hL : IsLenW (a * b) L) (hm : isModB (strOfNums (bigL (a * b) ((L + 7) / 8))) = true) (h3 : (a - 1) * (b - 1) % 3 ≠ 0)
      (he : e = .returned (.tuple #[.string (strOfNums (bigL (a * b) ((L + 7) / 8))), .slice (some ⟨g, 0, none⟩) row.length row.length, .int .i64 0])) (hU : URow w' g row) (ho : okW row) (hg : w.heap.size ≤ g)
      (hn : natW row = (1 + (3 - (a - 1) * (b - 1) % 3) * ((a - 1) * (b - 1))) / 3) (hlr : row.length ≤ 100) : OpenPost a b f w e w'
theorem len_room {L l : Nat} (h : L ≤ 64 * l) : (L + 7) / 8 ≤ 8 * l := by omega
end Go.Proofs.Ytckkhpegimkefaa
namespace Go.Proofs.Ytckkhpegimkefaa
open Go.RowKit Go.Shelf
set_option linter.unusedVariables false
set_option linter.unusedSimpArgs false
set_option maxRecDepth 100000

/-- how many bits a number has -/
def lenBN (n : Nat) : Nat := if n = 0 then 0 else n.log2 + 1
theorem isLen_lenBN {n L : Nat} (h : IsLenW n L) : L = lenBN n := by
  obtain ⟨h1, h2⟩ := h
  unfold lenBN
  by_cases h0 : n = 0
  · rw [if_pos h0]
    rcases h2 with h2 | h2
    · exact h2
    · have := Nat.two_pow_pos (L - 1)
      omega
  · rw [if_neg h0]
    have hL : 1 ≤ L := by
      rcases Nat.eq_zero_or_pos L with hz | hz
      · subst hz; simp at h1; omega
      · exact hz
    rcases h2 with h2 | h2
    · omega
    · have : n.log2 = L - 1 := (Nat.log2_eq_iff h0).2 ⟨h2, by rw [Nat.sub_add_cancel hL]; exact h1⟩
      omega
/-- the modulus that two numbers make; what is wrong with a secret; its modulus -/
def secT (a b : Nat) : ByteArray := strOfNums (bigL (a * b) ((lenBN (a * b) + 7) / 8))
def secE (p q : ByteArray) : Int := bif isFacB p && isFacB q then (bif isModB (secT (valN p.data.toList) (valN q.data.toList)) then (if (valN p.data.toList - 1) * (valN q.data.toList - 1) % 3 = 0 then 5 else 0) else 1) else 1
def secM (p q : ByteArray) : ByteArray := if secE p q = 0 then secT (valN p.data.toList) (valN q.data.toList) else ⟨#[]⟩
theorem open_first {p q : ByteArray} {w w' : World} {e : Ending} (h : OpenPost (valN p.data.toList) (valN q.data.toList) (isFacB p && isFacB q) w e w') : ∃ v, e = .returned (.tuple #[.string (secM p q), v, .int .i64 (secE p q)]) := by
  cases h with
  | form hf he =>
    have hE : secE p q = 1 := by unfold secE; rw [hf]; rfl
    have hM : secM p q = ⟨#[]⟩ := by unfold secM; rw [hE]; rfl
    rw [hE, hM]; exact ⟨_, he⟩
  | mod L hf hL hm he =>
    rw [isLen_lenBN hL] at hm
    have hE : secE p q = 1 := by unfold secE secT; rw [hf, hm]; rfl
    have hM : secM p q = ⟨#[]⟩ := by unfold secM; rw [hE]; rfl
    rw [hE, hM]; exact ⟨_, he⟩
  | third L hf hL hm h3 he =>
    rw [isLen_lenBN hL] at hm
    have hE : secE p q = 5 := by unfold secE secT; rw [hf, hm, if_pos h3]; rfl
    have hM : secM p q = ⟨#[]⟩ := by unfold secM; rw [hE]; rfl
    rw [hE, hM]; exact ⟨_, he⟩
  | ok L g row hf hL hm h3 he hU ho hg hn hlr =>
    rw [isLen_lenBN hL] at hm he
    have hE : secE p q = 0 := by unfold secE secT; rw [hf, hm, if_neg h3]; rfl
    have hM : secM p q = secT (valN p.data.toList) (valN q.data.toList) := by unfold secM; rw [if_pos hE]
    rw [hE, hM]; exact ⟨_, he⟩
end Go.Proofs.Ytckkhpegimkefaa
