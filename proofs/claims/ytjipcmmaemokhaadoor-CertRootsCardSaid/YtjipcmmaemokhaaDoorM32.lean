/- Modulus of the program. -/
import Derived.Test.YtjipcmmaemokhaaDoorM31
import Derived.Test.YtjipcmmaemokhaaDoorM22
import Derived.Test.YtjipcmmaemokhaaDoorM24
import Derived.Test.YtjipcmmaemokhaaDoorM25
import Derived.Deep.DeepCutAuto
import Derived.Deep.RegionHeld3
namespace Go.Proofs.YtjipcmmaemokhaaDoor
open Go.RowKit Go.Shelf
set_option linter.unusedVariables false
set_option linter.unusedSimpArgs false
set_option maxRecDepth 100000

/-- how many bits a number has -/
def lenBN (n : Nat) : Nat := if n = 0 then 0 else n.log2 + 1
theorem isLen_lenBN {n L : Nat} (h : IsLenW n L) : L = lenBN n := by
  obtain ⟨h1, h2⟩ := h
  unfold lenBN
  by_cases h0 : n = 0
  · rw [if_pos h0]
    rcases h2 with h2 | h2
    · exact h2
    · have := Nat.two_pow_pos (L - 1)
      omega
  · rw [if_neg h0]
    have hL : 1 ≤ L := by
      rcases Nat.eq_zero_or_pos L with hz | hz
      · subst hz; simp at h1; omega
      · exact hz
    rcases h2 with h2 | h2
    · omega
    · have : n.log2 = L - 1 := (Nat.log2_eq_iff h0).2 ⟨h2, by rw [Nat.sub_add_cancel hL]; exact h1⟩
      omega
/-- the modulus that two numbers make; what is wrong with a secret; its modulus -/
def secT (a b : Nat) : ByteArray := strOfNums (bigL (a * b) ((lenBN (a * b) + 7) / 8))
def secE (p q : ByteArray) : Int := bif isFacB p && isFacB q then (bif isModB (secT (valN p.data.toList) (valN q.data.toList)) then (if (valN p.data.toList - 1) * (valN q.data.toList - 1) % 3 = 0 then 5 else 0) else 1) else 1
def secM (p q : ByteArray) : ByteArray := if secE p q = 0 then secT (valN p.data.toList) (valN q.data.toList) else ⟨#[]⟩
theorem open_first {p q : ByteArray} {w w' : World} {e : Ending} (h : OpenPost (valN p.data.toList) (valN q.data.toList) (isFacB p && isFacB q) w e w') : ∃ v, e = .returned (.tuple #[.string (secM p q), v, .int .i64 (secE p q)]) := by
  cases h with
  | form hf he =>
    have hE : secE p q = 1 := by unfold secE; rw [hf]; rfl
    have hM : secM p q = ⟨#[]⟩ := by unfold secM; rw [hE]; rfl
    rw [hE, hM]; exact ⟨_, he⟩
  | mod L hf hL hm he =>
    rw [isLen_lenBN hL] at hm
    have hE : secE p q = 1 := by unfold secE secT; rw [hf, hm]; rfl
    have hM : secM p q = ⟨#[]⟩ := by unfold secM; rw [hE]; rfl
    rw [hE, hM]; exact ⟨_, he⟩
  | third L hf hL hm h3 he =>
    rw [isLen_lenBN hL] at hm
    have hE : secE p q = 5 := by unfold secE secT; rw [hf, hm, if_pos h3]; rfl
    have hM : secM p q = ⟨#[]⟩ := by unfold secM; rw [hE]; rfl
    rw [hE, hM]; exact ⟨_, he⟩
  | ok L g row hf hL hm h3 he hU ho hg hn hlr =>
    rw [isLen_lenBN hL] at hm he
    have hE : secE p q = 0 := by unfold secE secT; rw [hf, hm, if_neg h3]; rfl
    have hM : secM p q = secT (valN p.data.toList) (valN q.data.toList) := by unfold secM; rw [if_pos hE]
    rw [hE, hM]; exact ⟨_, he⟩
set_option maxHeartbeats 1000000 in
theorem modulus_any (p q : ByteArray) (w : World) :
    Calls Tryd.prog 5 #[.agg #[.string p, .string q]] w fun e w' => e = .returned (.tuple #[.string (secM p q), .int .i64 (secE p q)]) ∧ Below w.heap.size w w' := by
  have n0 : ∀ W, Calls Tryd.prog 10 #[.agg #[.string p, .string q]] W fun e w' => (∃ v, e = .returned (.tuple #[.string (secM p q), v, .int .i64 (secE p q)])) ∧ Below W.heap.size W w' := fun W => (open_any p q W).mono fun e w' h => ⟨open_first h.1, h.2⟩
  have N0 := hide n0
  have HB := hide (fun o : Obj => (Below.refl w.heap.size w).alloc (Nat.le_refl _) o)
  clear n0
  generalize secM p q = mm at *
  generalize secE p q = me at *
  go_enter Tryd.func5, Tryd.ntmps5
  go_wp2_with fail
  refine (unhide N0 _).mono ?_
  rintro e y ⟨⟨v, rfl⟩, k⟩
  have HK := hide ((unhide HB _).trans (k.mono (unhide HB _).size))
  clear k
  go_wp2
  go_ret2
  exact ⟨rfl, unhide HK⟩
end Go.Proofs.YtjipcmmaemokhaaDoor
namespace Go.Proofs.YtjipcmmaemokhaaDoor
open Go.RowKit
set_option linter.unusedVariables false
set_option linter.unusedSimpArgs false
set_option maxRecDepth 100000

/-- D -/
def secD (p q : ByteArray) : Nat := ((valN p.data.toList - 1) * (valN q.data.toList - 1) * (3 - (valN p.data.toList - 1) * (valN q.data.toList - 1) % 3) + 1) / 3
theorem isLen_lenB {n L : Nat} (h : IsLen n L) : L = lenBN n := by
  obtain ⟨h1, h2, h3⟩ := h
  unfold lenBN
  by_cases h0 : n = 0
  · rw [if_pos h0]; exact h2 h0
  · rw [if_neg h0]
    obtain ⟨h4, h5⟩ := h3 h0
    have : n.log2 = L - 1 := (Nat.log2_eq_iff h0).2 ⟨h5, by rw [Nat.sub_add_cancel h4]; exact h1⟩
    omega
theorem head_at (s : ByteArray) (h : 0 < s.size) : ∀ h', ((s[0]'h').toNat : Int) = (((s.data.toList.headD 0).toNat : Nat) : Int) := by
  intro h'
  congr 2
  have hl : s.data.toList.length = s.size := by simp
  cases hh : s.data.toList with
  | nil => rw [hh] at hl; simp at hl; omega
  | cons a t =>
    have : s[0] = a := by
      show s.data[0] = a
      rw [← Array.getElem_toList]
      simp [hh]
    rw [this]; rfl
theorem fac_pos {s : ByteArray} (h : isFacB s = true) : 1 ≤ s.size ∧ s.size ≤ 96 ∧ 1 ≤ valN s.data.toList := by
  unfold isFacB at h
  simp only [Bool.and_eq_true, decide_eq_true_eq] at h
  refine ⟨h.1.1, h.1.2, ?_⟩
  have hl : s.data.toList.length = s.size := by simp
  cases hh : s.data.toList with
  | nil => rw [hh] at hl; simp at hl; omega
  | cons a t =>
    rw [hh] at h
    have h2 : ¬ a.toNat = 0 := h.2
    rw [valN_consN]
    have := Nat.mul_le_mul (Nat.one_le_iff_ne_zero.2 h2) (Nat.one_le_iff_ne_zero.2 (Nat.ne_of_gt (Nat.pow_pos (n := t.length) (show 0 < 256 by decide))))
    omega
theorem valN_96 (s : ByteArray) (h : s.size ≤ 96) : valN s.data.toList < B32 ^ 24 := valN_small _ 24 (by have : s.data.toList.length = s.size := by simp
                                                                                                         omega)
/-- what is wrong with one of the two -/
theorem fac_cases (x : ByteArray) : (isFacB x = false ∧ (x.size = 0 ∨ (0 < x.size ∧ 96 < x.size) ∨ (0 < x.size ∧ x.size ≤ 96 ∧ (x.data.toList.headD 0).toNat = 0))) ∨ (isFacB x = true ∧ 0 < x.size ∧ x.size ≤ 96 ∧ (x.data.toList.headD 0).toNat ≠ 0) := by
  unfold isFacB
  by_cases h1 : 1 ≤ x.size
  · by_cases h2 : x.size ≤ 96
    · by_cases h3 : (x.data.toList.headD 0).toNat = 0
      · exact .inl ⟨by rw [h3]; simp, .inr (.inr ⟨h1, h2, h3⟩)⟩
      · exact .inr ⟨by rw [decide_eq_true h1, decide_eq_true h2, decide_eq_true h3]; rfl, h1, h2, h3⟩
    · exact .inl ⟨by rw [decide_eq_false h2]; simp, .inr (.inl ⟨h1, by omega⟩)⟩
  · exact .inl ⟨by rw [decide_eq_false h1]; rfl, .inl (by omega)⟩
theorem secE_form {p q : ByteArray} (h : (isFacB p && isFacB q) = false) : secE p q = 1 := by unfold secE; rw [h]; rfl
theorem secE_mod {p q : ByteArray} (h : isModB (secT (valN p.data.toList) (valN q.data.toList)) = false) : secE p q = 1 := by
  unfold secE; rw [h]; cases (isFacB p && isFacB q) <;> rfl
theorem secE_good {p q : ByteArray} (h : (isFacB p && isFacB q) = true) (h2 : isModB (secT (valN p.data.toList) (valN q.data.toList)) = true) : secE p q = if (valN p.data.toList - 1) * (valN q.data.toList - 1) % 3 = 0 then 5 else 0 := by
  unfold secE; rw [h, h2]; rfl
theorem yconv {w : World} {g k : Nat} {L : List Int} (h : YRow w g L) (hl : L.length = k) : (convert 41 9 (.slice (some ⟨g, 0, none⟩) k k)).run Tryd.prog w = .ok (.string (strOfNums L)) w :=
  run_convert_bytes_arg (P := Tryd.prog) _ 41 5 Tryd.underlying41 Tryd.underlying5 g 0 k k L hl (fun i hi => by
    have hi' : i < L.length := by omega
    rw [cell_of_row _ _ _ _ _ _ h]
    simp [List.getElem?_eq_getElem hi']) 9 Tryd.underlying9
theorem lt_up {x j : Nat} (h : x < B32 ^ j) (K : Nat) (hj : j ≤ K) : x < B32 ^ K := Nat.lt_of_lt_of_le h (B32_mono hj)
theorem odd_rest (a b : Nat) (h : ¬ a * b % 3 = 0) : ∃ k : Nat, (k = 1 ∨ k = 2) ∧ 3 - a * b % 3 = k ∧ (1 + a * b * k) % 3 = 0 ∧ (k = 2 → ¬ (1 + a * b * 1) % 3 = 0) := by
  generalize a * b = n at *
  have : n % 3 < 3 := Nat.mod_lt _ (by decide)
  refine ⟨3 - n % 3, by omega, rfl, ?_, by omega⟩
  rcases (show n % 3 = 1 ∨ n % 3 = 2 by omega) with h1 | h1
  · rw [h1]; omega
  · rw [h1]; omega
theorem secT_22 {a b : Nat} (h : isModB (secT a b) = true) : ¬ (a - 1) * (b - 1) = 1 := by
  intro e
  have h1 := Nat.eq_one_of_mul_eq_one_right e
  have h2 := Nat.eq_one_of_mul_eq_one_left e
  have ha : a = 2 := by omega
  have hb : b = 2 := by omega
  subst ha hb
  unfold isModB at h
  simp only [Bool.and_eq_true, decide_eq_true_eq] at h
  have h3 := h.1.1.1
  unfold secT at h3
  rw [strOfNums_size, bigL_length] at h3
  have : lenBN (2 * 2) = 3 := by decide
  rw [this] at h3
  omega
theorem d_of {N k : Nat} (h : (1 + N * k) % 3 = 0) (hk : k = 1 ∨ k = 2) : ¬ N % 3 = 0 ∧ (N * (3 - N % 3) + 1) / 3 = (1 + N * k) / 3 := by
  rcases hk with rfl | rfl
  · have : N % 3 = 2 := by omega
    rw [this]
    exact ⟨by decide, by rw [Nat.add_comm]⟩
  · have : N % 3 = 1 := by omega
    rw [this]
    exact ⟨by decide, by rw [Nat.add_comm]⟩
theorem none_third {N : Nat} (h1 : ¬ (1 + N * 1) % 3 = 0) (h2 : ¬ (1 + N * 2) % 3 = 0) : N % 3 = 0 := by
  have h3 := Nat.mod_lt N (show 0 < 3 by decide)
  rcases (show N % 3 = 0 ∨ N % 3 = 1 ∨ N % 3 = 2 by omega) with h | h | h
  · exact h
  · exact absurd (show (1 + N * 2) % 3 = 0 by omega) h2
  · exact absurd (show (1 + N * 1) % 3 = 0 by omega) h1
end Go.Proofs.YtjipcmmaemokhaaDoor
