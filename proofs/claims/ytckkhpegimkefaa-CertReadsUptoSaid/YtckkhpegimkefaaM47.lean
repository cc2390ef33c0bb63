/- A secret's modulus and D, by the document's own: Own. -/
import Derived.Test.YtckkhpegimkefaaM45
import Derived.Test.YtckkhpegimkefaaM41
import Derived.Test.YtckkhpegimkefaaM44
import Derived.Test.YtckkhpegimkefaaM46
import Derived.Deep.DeepCutAuto
import Derived.Deep.RegionHeld3
import Derived.Deep.QuietTactic
import Derived.BigQuiet
namespace Go.Proofs.Ytckkhpegimkefaa
open Go.RowKit
set_option linter.unusedVariables false
set_option linter.unusedSimpArgs false
set_option maxRecDepth 100000

/-- D -/
def secD (p q : ByteArray) : Nat := ((valN p.data.toList - 1) * (valN q.data.toList - 1) * (3 - (valN p.data.toList - 1) * (valN q.data.toList - 1) % 3) + 1) / 3
/-- what Own answers -/
inductive OwnPost (p q : ByteArray) (e : Ending) (w : World) : Prop where
  | bad (h : secE p q ≠ 0) (he : e = .returned (.tuple #[.string ⟨#[]⟩, .pointer none, .int .i64 (secE p q)]))
  | good (g : Nat) (h : secE p q = 0) (he : e = .returned (.tuple #[.string (secM p q), .pointer (some ⟨g, 0, none⟩), .int .i64 0])) (hi : IntAt w g (secD p q))
theorem isLen_lenB {n L : Nat} (h : IsLen n L) : L = lenBN n := by
  obtain ⟨h1, h2, h3⟩ := h
  unfold lenBN
  by_cases h0 : n = 0
  · rw [if_pos h0]; exact h2 h0
  · rw [if_neg h0]
    obtain ⟨h4, h5⟩ := h3 h0
    have : n.log2 = L - 1 := (Nat.log2_eq_iff h0).2 ⟨h5, by rw [Nat.sub_add_cancel h4]; exact h1⟩
    omega
theorem head_at (s : ByteArray) (h : 0 < s.size) : ∀ h', ((s[0]'h').toNat : Int) = (((s.data.toList.headD 0).toNat : Nat) : Int) := by
  intro h'
  congr 2
  have hl : s.data.toList.length = s.size := by simp
  cases hh : s.data.toList with
  | nil => rw [hh] at hl; simp at hl; omega
  | cons a t =>
    have : s[0] = a := by
      show s.data[0] = a
      rw [← Array.getElem_toList]
      simp [hh]
    rw [this]; rfl
theorem fac_pos {s : ByteArray} (h : isFacB s = true) : 1 ≤ s.size ∧ s.size ≤ 96 ∧ 1 ≤ valN s.data.toList := by
  unfold isFacB at h
  simp only [Bool.and_eq_true, decide_eq_true_eq] at h
  refine ⟨h.1.1, h.1.2, ?_⟩
  have hl : s.data.toList.length = s.size := by simp
  cases hh : s.data.toList with
  | nil => rw [hh] at hl; simp at hl; omega
  | cons a t =>
    rw [hh] at h
    have h2 : ¬ a.toNat = 0 := h.2
    rw [valN_consN]
    have := Nat.mul_le_mul (Nat.one_le_iff_ne_zero.2 h2) (Nat.one_le_iff_ne_zero.2 (Nat.ne_of_gt (Nat.pow_pos (n := t.length) (show 0 < 256 by decide))))
    omega
theorem valN_96 (s : ByteArray) (h : s.size ≤ 96) : valN s.data.toList < B32 ^ 24 := valN_small _ 24 (by have : s.data.toList.length = s.size := by simp
                                                                                                         omega)
/-- what is wrong with one of the two -/
theorem fac_cases (x : ByteArray) : (isFacB x = false ∧ (x.size = 0 ∨ (0 < x.size ∧ 96 < x.size) ∨ (0 < x.size ∧ x.size ≤ 96 ∧ (x.data.toList.headD 0).toNat = 0))) ∨ (isFacB x = true ∧ 0 < x.size ∧ x.size ≤ 96 ∧ (x.data.toList.headD 0).toNat ≠ 0) := by
  unfold isFacB
  by_cases h1 : 1 ≤ x.size
  · by_cases h2 : x.size ≤ 96
    · by_cases h3 : (x.data.toList.headD 0).toNat = 0
      · exact .inl ⟨by rw [h3]; simp, .inr (.inr ⟨h1, h2, h3⟩)⟩
      · exact .inr ⟨by rw [decide_eq_true h1, decide_eq_true h2, decide_eq_true h3]; rfl, h1, h2, h3⟩
    · exact .inl ⟨by rw [decide_eq_false h2]; simp, .inr (.inl ⟨h1, by omega⟩)⟩
  · exact .inl ⟨by rw [decide_eq_false h1]; rfl, .inl (by omega)⟩
theorem secE_form {p q : ByteArray} (h : (isFacB p && isFacB q) = false) : secE p q = 1 := by unfold secE; rw [h]; rfl
theorem secE_mod {p q : ByteArray} (h : isModB (secT (valN p.data.toList) (valN q.data.toList)) = false) : secE p q = 1 := by
  unfold secE; rw [h]; cases (isFacB p && isFacB q) <;> rfl
theorem secE_good {p q : ByteArray} (h : (isFacB p && isFacB q) = true) (h2 : isModB (secT (valN p.data.toList) (valN q.data.toList)) = true) : secE p q = if (valN p.data.toList - 1) * (valN q.data.toList - 1) % 3 = 0 then 5 else 0 := by
  unfold secE; rw [h, h2]; rfl
theorem yconv {w : World} {g k : Nat} {L : List Int} (h : YRow w g L) (hl : L.length = k) : (convert 48 9 (.slice (some ⟨g, 0, none⟩) k k)).run Try.prog w = .ok (.string (strOfNums L)) w :=
  run_convert_bytes_arg (P := Try.prog) _ 48 5 Try.underlying48 Try.underlying5 g 0 k k L hl (fun i hi => by
    have hi' : i < L.length := by omega
    rw [cell_of_row _ _ _ _ _ _ h]
    simp [List.getElem?_eq_getElem hi']) 9 Try.underlying9
theorem lt_up {x j : Nat} (h : x < B32 ^ j) (K : Nat) (hj : j ≤ K) : x < B32 ^ K := Nat.lt_of_lt_of_le h (B32_mono hj)
theorem boxO_below (w : World) : Below w.heap.size w (w.alloc (.cells #[.bool false, .slice none 0 0] 60)) := (Below.refl _ _).alloc (Nat.le_refl _) _
theorem odd_rest (a b : Nat) (h : ¬ a * b % 3 = 0) : ∃ k : Nat, (k = 1 ∨ k = 2) ∧ 3 - a * b % 3 = k ∧ (1 + a * b * k) % 3 = 0 ∧ (k = 2 → ¬ (1 + a * b * 1) % 3 = 0) := by
  generalize a * b = n at *
  have : n % 3 < 3 := Nat.mod_lt _ (by decide)
  refine ⟨3 - n % 3, by omega, rfl, ?_, by omega⟩
  rcases (show n % 3 = 1 ∨ n % 3 = 2 by omega) with h1 | h1
  · rw [h1]; omega
  · rw [h1]; omega
theorem secT_22 {a b : Nat} (h : isModB (secT a b) = true) : ¬ (a - 1) * (b - 1) = 1 := by
  intro e
  have h1 := Nat.eq_one_of_mul_eq_one_right e
  have h2 := Nat.eq_one_of_mul_eq_one_left e
  have ha : a = 2 := by omega
  have hb : b = 2 := by omega
  subst ha hb
  unfold isModB at h
  simp only [Bool.and_eq_true, decide_eq_true_eq] at h
  have h3 := h.1.1.1
  unfold secT at h3
  rw [strOfNums_size, bigL_length] at h3
  have : lenBN (2 * 2) = 3 := by decide
  rw [this] at h3
  omega
theorem BoxAt3.other {w w' : World} {p : Nat} {b : Bool} {v : Value} (h : BoxAt3 w p b v) (hh : w'.heap[p]? = w.heap[p]?) : BoxAt3 w' p b v := ⟨hh.trans h.1, h.2⟩
abbrev boxI : Obj := .cells #[.bool false, .slice none 0 0] 60
theorem d_of {N k : Nat} (h : (1 + N * k) % 3 = 0) (hk : k = 1 ∨ k = 2) : ¬ N % 3 = 0 ∧ (N * (3 - N % 3) + 1) / 3 = (1 + N * k) / 3 := by
  rcases hk with rfl | rfl
  · have : N % 3 = 2 := by omega
    rw [this]
    exact ⟨by decide, by rw [Nat.add_comm]⟩
  · have : N % 3 = 1 := by omega
    rw [this]
    exact ⟨by decide, by rw [Nat.add_comm]⟩
theorem none_third {N : Nat} (h1 : ¬ (1 + N * 1) % 3 = 0) (h2 : ¬ (1 + N * 2) % 3 = 0) : N % 3 = 0 := by
  have h3 := Nat.mod_lt N (show 0 < 3 by decide)
  rcases (show N % 3 = 0 ∨ N % 3 = 1 ∨ N % 3 = 2 by omega) with h | h | h
  · exact h
  · exact absurd (show (1 + N * 2) % 3 = 0 by omega) h2
  · exact absurd (show (1 + N * 1) % 3 = 0 by omega) h1
end Go.Proofs.Ytckkhpegimkefaa
namespace Go.Proofs.Ytckkhpegimkefaa
open Go.RowKit
set_option linter.unusedVariables false
set_option linter.unusedSimpArgs false
set_option maxRecDepth 100000

def zeroT (n : Nat) : ByteArray := ⟨(List.replicate n (0 : UInt8)).toArray⟩
theorem zeroT_size (n : Nat) : (zeroT n).size = n := by simp [zeroT, ByteArray.size]
theorem zeroT_data (n : Nat) : (zeroT n).data.toList = List.replicate n 0 := by simp [zeroT]
theorem zeroT_snoc (n : Nat) : zeroT n ++ ⟨#[0]⟩ = zeroT (n + 1) := by
  apply ByteArray.ext
  apply Array.toList_inj.1
  rw [ByteArray.data_append, Array.toList_append, zeroT_data, zeroT_data, List.replicate_succ']
set_option maxHeartbeats 1000000 in
theorem rzerosT_any (n : Nat) (hn : n ≤ 1000) (w : World) :
    Calls Try.prog 60 #[.int .i64 n] w fun e w' => e = .returned (.string (zeroT n)) ∧ w' = w := by
  go_enter Try.func60, Try.ntmps60
  go_wp2
  go_loop [3, 4] (fun s i => ∃ k : Nat, k ≤ n ∧ i = .int .i64 k ∧ s = .string (zeroT k)) (fun _ i => n - (intOf i).toNat)
  case atStart => exact ⟨0, Nat.zero_le _, rfl, rfl⟩
  case round =>
    obtain ⟨k, hk, rfl, rfl⟩ := hrel
    by_cases hlt : k < n
    · have hz := zeroT_size k
      have h1 : (⟨#[0]⟩ : ByteArray).size = 1 := rfl
      have hs := zeroT_snoc k
      have HS := hide hs
      have ha := fun w' => run_string_add_sum (P := Try.prog) w' (zeroT k) ⟨#[0]⟩ (by omega)
      rw [hs] at ha
      generalize hA : zeroT k = A at *
      generalize hB : zeroT (k + 1) = B at *
      have HB := hide hB
      clear hA hB hz h1 hs
      go_wp2
      go_round
      case rel => exact ⟨k + 1, by omega, by go_num, by rw [unhide HB]⟩
      case measure => simp [intOf]; omega
    · have hke : k = n := by omega
      subst hke
      go_wp2
      go_ret
      exact ⟨rfl, rfl⟩
theorem bigL_pad (n k' j : Nat) (h : n < 256 ^ k') : bigL n (k' + j) = List.replicate j 0 ++ bigL n k' := by
  induction j with
  | zero => rfl
  | succ j ih =>
    have e : bigL n (k' + (j + 1)) = ((n / 256 ^ (k' + j) % 256 : Nat) : Int) :: bigL n (k' + j) := rfl
    have h2 : n < 256 ^ (k' + j) := Nat.lt_of_lt_of_le h (Nat.pow_le_pow_right (by decide) (by omega))
    rw [e, ih, Nat.div_eq_of_lt h2, List.replicate_succ]
    rfl
theorem len_bytes {n L k : Nat} (hL : IsLen n L) (hk : n < 256 ^ k) : n < 256 ^ ((L + 7) / 8) ∧ (L + 7) / 8 ≤ k := by
  have e : ∀ m : Nat, 256 ^ m = 2 ^ (8 * m) := fun m => by rw [Nat.pow_mul]
  obtain ⟨h1, h2, h3⟩ := hL
  refine ⟨?_, ?_⟩
  · rw [e]; exact Nat.lt_of_lt_of_le h1 (Nat.pow_le_pow_right (by decide) (by omega))
  · by_cases h0 : n = 0
    · rw [h2 h0]; omega
    · obtain ⟨h4, h5⟩ := h3 h0
      rw [e] at hk
      have := (Nat.pow_lt_pow_iff_right (by decide : 1 < 2)).1 (Nat.lt_of_le_of_lt h5 hk)
      omega
theorem wide_text {n k k' j : Nat} (h : n < 256 ^ k') (hj : k = k' + j) : zeroT j ++ strOfNums (bigL n k') = strOfNums (bigL n k) := by
  rw [hj, bigL_pad n k' j h]
  apply ByteArray.ext
  apply Array.toList_inj.1
  rw [ByteArray.data_append, Array.toList_append, zeroT_data, strOfNums_data, strOfNums_data, List.map_append, List.map_replicate]
  rfl
set_option maxHeartbeats 2000000 in
theorem rwide_any (p n k : Nat) (w : World) (h : IntAt w p n) (hk : n < 256 ^ k) (hk2 : (k : Int) ≤ 200) (hn : n < B32 ^ 10000) :
    Calls Try.prog 27 #[.pointer (some ⟨p, 0, none⟩), .int .i64 k] w fun e w' => e = .returned (.string (strOfNums (bigL n k))) ∧ Below w.heap.size w w' := by
  have N1 := hide (bigBytes_any p n w h hn)
  have HK := hide hk
  obtain ⟨S, hS⟩ : ∃ S, S = strOfNums (bigL n k) := ⟨_, rfl⟩
  rw [← hS]
  have HS := hide hS
  clear h hk hn hS
  go_enter Try.func27, Try.ntmps27
  go_wp2_with fail
  refine (unhide N1).mono ?_
  rintro e y ⟨⟨k', L, hL, hk', rfl, hY⟩, kb⟩
  obtain ⟨h1, h2⟩ := len_bytes hL (unhide HK)
  rw [← hk'] at h1 h2
  obtain ⟨j, hj⟩ : ∃ j, k = k' + j := ⟨k - k', by omega⟩
  have hcv := fun q => (yconv (w := y.drewN q) (L := bigL n k') (g := w.heap.size) hY (bigL_length n k'))
  have hcv0 := yconv hY (bigL_length n k')
  have hsub : IntKind.i64.wrap ((k : Int) - (k' : Int)) = (j : Int) := by rw [IntKind.wrap_i64]; omega
  have N2 := hide (fun W => rzerosT_any j (by omega) W)
  have z1 := zeroT_size j
  have z2 : (strOfNums (bigL n k')).size = k' := by rw [strOfNums_size, bigL_length]
  have ha := fun w' => run_string_add_sum (P := Try.prog) w' (zeroT j) (strOfNums (bigL n k')) (by omega)
  rw [wide_text h1 hj, ← unhide HS] at ha
  generalize strOfNums (bigL n k') = S1 at *
  generalize zeroT j = Z at *
  have HKB := hide kb
  clear hL hk' hY h1 h2 hj z1 z2 kb
  go_wp2_with fail
  go_quiet ((go_at_call 60; exact Calls.quiet_of_same (unhide N2 _)))
  go_wp2
  exact bodyPost_ret (v := .string S) (by simp [results, Try.results27, go_sem]) rfl ⟨rfl, (unhide HKB).os, (unhide HKB).tape, (unhide HKB).output, (unhide HKB).size, (unhide HKB).block⟩
end Go.Proofs.Ytckkhpegimkefaa
