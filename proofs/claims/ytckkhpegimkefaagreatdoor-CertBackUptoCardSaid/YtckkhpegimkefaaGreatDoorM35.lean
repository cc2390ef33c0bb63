/- Modulus of the program. -/
import Derived.Test.YtckkhpegimkefaaGreatDoorM34
import Derived.Test.YtckkhpegimkefaaGreatDoorM31
import Derived.Test.YtckkhpegimkefaaGreatDoorM28
import Derived.Deep.DeepCutAuto
import Derived.Deep.RegionHeld3
import Derived.Deep.QuietTactic
import Derived.BigQuiet
import Derived.Test.YtckkhpegimkefaaGreatDoorM14
namespace Go.Proofs.YtckkhpegimkefaaGreatDoor
open Go.RowKit Go.Shelf
set_option linter.unusedVariables false
set_option linter.unusedSimpArgs false
set_option maxRecDepth 100000

/-- how many bits a number has -/
def lenBN (n : Nat) : Nat := if n = 0 then 0 else n.log2 + 1
theorem isLen_lenBN {n L : Nat} (h : IsLenW n L) : L = lenBN n := by
  obtain ⟨h1, h2⟩ := h
  unfold lenBN
  by_cases h0 : n = 0
  · rw [if_pos h0]
    rcases h2 with h2 | h2
    · exact h2
    · have := Nat.two_pow_pos (L - 1)
      omega
  · rw [if_neg h0]
    have hL : 1 ≤ L := by
      rcases Nat.eq_zero_or_pos L with hz | hz
      · subst hz; simp at h1; omega
      · exact hz
    rcases h2 with h2 | h2
    · omega
    · have : n.log2 = L - 1 := (Nat.log2_eq_iff h0).2 ⟨h2, by rw [Nat.sub_add_cancel hL]; exact h1⟩
      omega
/-- the modulus that two numbers make; what is wrong with a secret; its modulus -/
def secT (a b : Nat) : ByteArray := strOfNums (bigL (a * b) ((lenBN (a * b) + 7) / 8))
def secE (p q : ByteArray) : Int := bif isFacB p && isFacB q then (bif isModB (secT (valN p.data.toList) (valN q.data.toList)) then (if (valN p.data.toList - 1) * (valN q.data.toList - 1) % 3 = 0 then 5 else 0) else 1) else 1
def secM (p q : ByteArray) : ByteArray := if secE p q = 0 then secT (valN p.data.toList) (valN q.data.toList) else ⟨#[]⟩
theorem open_first {p q : ByteArray} {w w' : World} {e : Ending} (h : OpenPost (valN p.data.toList) (valN q.data.toList) (isFacB p && isFacB q) w e w') : ∃ v, e = .returned (.tuple #[.string (secM p q), v, .int .i64 (secE p q)]) := by
  cases h with
  | form hf he =>
    have hE : secE p q = 1 := by unfold secE; rw [hf]; rfl
    have hM : secM p q = ⟨#[]⟩ := by unfold secM; rw [hE]; rfl
    rw [hE, hM]; exact ⟨_, he⟩
  | mod L hf hL hm he =>
    rw [isLen_lenBN hL] at hm
    have hE : secE p q = 1 := by unfold secE secT; rw [hf, hm]; rfl
    have hM : secM p q = ⟨#[]⟩ := by unfold secM; rw [hE]; rfl
    rw [hE, hM]; exact ⟨_, he⟩
  | third L hf hL hm h3 he =>
    rw [isLen_lenBN hL] at hm
    have hE : secE p q = 5 := by unfold secE secT; rw [hf, hm, if_pos h3]; rfl
    have hM : secM p q = ⟨#[]⟩ := by unfold secM; rw [hE]; rfl
    rw [hE, hM]; exact ⟨_, he⟩
  | ok L g row hf hL hm h3 he hU ho hg hn hlr =>
    rw [isLen_lenBN hL] at hm he
    have hE : secE p q = 0 := by unfold secE secT; rw [hf, hm, if_neg h3]; rfl
    have hM : secM p q = secT (valN p.data.toList) (valN q.data.toList) := by unfold secM; rw [if_pos hE]
    rw [hE, hM]; exact ⟨_, he⟩
set_option maxHeartbeats 1000000 in
theorem modulus_any (p q : ByteArray) (w : World) :
    Calls Tryz.prog 9 #[.agg #[.string p, .string q]] w fun e w' => e = .returned (.tuple #[.string (secM p q), .int .i64 (secE p q)]) ∧ Below w.heap.size w w' := by
  have n0 : ∀ W, Calls Tryz.prog 24 #[.agg #[.string p, .string q]] W fun e w' => (∃ v, e = .returned (.tuple #[.string (secM p q), v, .int .i64 (secE p q)])) ∧ Below W.heap.size W w' := fun W => (open_any p q W).mono fun e w' h => ⟨open_first h.1, h.2⟩
  have N0 := hide n0
  have HB := hide (fun o : Obj => (Below.refl w.heap.size w).alloc (Nat.le_refl _) o)
  clear n0
  generalize secM p q = mm at *
  generalize secE p q = me at *
  go_enter Tryz.func9, Tryz.ntmps9
  go_wp2_with fail
  refine (unhide N0 _).mono ?_
  rintro e y ⟨⟨v, rfl⟩, k⟩
  have HK := hide ((unhide HB _).trans (k.mono (unhide HB _).size))
  clear k
  go_wp2
  go_ret2
  exact ⟨rfl, unhide HK⟩
end Go.Proofs.YtckkhpegimkefaaGreatDoor
namespace Go.Proofs.YtckkhpegimkefaaGreatDoor
open Go.RowKit
set_option linter.unusedVariables false
set_option linter.unusedSimpArgs false
set_option maxRecDepth 100000

/-- D -/
def secD (p q : ByteArray) : Nat := ((valN p.data.toList - 1) * (valN q.data.toList - 1) * (3 - (valN p.data.toList - 1) * (valN q.data.toList - 1) % 3) + 1) / 3
/-- what Own answers -/
inductive OwnPost (p q : ByteArray) (e : Ending) (w : World) : Prop where
  | bad (h : secE p q ≠ 0) (he : e = .returned (.tuple #[.string ⟨#[]⟩, .pointer none, .int .i64 (secE p q)]))
  | good (g : Nat) (h : secE p q = 0) (he : e = .returned (.tuple #[.string (secM p q), .pointer (some ⟨g, 0, none⟩), .int .i64 0])) (hi : IntAt w g (secD p q))
theorem isLen_lenB {n L : Nat} (h : IsLen n L) : L = lenBN n := by
  obtain ⟨h1, h2, h3⟩ := h
  unfold lenBN
  by_cases h0 : n = 0
  · rw [if_pos h0]; exact h2 h0
  · rw [if_neg h0]
    obtain ⟨h4, h5⟩ := h3 h0
    have : n.log2 = L - 1 := (Nat.log2_eq_iff h0).2 ⟨h5, by rw [Nat.sub_add_cancel h4]; exact h1⟩
    omega
theorem head_at (s : ByteArray) (h : 0 < s.size) : ∀ h', ((s[0]'h').toNat : Int) = (((s.data.toList.headD 0).toNat : Nat) : Int) := by
  intro h'
  congr 2
  have hl : s.data.toList.length = s.size := by simp
  cases hh : s.data.toList with
  | nil => rw [hh] at hl; simp at hl; omega
  | cons a t =>
    have : s[0] = a := by
      show s.data[0] = a
      rw [← Array.getElem_toList]
      simp [hh]
    rw [this]; rfl
theorem fac_pos {s : ByteArray} (h : isFacB s = true) : 1 ≤ s.size ∧ s.size ≤ 96 ∧ 1 ≤ valN s.data.toList := by
  unfold isFacB at h
  simp only [Bool.and_eq_true, decide_eq_true_eq] at h
  refine ⟨h.1.1, h.1.2, ?_⟩
  have hl : s.data.toList.length = s.size := by simp
  cases hh : s.data.toList with
  | nil => rw [hh] at hl; simp at hl; omega
  | cons a t =>
    rw [hh] at h
    have h2 : ¬ a.toNat = 0 := h.2
    rw [valN_consN]
    have := Nat.mul_le_mul (Nat.one_le_iff_ne_zero.2 h2) (Nat.one_le_iff_ne_zero.2 (Nat.ne_of_gt (Nat.pow_pos (n := t.length) (show 0 < 256 by decide))))
    omega
theorem valN_96 (s : ByteArray) (h : s.size ≤ 96) : valN s.data.toList < B32 ^ 24 := valN_small _ 24 (by have : s.data.toList.length = s.size := by simp
                                                                                                         omega)
/-- what is wrong with one of the two -/
theorem fac_cases (x : ByteArray) : (isFacB x = false ∧ (x.size = 0 ∨ (0 < x.size ∧ 96 < x.size) ∨ (0 < x.size ∧ x.size ≤ 96 ∧ (x.data.toList.headD 0).toNat = 0))) ∨ (isFacB x = true ∧ 0 < x.size ∧ x.size ≤ 96 ∧ (x.data.toList.headD 0).toNat ≠ 0) := by
  unfold isFacB
  by_cases h1 : 1 ≤ x.size
  · by_cases h2 : x.size ≤ 96
    · by_cases h3 : (x.data.toList.headD 0).toNat = 0
      · exact .inl ⟨by rw [h3]; simp, .inr (.inr ⟨h1, h2, h3⟩)⟩
      · exact .inr ⟨by rw [decide_eq_true h1, decide_eq_true h2, decide_eq_true h3]; rfl, h1, h2, h3⟩
    · exact .inl ⟨by rw [decide_eq_false h2]; simp, .inr (.inl ⟨h1, by omega⟩)⟩
  · exact .inl ⟨by rw [decide_eq_false h1]; rfl, .inl (by omega)⟩
theorem secE_form {p q : ByteArray} (h : (isFacB p && isFacB q) = false) : secE p q = 1 := by unfold secE; rw [h]; rfl
theorem secE_mod {p q : ByteArray} (h : isModB (secT (valN p.data.toList) (valN q.data.toList)) = false) : secE p q = 1 := by
  unfold secE; rw [h]; cases (isFacB p && isFacB q) <;> rfl
theorem secE_good {p q : ByteArray} (h : (isFacB p && isFacB q) = true) (h2 : isModB (secT (valN p.data.toList) (valN q.data.toList)) = true) : secE p q = if (valN p.data.toList - 1) * (valN q.data.toList - 1) % 3 = 0 then 5 else 0 := by
  unfold secE; rw [h, h2]; rfl
theorem yconv {w : World} {g k : Nat} {L : List Int} (h : YRow w g L) (hl : L.length = k) : (convert 43 9 (.slice (some ⟨g, 0, none⟩) k k)).run Tryz.prog w = .ok (.string (strOfNums L)) w :=
  run_convert_bytes_arg (P := Tryz.prog) _ 43 5 Tryz.underlying43 Tryz.underlying5 g 0 k k L hl (fun i hi => by
    have hi' : i < L.length := by omega
    rw [cell_of_row _ _ _ _ _ _ h]
    simp [List.getElem?_eq_getElem hi']) 9 Tryz.underlying9
theorem lt_up {x j : Nat} (h : x < B32 ^ j) (K : Nat) (hj : j ≤ K) : x < B32 ^ K := Nat.lt_of_lt_of_le h (B32_mono hj)
theorem boxO_below (w : World) : Below w.heap.size w (w.alloc (.cells #[.bool false, .slice none 0 0] 101)) := (Below.refl _ _).alloc (Nat.le_refl _) _
theorem odd_rest (a b : Nat) (h : ¬ a * b % 3 = 0) : ∃ k : Nat, (k = 1 ∨ k = 2) ∧ 3 - a * b % 3 = k ∧ (1 + a * b * k) % 3 = 0 ∧ (k = 2 → ¬ (1 + a * b * 1) % 3 = 0) := by
  generalize a * b = n at *
  have : n % 3 < 3 := Nat.mod_lt _ (by decide)
  refine ⟨3 - n % 3, by omega, rfl, ?_, by omega⟩
  rcases (show n % 3 = 1 ∨ n % 3 = 2 by omega) with h1 | h1
  · rw [h1]; omega
  · rw [h1]; omega
theorem secT_22 {a b : Nat} (h : isModB (secT a b) = true) : ¬ (a - 1) * (b - 1) = 1 := by
  intro e
  have h1 := Nat.eq_one_of_mul_eq_one_right e
  have h2 := Nat.eq_one_of_mul_eq_one_left e
  have ha : a = 2 := by omega
  have hb : b = 2 := by omega
  subst ha hb
  unfold isModB at h
  simp only [Bool.and_eq_true, decide_eq_true_eq] at h
  have h3 := h.1.1.1
  unfold secT at h3
  rw [strOfNums_size, bigL_length] at h3
  have : lenBN (2 * 2) = 3 := by decide
  rw [this] at h3
  omega
theorem BoxAt3.other {w w' : World} {p : Nat} {b : Bool} {v : Value} (h : BoxAt3 w p b v) (hh : w'.heap[p]? = w.heap[p]?) : BoxAt3 w' p b v := ⟨hh.trans h.1, h.2⟩
abbrev boxI : Obj := .cells #[.bool false, .slice none 0 0] 101
theorem d_of {N k : Nat} (h : (1 + N * k) % 3 = 0) (hk : k = 1 ∨ k = 2) : ¬ N % 3 = 0 ∧ (N * (3 - N % 3) + 1) / 3 = (1 + N * k) / 3 := by
  rcases hk with rfl | rfl
  · have : N % 3 = 2 := by omega
    rw [this]
    exact ⟨by decide, by rw [Nat.add_comm]⟩
  · have : N % 3 = 1 := by omega
    rw [this]
    exact ⟨by decide, by rw [Nat.add_comm]⟩
theorem none_third {N : Nat} (h1 : ¬ (1 + N * 1) % 3 = 0) (h2 : ¬ (1 + N * 2) % 3 = 0) : N % 3 = 0 := by
  have h3 := Nat.mod_lt N (show 0 < 3 by decide)
  rcases (show N % 3 = 0 ∨ N % 3 = 1 ∨ N % 3 = 2 by omega) with h | h | h
  · exact h
  · exact absurd (show (1 + N * 2) % 3 = 0 by omega) h2
  · exact absurd (show (1 + N * 1) % 3 = 0 by omega) h1
end Go.Proofs.YtckkhpegimkefaaGreatDoor
namespace Go.Proofs.YtckkhpegimkefaaGreatDoor
open Go.RowKit
set_option linter.unusedVariables false
set_option linter.unusedSimpArgs false
set_option maxRecDepth 100000

def zeroT (n : Nat) : ByteArray := ⟨(List.replicate n (0 : UInt8)).toArray⟩
theorem zeroT_size (n : Nat) : (zeroT n).size = n := by simp [zeroT, ByteArray.size]
theorem zeroT_data (n : Nat) : (zeroT n).data.toList = List.replicate n 0 := by simp [zeroT]
theorem zeroT_snoc (n : Nat) : zeroT n ++ ⟨#[0]⟩ = zeroT (n + 1) := by
  apply ByteArray.ext
  apply Array.toList_inj.1
  rw [ByteArray.data_append, Array.toList_append, zeroT_data, zeroT_data, List.replicate_succ']
set_option maxHeartbeats 1000000 in
theorem rzerosT_any (n : Nat) (hn : n ≤ 1000) (w : World) :
    Calls Tryz.prog 31 #[.int .i64 n] w fun e w' => e = .returned (.string (zeroT n)) ∧ w' = w := by
  go_enter Tryz.func31, Tryz.ntmps31
  go_wp2
  go_loop [3, 4] (fun s i => ∃ k : Nat, k ≤ n ∧ i = .int .i64 k ∧ s = .string (zeroT k)) (fun _ i => n - (intOf i).toNat)
  case atStart => exact ⟨0, Nat.zero_le _, rfl, rfl⟩
  case round =>
    obtain ⟨k, hk, rfl, rfl⟩ := hrel
    by_cases hlt : k < n
    · have hz := zeroT_size k
      have h1 : (⟨#[0]⟩ : ByteArray).size = 1 := rfl
      have hs := zeroT_snoc k
      have HS := hide hs
      have ha := fun w' => run_string_add_sum (P := Tryz.prog) w' (zeroT k) ⟨#[0]⟩ (by omega)
      rw [hs] at ha
      generalize hA : zeroT k = A at *
      generalize hB : zeroT (k + 1) = B at *
      have HB := hide hB
      clear hA hB hz h1 hs
      go_wp2
      go_round
      case rel => exact ⟨k + 1, by omega, by go_num, by rw [unhide HB]⟩
      case measure => simp [intOf]; omega
    · have hke : k = n := by omega
      subst hke
      go_wp2
      go_ret
      exact ⟨rfl, rfl⟩
theorem bigL_pad (n k' j : Nat) (h : n < 256 ^ k') : bigL n (k' + j) = List.replicate j 0 ++ bigL n k' := by
  induction j with
  | zero => rfl
  | succ j ih =>
    have e : bigL n (k' + (j + 1)) = ((n / 256 ^ (k' + j) % 256 : Nat) : Int) :: bigL n (k' + j) := rfl
    have h2 : n < 256 ^ (k' + j) := Nat.lt_of_lt_of_le h (Nat.pow_le_pow_right (by decide) (by omega))
    rw [e, ih, Nat.div_eq_of_lt h2, List.replicate_succ]
    rfl
theorem len_bytes {n L k : Nat} (hL : IsLen n L) (hk : n < 256 ^ k) : n < 256 ^ ((L + 7) / 8) ∧ (L + 7) / 8 ≤ k := by
  have e : ∀ m : Nat, 256 ^ m = 2 ^ (8 * m) := fun m => by rw [Nat.pow_mul]
  obtain ⟨h1, h2, h3⟩ := hL
  refine ⟨?_, ?_⟩
  · rw [e]; exact Nat.lt_of_lt_of_le h1 (Nat.pow_le_pow_right (by decide) (by omega))
  · by_cases h0 : n = 0
    · rw [h2 h0]; omega
    · obtain ⟨h4, h5⟩ := h3 h0
      rw [e] at hk
      have := (Nat.pow_lt_pow_iff_right (by decide : 1 < 2)).1 (Nat.lt_of_le_of_lt h5 hk)
      omega
theorem wide_text {n k k' j : Nat} (h : n < 256 ^ k') (hj : k = k' + j) : zeroT j ++ strOfNums (bigL n k') = strOfNums (bigL n k) := by
  rw [hj, bigL_pad n k' j h]
  apply ByteArray.ext
  apply Array.toList_inj.1
  rw [ByteArray.data_append, Array.toList_append, zeroT_data, strOfNums_data, strOfNums_data, List.map_append, List.map_replicate]
  rfl
set_option maxHeartbeats 2000000 in
theorem rwide_any (p n k : Nat) (w : World) (h : IntAt w p n) (hk : n < 256 ^ k) (hk2 : (k : Int) ≤ 200) (hn : n < B32 ^ 10000) :
    Calls Tryz.prog 67 #[.pointer (some ⟨p, 0, none⟩), .int .i64 k] w fun e w' => e = .returned (.string (strOfNums (bigL n k))) ∧ Below w.heap.size w w' := by
  have N1 := hide (bigBytes_any p n w h hn)
  have HK := hide hk
  obtain ⟨S, hS⟩ : ∃ S, S = strOfNums (bigL n k) := ⟨_, rfl⟩
  rw [← hS]
  have HS := hide hS
  clear h hk hn hS
  go_enter Tryz.func67, Tryz.ntmps67
  go_wp2_with fail
  refine (unhide N1).mono ?_
  rintro e y ⟨⟨k', L, hL, hk', rfl, hY⟩, kb⟩
  obtain ⟨h1, h2⟩ := len_bytes hL (unhide HK)
  rw [← hk'] at h1 h2
  obtain ⟨j, hj⟩ : ∃ j, k = k' + j := ⟨k - k', by omega⟩
  have hcv := fun q => (yconv (w := y.drewN q) (L := bigL n k') (g := w.heap.size) hY (bigL_length n k'))
  have hcv0 := yconv hY (bigL_length n k')
  have hsub : IntKind.i64.wrap ((k : Int) - (k' : Int)) = (j : Int) := by rw [IntKind.wrap_i64]; omega
  have N2 := hide (fun W => rzerosT_any j (by omega) W)
  have z1 := zeroT_size j
  have z2 : (strOfNums (bigL n k')).size = k' := by rw [strOfNums_size, bigL_length]
  have ha := fun w' => run_string_add_sum (P := Tryz.prog) w' (zeroT j) (strOfNums (bigL n k')) (by omega)
  rw [wide_text h1 hj, ← unhide HS] at ha
  generalize strOfNums (bigL n k') = S1 at *
  generalize zeroT j = Z at *
  have HKB := hide kb
  clear hL hk' hY h1 h2 hj z1 z2 kb
  go_wp2_with fail
  go_quiet ((go_at_call 31; exact Calls.quiet_of_same (unhide N2 _)))
  go_wp2
  exact bodyPost_ret (v := .string S) (by simp [results, Tryz.results67, go_sem]) rfl ⟨rfl, (unhide HKB).os, (unhide HKB).tape, (unhide HKB).output, (unhide HKB).size, (unhide HKB).block⟩
end Go.Proofs.YtckkhpegimkefaaGreatDoor
namespace Go.Proofs.YtckkhpegimkefaaGreatDoor
open Go.RowKit
set_option linter.unusedVariables false
set_option linter.unusedSimpArgs false
set_option maxRecDepth 100000

/-- one bit more of the exponent -/
theorem pow_more (x d i n : Nat) (hn : 0 < n) (hb : d / 2 ^ i % 2 = 1) : x ^ (d / 2 ^ (i + 1)) % n * (x ^ (d / 2 ^ (i + 1)) % n) % n * x % n = x ^ (d / 2 ^ i) % n := by
  have e : d / 2 ^ i = d / 2 ^ (i + 1) + d / 2 ^ (i + 1) + 1 := by
    rw [Nat.pow_succ, ← Nat.div_div_eq_div_mul]; omega
  rw [e]
  generalize d / 2 ^ (i + 1) = q
  rw [← Nat.mul_mod, Nat.mod_mul_mod, Nat.pow_succ, Nat.pow_add]
theorem pow_less (x d i n : Nat) (hb : ¬ d / 2 ^ i % 2 = 1) : x ^ (d / 2 ^ (i + 1)) % n * (x ^ (d / 2 ^ (i + 1)) % n) % n = x ^ (d / 2 ^ i) % n := by
  have e : d / 2 ^ i = d / 2 ^ (i + 1) + d / 2 ^ (i + 1) := by
    rw [Nat.pow_succ, ← Nat.div_div_eq_div_mul]; omega
  rw [e]
  generalize d / 2 ^ (i + 1) = q
  rw [← Nat.mul_mod, Nat.pow_add]
theorem mod_big {m : ByteArray} (h : isModB m = true) : 18446744073709551616 ≤ valN m.data.toList ∧ valN m.data.toList < B32 ^ 24 ∧ m.size ≤ 96 ∧ 40 ≤ m.size := by
  unfold isModB at h
  simp only [Bool.and_eq_true, decide_eq_true_eq] at h
  obtain ⟨⟨⟨h1, h2⟩, h3⟩, _⟩ := h
  refine ⟨?_, valN_96 m h2, h2, h1⟩
  have hl : m.data.toList.length = m.size := by simp
  cases hh : m.data.toList with
  | nil => rw [hh] at hl; simp at hl; omega
  | cons c t =>
    rw [hh] at h3 hl
    have h4 : 128 ≤ c.toNat := h3
    rw [valN_consN]
    have h5 : 256 ^ 8 ≤ 256 ^ t.length := Nat.pow_le_pow_right (by decide) (by simp at hl; omega)
    have h6 : 1 * 256 ^ 8 ≤ c.toNat * 256 ^ t.length := Nat.mul_le_mul (by omega) h5
    have h7 : (256 : Nat) ^ 8 = 18446744073709551616 := by decide
    omega
theorem IntAt.keep {w w' : World} {p n r : Nat} {v : Value} {b : Bool} (h : IntAt w p n) (hr : BoxAt3 w r b v) (hpr : p ≠ r) (hs : w.heap.size ≤ w'.heap.size) (ho : ∀ k, k < w.heap.size → k ≠ r → w'.heap[k]? = w.heap[k]?) : IntAt w' p n := h.other hr hpr hs ho
/-- what lies there while Power goes on -/
structure PowAt (w0 w : World) (po pn pa pd o n a d : Nat) : Prop where
  o : IntAt w po o
  n : IntAt w pn n
  a : IntAt w pa a
  d : IntAt w pd d
  on : pn ≠ po
  oa : pa ≠ po
  od : pd ≠ po
  b : Below w0.heap.size w0 w
  lo : w0.heap.size ≤ po
theorem PowAt.step {w0 w w' : World} {po pn pa pd o n a d o' : Nat} (h : PowAt w0 w po pn pa pd o n a d) (hi : IntAt w' po o') (hb : ∀ B, B ≤ po → Below B w w') (ho : ∀ k, k < w.heap.size → k ≠ po → w'.heap[k]? = w.heap[k]?) (hs : w.heap.size ≤ w'.heap.size) : PowAt w0 w' po pn pa pd o' n a d := by
  obtain ⟨v, hbx⟩ := h.o.boxed
  exact ⟨hi, h.n.keep hbx h.on hs ho, h.a.keep hbx h.oa hs ho, h.d.keep hbx h.od hs ho, h.on, h.oa, h.od, h.b.trans (hb _ h.lo), h.lo⟩
theorem sq_lt {o n : Nat} (h : o < n) (hn : n < B32 ^ 24) (y : Nat) (hy : y < n) : o * y < B32 ^ 5000 := by
  have := Nat.mul_lt_mul'' (Nat.lt_trans h hn) (Nat.lt_trans hy hn)
  rw [← Nat.pow_add] at this
  exact lt_up this 5000 (by decide)
theorem down1 {i : Nat} (h : (i : Int) ≤ 1000000) : ∃ z : Int, z = (i : Int) - 1 ∧ wrap64 ((i : Int) - 1) = z := ⟨_, rfl, by unfold wrap64; omega⟩
theorem len_bd {d L : Nat} (hL : IsLen d L) (h : d < B32 ^ 200) : L ≤ 6400 := by
  by_cases h0 : d = 0
  · rw [hL.2.1 h0]; omega
  · exact isLen_leK hL h0 h (by decide)
set_option maxHeartbeats 4000000 in
theorem rpower_any (m x : ByteArray) (pd d : Nat) (w : World) (hd : IntAt w pd d) (hdl : d < B32 ^ 200) :
    Calls Tryz.prog 38 #[.string m, .string x, .pointer (some ⟨pd, 0, none⟩)] w fun e w' => e = .returned (.tuple #[.string (powT m x d), .int .i64 (powE m x)]) ∧ Below w.heap.size w w' := by
  have N1 := hide (fun W => rmodulus_any m W)
  by_cases hm : isModB m = true
  case neg =>
    have hm' : isModB m = false := by simpa using hm
    have hE : powE m x = 1 := by unfold powE; rw [hm']; rfl
    have hT : powT m x d = ⟨#[]⟩ := by unfold powT; rw [hE]; rfl
    rw [hE, hT]
    rw [hm'] at N1
    clear hm hm' hE hT hd hdl
    go_enter Tryz.func38, Tryz.ntmps38
    go_wp2_with fail
    refine (unhide N1 _).mono ?_
    rintro e y ⟨rfl, hy⟩
    have hy2 := hy.symm
    subst hy2
    clear hy
    go_wp2
    go_ret2
    exact ⟨rfl, Below.refl _ _⟩
  by_cases hx : x.size = m.size
  case neg =>
    have hE : powE m x = 1 := by unfold powE; rw [hm, decide_eq_true hx]; rfl
    have hT : powT m x d = ⟨#[]⟩ := by unfold powT; rw [hE]; rfl
    rw [hE, hT]
    rw [hm] at N1
    have t1 : ((x.size : Int) != (m.size : Int)) = true := by rw [bne_iff_ne]; omega
    clear hm hE hT hx hd hdl
    go_enter Tryz.func38, Tryz.ntmps38
    go_wp2_with fail
    refine (unhide N1 _).mono ?_
    rintro e y ⟨rfl, hy⟩
    have hy2 := hy.symm
    subst hy2
    clear hy
    go_wp2
    go_ret2
    exact ⟨rfl, Below.refl _ _⟩
  obtain ⟨hn64, hn24, hm96, hm40⟩ := mod_big hm
  have t1 : ((x.size : Int) != (m.size : Int)) = false := by rw [bne_eq_false_iff_eq]; omega
  have N2 := hide (fun W => whole_any m W (by omega))
  have N3 := hide (fun W => whole_any x W (by omega))
  have hx24 := valN_96 x (by omega)
  have hEE : powE m x = if valN m.data.toList ≤ valN x.data.toList then 3 else 0 := by
    unfold powE; rw [hm, decide_eq_false (by simpa using hx)]; rfl
  have hTT : powE m x = 0 → powT m x d = strOfNums (bigL (valN x.data.toList ^ d % valN m.data.toList) m.size) := fun h => by unfold powT; rw [if_pos h]
  have hTN : powE m x = 3 → powT m x d = ⟨#[]⟩ := fun h => by unfold powT; rw [h]; rfl
  have hmb : valN m.data.toList < 256 ^ m.size := by
    have := valN_lt m.data.toList
    simpa using this
  rw [hm] at N1
  generalize valN m.data.toList = n at *
  generalize valN x.data.toList = a at *
  have HE := hide hEE; have HT := hide hTT; have HTN := hide hTN; have HB := hide (And.intro hn64 (And.intro hn24 (And.intro hx24 (And.intro hmb (And.intro hm96 hdl))))); have HD := hide hd
  generalize powE m x = pe at *
  generalize powT m x d = pt at *
  clear hm hx hn64 hn24 hm96 hm40 hx24 hEE hTT hTN hmb hd hdl
  go_enter Tryz.func38, Tryz.ntmps38
  go_wp2_with fail
  refine (unhide N1 _).mono ?_
  rintro e y0 ⟨rfl, hy⟩
  have hy2 := hy.symm
  subst hy2
  clear hy
  go_wp2_with fail
  refine (unhide N2 _).mono ?_
  rintro e w1 ⟨⟨rfl, hI1⟩, k1, l1⟩
  have HI1 := hide hI1; have HK1 := hide k1; have HL1 := hide l1
  clear hI1 k1 l1
  go_wp2_with fail
  refine (unhide N3 _).mono ?_
  rintro e w2 ⟨⟨rfl, hI2⟩, k2, l2⟩
  have hI1 := (unhide HI1).below k2
  have hk := ext_callB (unhide HK1) k2
  obtain ⟨hn64, hn24, hx24, hmb, hm96, hdl⟩ := unhide HB
  have NC := hide (bigCmp_any w1.heap.size w.heap.size a n w2 hI2 hI1 (lt_up hx24 10000 (by decide)) (lt_up hn24 10000 (by decide)))
  have HP := hide (And.intro hI1 (And.intro hI2 (And.intro hk (And.intro (unhide HL1) l2))))
  clear hI1 hI2 k2 l2 hk hn64 hn24 hx24 hmb hm96 hdl HI1 HK1 HL1
  go_wp2_with fail
  refine (unhide NC).mono ?_
  rintro e w3 ⟨rfl, k3⟩
  by_cases hlt : a < n
  case neg =>
    have ho : (0 : Int) ≤ ordI a n := by unfold ordI; rw [if_neg hlt]; split <;> decide
    have he : pe = 3 := by rw [unhide HE, if_pos (by omega)]
    have ht := unhide HTN he
    subst he
    subst ht
    have HKK := hide (ext_callB (unhide HP).2.2.1 k3)
    generalize ordI a n = od at *
    clear k3 hlt
    go_wp2
    go_ret2
    exact ⟨rfl, unhide HKK⟩
  have ho : ¬ (0 : Int) ≤ ordI a n := by unfold ordI; rw [if_pos hlt]; decide
  have he : pe = 0 := by rw [unhide HE, if_neg (by omega)]
  have ht := unhide HT he
  subst he
  have N4 := hide (fun W => newInt_any 1 W (by decide))
  obtain ⟨hI1, hI2, hk, l1, l2⟩ := unhide HP
  have hk3 := ext_callB hk k3
  have HQ := hide (And.intro (hI1.below k3) (And.intro (hI2.below k3) (And.intro hk3 (And.intro l1 (And.intro l2 k3.size)))))
  have HLT := hide hlt; have HPT := hide ht
  generalize ordI a n = od at *
  clear hI1 hI2 hk l1 l2 hk3 k3 hlt ht HP HE HT HTN NC
  go_wp2_with fail
  refine (unhide N4 _).mono ?_
  rintro e w4 ⟨rfl, hJ, k4, l4⟩
  obtain ⟨hI1, hI2, hk3, l1, l2, l3⟩ := unhide HQ
  have hP : PowAt w w4 w3.heap.size w.heap.size w1.heap.size pd 1 n a d := ⟨hJ, hI1.below k4, hI2.below k4, ((unhide HD).below hk3).below k4, by omega, by omega, by have := (unhide HD).lt; omega, ext_callB hk3 k4, hk3.size⟩
  have NL := hide (bitLen_any pd d w4 hP.d (lt_up (unhide HB).2.2.2.2.2 10000 (by decide)))
  have HPW := hide hP
  generalize w3.heap.size = po at *
  generalize w1.heap.size = pa at *
  clear hJ k4 l4 hI1 hI2 hk3 l1 l2 l3 hP HQ N1 N2 N3 N4
  go_wp2_with fail
  refine (unhide NL).mono ?_
  rintro e w5 ⟨⟨L, rfl, hL⟩, hw5⟩
  have hw6 := hw5.symm
  subst hw6
  clear hw5
  have hLb := len_bd hL (unhide HB).2.2.2.2.2
  have h0 : d / 2 ^ L = 0 := Nat.div_eq_of_lt hL.1
  obtain ⟨z0, hz0, e33⟩ := down1 (i := L) (by omega)
  have hn1 : 1 < n := by have := (unhide HB).1; omega
  have HST : Hid (PowAt w w4 po w.heap.size pa pd (a ^ (d / 2 ^ L) % n) n a d) := hide (by
    rw [h0, Nat.pow_zero, Nat.mod_eq_of_lt hn1]; exact unhide HPW)
  have HZ0 := hide hz0; have HLB := hide hLb
  clear hL hLb h0 hz0 hn1 HPW NL
  go_wp2
  go_loopw [11] (fun v wr => ∃ (k : Nat) (z : Int), v = .int .i64 z ∧ z = (k : Int) - 1 ∧ k ≤ L ∧ PowAt w wr po w.heap.size pa pd (a ^ (d / 2 ^ k) % n) n a d) (fun v _ => (intOf v + 1).toNat)
  case atStart => exact ⟨L, z0, by first | rfl | (rw [e33]), unhide HZ0, Nat.le_refl _, unhide HST⟩
  case round =>
    clear e33
    obtain ⟨k, z, rfl, hz, hk, hP⟩ := hrel
    obtain ⟨hn64, hn24, hx24, hmb, hm96, hdl⟩ := unhide HB
    have hlt := unhide HLT
    have hn0 : 0 < n := by omega
    cases k with
    | zero =>
      have hz9 : z = -1 := by rw [hz]; rfl
      subst hz9
      clear hz
      rw [Nat.pow_zero, Nat.div_one] at hP
      have hol : a ^ d % n < n := Nat.mod_lt _ hn0
      have NW := hide (rwide_any po (a ^ d % n) m.size wr hP.o (Nat.lt_trans hol hmb) (by omega) (lt_up (Nat.lt_trans hol hn24) 10000 (by decide)))
      rw [← unhide HPT] at NW
      have HBP := hide hP.b
      clear hP hol hn64 hn24 hx24 hmb hm96 hdl hlt hn0 hk
      go_wp2_with fail
      refine (unhide NW).mono ?_
      rintro e y ⟨rfl, ky⟩
      have HF := hide (ext_callB (unhide HBP) ky)
      clear ky
      go_wp2
      go_ret2
      exact ⟨rfl, unhide HF⟩
    | succ i =>
      have hz9 : z = (i : Int) := by rw [hz]; simp
      subst hz9
      clear hz
      have hi : (i : Int) ≤ 1000000 := by have := unhide HLB; omega
      obtain ⟨z2, hz2, e37⟩ := down1 hi
      have hMS : Hid ((z2 + 1).toNat < ((i : Int) + 1).toNat) := hide (by omega)
      have HZ2 := hide hz2
      have hi0 : (0 : Int) ≤ (i : Int) := Int.natCast_nonneg _
      obtain ⟨o, hoe⟩ : ∃ o, o = a ^ (d / 2 ^ (i + 1)) % n := ⟨_, rfl⟩
      have hol : o < n := by rw [hoe]; exact Nat.mod_lt _ hn0
      have HM1 := hide (fun hb => pow_more a d i n hn0 hb)
      have HM0 := hide (fun hb => pow_less a d i n hb)
      rw [← hoe] at hP HM1 HM0
      have HKL := hide hk
      have N1 := hide (mulOwn_any po po o o wr hP.o hP.o (lt_up (Nat.lt_trans hol hn24) 5000 (by decide)) (lt_up (Nat.lt_trans hol hn24) 5000 (by decide)))
      have HPP := hide hP
      have HO := hide (And.intro hol (And.intro hn64 (And.intro hn24 (And.intro hlt hn0))))
      have HI := hide hi
      clear hP hol hn64 hn24 hx24 hmb hm96 hdl hlt hn0 hk hoe hz2 hi
      go_wp2_with fail
      refine (unhide N1).mono ?_
      rintro e y1 ⟨rfl, q1, q2, q3, q4⟩
      have hP1 := (unhide HPP).step q1 q2 q3 q4
      obtain ⟨hol, hn64, hn24, hlt, hn0⟩ := unhide HO
      obtain ⟨v1, hb1⟩ := hP1.o.boxed
      have N2 := hide (bigModK_any po po w.heap.size (o * o) n false v1 y1 hb1 hP1.o hP1.n (sq_lt hol hn24 o hol) (lt_up hn24 5000 (by decide)) hn64)
      have HP1 := hide hP1
      clear q1 q2 q3 q4 hP1 hb1 hol hn64 hn24 hlt hn0 N1
      go_wp2_with fail
      refine (unhide N2).mono ?_
      rintro e y2 ⟨rfl, q1, q2, q3, q4⟩
      have hP2 := (unhide HP1).step q1 q2 q3 q4
      have N3 := hide (bigBit_any pd d i y2 hP2.d (unhide HI))
      have HP2 := hide hP2
      clear q1 q2 q3 q4 hP2 N2
      by_cases hb : d / 2 ^ i % 2 = 1
      · rw [hb] at N3
        have HE1 := hide (unhide HM1 hb)
        clear hb HM1 HM0
        go_wp2_with fail
        refine (unhide N3).mono ?_
        rintro e y3 ⟨rfl, hy3⟩
        have hy4 := hy3.symm
        subst hy4
        clear hy3
        obtain ⟨hol, hn64, hn24, hlt, hn0⟩ := unhide HO
        have ho2 : o * o % n < n := Nat.mod_lt _ hn0
        have N4 := hide (mulOwn_any po pa (o * o % n) a y2 (unhide HP2).o (unhide HP2).a (lt_up (Nat.lt_trans ho2 hn24) 5000 (by decide)) (lt_up (Nat.lt_trans hlt hn24) 5000 (by decide)))
        clear hol hn64 hn24 hlt hn0 ho2
        go_wp2_with fail
        refine (unhide N4).mono ?_
        rintro e y4 ⟨rfl, q1, q2, q3, q4⟩
        have hP4 := (unhide HP2).step q1 q2 q3 q4
        obtain ⟨hol, hn64, hn24, hlt, hn0⟩ := unhide HO
        have ho2 : o * o % n < n := Nat.mod_lt _ hn0
        obtain ⟨v4, hb4⟩ := hP4.o.boxed
        have N5 := hide (bigModK_any po po w.heap.size (o * o % n * a) n false v4 y4 hb4 hP4.o hP4.n (sq_lt ho2 hn24 a hlt) (lt_up hn24 5000 (by decide)) hn64)
        have HP4 := hide hP4
        clear q1 q2 q3 q4 hP4 hb4 hol hn64 hn24 hlt hn0 ho2 N4
        go_wp2_with fail
        refine (unhide N5).mono ?_
        rintro e y5 ⟨rfl, q1, q2, q3, q4⟩
        have hP5 := (unhide HP4).step q1 q2 q3 q4
        rw [unhide HE1] at hP5
        have HREL : Hid (∃ (k : Nat) (z : Int), Value.int .i64 z2 = .int .i64 z ∧ z = (k : Int) - 1 ∧ k ≤ L ∧ PowAt w y5 po w.heap.size pa pd (a ^ (d / 2 ^ k) % n) n a d) := hide ⟨i, z2, rfl, unhide HZ2, Nat.le_of_succ_le (unhide HKL), hP5⟩
        clear q1 q2 q3 q4 hP5
        go_wp2
        go_roundw
        case rel =>
          first
          | exact unhide HREL
          | (rw [e37]; exact unhide HREL)
        case measure =>
          have hme := unhide hMS
          first
          | (simpa [intOf] using hme)
          | (rw [← e37] at hme; simpa [intOf] using hme)
      · have hb0 : d / 2 ^ i % 2 = 0 := by omega
        rw [hb0] at N3
        have HE0 := hide (unhide HM0 hb)
        clear hb hb0 HM1 HM0
        go_wp2_with fail
        refine (unhide N3).mono ?_
        rintro e y3 ⟨rfl, hy3⟩
        have hy4 := hy3.symm
        subst hy4
        clear hy3
        have hP5 := unhide HP2
        rw [unhide HE0] at hP5
        have HREL : Hid (∃ (k : Nat) (z : Int), Value.int .i64 z2 = .int .i64 z ∧ z = (k : Int) - 1 ∧ k ≤ L ∧ PowAt w y2 po w.heap.size pa pd (a ^ (d / 2 ^ k) % n) n a d) := hide ⟨i, z2, rfl, unhide HZ2, Nat.le_of_succ_le (unhide HKL), hP5⟩
        clear hP5
        go_wp2
        go_roundw
        case rel =>
          first
          | exact unhide HREL
          | (rw [e37]; exact unhide HREL)
        case measure =>
          have hme := unhide hMS
          first
          | (simpa [intOf] using hme)
          | (rw [← e37] at hme; simpa [intOf] using hme)
end Go.Proofs.YtckkhpegimkefaaGreatDoor
namespace Go.Proofs.YtckkhpegimkefaaGreatDoor
open Go.RowKit
set_option linter.unusedVariables false
set_option linter.unusedSimpArgs false
set_option maxRecDepth 100000

/-- what Root answers -/
def rootE (p q x : ByteArray) : Int := if secE p q = 0 then powE (secM p q) x else secE p q
def rootT (p q x : ByteArray) : ByteArray := if secE p q = 0 then powT (secM p q) x (secD p q) else ⟨#[]⟩
theorem open_all {p q : ByteArray} {w w' : World} {e : Ending} (h : OpenPost (valN p.data.toList) (valN q.data.toList) (isFacB p && isFacB q) w e w') :
    (secE p q ≠ 0 ∧ ∃ v, e = .returned (.tuple #[.string ⟨#[]⟩, v, .int .i64 (secE p q)])) ∨ (secE p q = 0 ∧ ∃ g row, e = .returned (.tuple #[.string (secM p q), .slice (some ⟨g, 0, none⟩) row.length row.length, .int .i64 0]) ∧ URow w' g row ∧ okW row ∧ natW row = secD p q ∧ row.length ≤ 100) := by
  cases h with
  | form hf he =>
    have hE : secE p q = 1 := by unfold secE; rw [hf]; rfl
    exact .inl ⟨by rw [hE]; decide, _, by rw [hE]; exact he⟩
  | mod L hf hL hm he =>
    rw [isLen_lenBN hL] at hm
    have hE : secE p q = 1 := by unfold secE secT; rw [hf, hm]; rfl
    exact .inl ⟨by rw [hE]; decide, _, by rw [hE]; exact he⟩
  | third L hf hL hm h3 he =>
    rw [isLen_lenBN hL] at hm
    have hE : secE p q = 5 := by unfold secE secT; rw [hf, hm, if_pos h3]; rfl
    exact .inl ⟨by rw [hE]; decide, _, by rw [hE]; exact he⟩
  | ok L g row hf hL hm h3 he hU ho hg hn hlr =>
    rw [isLen_lenBN hL] at hm he
    have hE : secE p q = 0 := by unfold secE secT; rw [hf, hm, if_neg h3]; rfl
    have hM : secM p q = secT (valN p.data.toList) (valN q.data.toList) := by unfold secM; rw [if_pos hE]
    refine .inr ⟨hE, g, row, by rw [hM]; exact he, hU, ho, ?_, hlr⟩
    rw [hn]
    unfold secD
    rw [Nat.add_comm, Nat.mul_comm (3 - _)]
end Go.Proofs.YtckkhpegimkefaaGreatDoor
