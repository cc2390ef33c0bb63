/- The big numbers themselves: Bytes. -/
import Derived.Test.YtajkbkljonejnaaGreatDoorM25
import Derived.Deep.DeepCutAuto
import Derived.Test.YtajkbkljonejnaaGreatDoorM00
import Derived.Shelf.Bits.Mul64
import Derived.Laws.Externs
import Derived.Deep.QuietTactic
import Derived.BigQuiet
import Derived.Deep.RegionWith
namespace Go.Proofs.YtajkbkljonejnaaGreatDoor
open Go.RowKit
set_option linter.unusedVariables false
theorem dig_get (n : Nat) : ∀ i x, (dig n)[i]? = some x → x = n / B32 ^ i % B32 := by
  induction n using Nat.strongRecOn with
  | _ n ih =>
    intro i x h
    by_cases h0 : n = 0
    · subst h0; rw [dig_zero] at h; simp at h
    · rw [dig_pos h0] at h
      cases i with
      | zero =>
        obtain rfl : n % B32 = x := by simpa using h
        simp
      | succ i =>
        have := ih _ (Nat.div_lt_self (by omega) B32_two) i x (by simpa using h)
        rw [this, Nat.div_div_eq_div_mul, Nat.pow_succ, Nat.mul_comm B32]
theorem byte_word (n i : Nat) : n / B32 ^ (i / 4) % B32 / 2 ^ (8 * (i % 4)) % 256 = n / 256 ^ i % 256 := by
  rw [B32_bytes]
  have e1 : (256 : Nat) ^ i = 256 ^ (4 * (i / 4)) * 2 ^ (8 * (i % 4)) := by
    conv => lhs; rw [← Nat.div_add_mod i 4]
    rw [Nat.pow_add, Nat.pow_mul 2 8 (i % 4)]
  rw [e1, ← Nat.div_div_eq_div_mul]
  generalize n / 256 ^ (4 * (i / 4)) = m
  have h4 : i % 4 = 0 ∨ i % 4 = 1 ∨ i % 4 = 2 ∨ i % 4 = 3 := by omega
  show m % 4294967296 / 2 ^ (8 * (i % 4)) % 256 = m / 2 ^ (8 * (i % 4)) % 256
  rcases h4 with h | h | h | h <;> rw [h] <;> omega
theorem word_there {n L i : Nat} (hL : IsLen n L) (hi : i < (L + 7) / 8) : i / 4 < (dig n).length := by
  have hn : n ≠ 0 := fun e => by have := hL.2.1 e; omega
  obtain ⟨h1, h2⟩ := hL.2.2 hn
  have h3 : 2 ^ (32 * (i / 4)) ≤ n := Nat.le_trans (Nat.pow_le_pow_right (by decide) (by omega)) h2
  have h4 := lt_dig n
  rw [B32_twoP] at h4
  rcases Nat.lt_or_ge (i / 4) (dig n).length with h | h
  · exact h
  · have := Nat.pow_le_pow_right (show 0 < 2 by decide) (show 32 * (dig n).length ≤ 32 * (i / 4) by omega)
    omega
def YRow (w : World) (g : Nat) (L : List Int) : Prop := w.heap[g]? = some (.cells (L.map (Value.int .u8)).toArray 5 (0, 0))
theorem YRow.set {w : World} {g : Nat} {L : List Int} (h : YRow w g L) (i : Nat) (x : Int) : YRow (w.setCell ⟨g, i, none⟩ (.int .u8 x)) g (L.set i x) := by
  unfold YRow at *
  have : (w.setCell ⟨g, i, none⟩ (.int .u8 x)).heap[g]? = some (.cells ((L.map (Value.int .u8)).toArray.setIfInBounds i (.int .u8 x)) 5 (0, 0)) := by
    simp [World.setCell, Array.getElem?_modify, h]
  rw [this, List.setIfInBounds_toArray, List.map_set]
theorem YRow.cell {w : World} {g : Nat} {L : List Int} (h : YRow w g L) (i : Nat) (x : Int) (hi : L[i]? = some x) : w.cell? ⟨g, i, none⟩ = some (.int .u8 x) := by
  rw [cell_of_row _ _ i _ _ _ h]
  simp [hi]
theorem YRow.frozen {w : World} {g : Nat} {L : List Int} (h : YRow w g L) (i : Nat) : w.frozen? ⟨g, i, none⟩ = false := frozen_of_row _ _ i _ _ h
theorem infoU8B : (Tryz.prog.info? 5).map (fun i => (i.zero, i.size, i.bytes)) = some (some (.int .u8 0), 1, 1) := by kernel_rfl
end Go.Proofs.YtajkbkljonejnaaGreatDoor
namespace Go.Proofs.YtajkbkljonejnaaGreatDoor
open Go.RowKit
set_option linter.unusedVariables false
theorem by1 (k i j : Nat) (hj : j = k - 1 - i) (hlt : i < k) (hk : (k : Int) ≤ 50000) : IntKind.i64.wrap ((k : Int) - 1) = (k : Int) - 1 ∧ IntKind.i64.wrap ((k : Int) - 1 - (i : Int)) = (j : Int) := by
  constructor <;> (rw [IntKind.wrap_i64]; omega)
theorem by2 (i m s sh : Nat) (hm : m = i / 4) (hs : s = i % 4) (hsh : sh = 8 * s) (hi : i ≤ 50000) : wrap64 ((i : Int).tdiv 4) = (m : Int) ∧ IntKind.u64.wrap (i : Int) = (i : Int) ∧ (i : Int) % 4 = (s : Int) ∧ IntKind.u64.wrap (8 * (s : Int)) = (sh : Int) ∧ sh ≤ 24 := by
  refine ⟨by rw [Int.tdiv_eq_ediv_of_nonneg (by omega)]; unfold wrap64; omega, wraps_u64 _ (by omega) (by omega), by omega, by rw [wraps_u64 _ (by omega) (by omega)]; omega, by omega⟩
theorem by3 (n i m s sh x : Nat) (hm : m = i / 4) (hs : s = i % 4) (hsh : sh = 8 * s) (hx : (dig n)[m]? = some x) : ∃ y bt : Nat, (x : Int).fdiv (2 ^ min (Int.toNat (sh : Int)) IntKind.u32.bits) = (y : Int) ∧ (y : Int) % 256 = (bt : Int) ∧ ((n / 256 ^ i % 256 : Nat) : Int) = (bt : Int) := by
  have hb := byte_word n i
  have hxv := dig_get n m x hx
  rw [hm] at hxv
  rw [← hxv] at hb
  refine ⟨x / 2 ^ sh, n / 256 ^ i % 256, ?_, ?_, rfl⟩
  · have h24 : sh ≤ 32 := by clear hb hxv hx; omega
    rw [Int.toNat_natCast, Nat.min_eq_left (show sh ≤ IntKind.u32.bits from h24), Int.fdiv_eq_ediv_of_nonneg _ (Int.le_of_lt (Int.pow_pos (by decide)))]
    rw [show ((2 : Int) ^ sh) = ((2 ^ sh : Nat) : Int) from (Int.natCast_pow 2 sh).symm]
    exact (Int.natCast_ediv x (2 ^ sh)).symm
  · rw [← hb, hsh, hs]
    exact (Int.natCast_emod _ _).symm
theorem len_bound {n L : Nat} (hL : IsLen n L) (hd : (dig n).length ≤ 10000) : L ≤ 320000 := by
  by_cases h0 : n = 0
  · rw [hL.2.1 h0]; decide
  · obtain ⟨h1, h2⟩ := hL.2.2 h0
    have h4 := lt_dig n
    rw [B32_twoP] at h4
    have h5 := (Nat.pow_lt_pow_iff_right (show 1 < 2 by decide)).1 (Nat.lt_of_le_of_lt h2 h4)
    clear h2 h4 hL
    omega
set_option maxHeartbeats 4000000 in
set_option maxRecDepth 100000 in
theorem bigBytes_any (p n : Nat) (w : World) (h : IntAt w p n) (hn : n < B32 ^ 10000) :
    Calls Tryz.prog 57 #[.pointer (some ⟨p, 0, none⟩)] w fun e w' => (∃ k L : Nat, IsLen n L ∧ k = (L + 7) / 8 ∧ e = .returned (.slice (some ⟨w.heap.size, 0, none⟩) k k) ∧ YRow w' w.heap.size (bigL n k)) ∧ Below w.heap.size w w' := by
  obtain ⟨v, hb, hv⟩ := h
  have N1 := hide (blength_any n v w hv hn)
  obtain ⟨c0, c1⟩ := hb.cells
  obtain ⟨ao, cap, rfl, hr⟩ := hv
  have hdl := dig_len 10000 n hn
  have hplt := heap_lt hb.1
  obtain ⟨i0, hi, hz0, hz1, hz2⟩ := info_partsV infoU8B
  have HR := hide hr
  clear hb hr hn
  go_enter Tryz.func57, Tryz.ntmps57
  go_upto_region 1 with fail
  go_cut [3] (fun v wx => ∃ k L : Nat, v = .int .i64 (k : Nat) ∧ IsLen n L ∧ k = (L + 7) / 8 ∧ L ≤ 320000 ∧ wx = w)
  case first =>
    go_wp2_with fail
    refine (unhide N1).mono ?_
    rintro e w' ⟨⟨L, rfl, hL⟩, hw⟩
    have hw' := hw.symm
    subst hw'
    have hLb := len_bound hL hdl
    have HL := hide (And.intro hL hLb)
    obtain ⟨k, hk⟩ : ∃ k, k = (L + 7) / 8 := ⟨_, rfl⟩
    have w1 : IntKind.i64.wrap ((L : Int) + 7) = (L : Int) + 7 := by rw [IntKind.wrap_i64]; omega
    have w2 : wrap64 (((L : Int) + 7).tdiv 8) = (k : Int) := by rw [Int.tdiv_eq_ediv_of_nonneg (by omega)]; unfold wrap64; omega
    have HK := hide hk
    clear hL hLb hk
    go_wp2
    go_meet
    exact ⟨k, L, by rw [w2], (unhide HL).1, unhide HK, (unhide HL).2, rfl⟩
  case rest =>
  obtain ⟨k, L, rfl, hL, hk, hLb, hwc⟩ := hcut
  have hwc' := hwc.symm
  subst hwc'
  clear hwc
  have hkb : (k : Int) ≤ 50000 := by omega
  have HL := hide hL; have HK := hide hk
  clear hL hk hLb N1
  go_wp2_with (at_make; refine wpList_make_full _ rfl _ _ 55 rfl w.heap.size 5 i0 (.int .u8 0) 1 Tryz.underlying55 hi hz0 hz1 .i64 .i64 _ _ k rfl rfl (by simp) (by simp) (by rw [hz2]; omega) (by unfold maxLen; omega) (Nat.le_refl _) ?_)
  intro w1 hown hgrow
  have hU : YRow w1 w.heap.size (rowAt n k 0) := by
    have := own_wholeV hown
    rw [made_row k n] at this
    exact this
  have hb : Below w.heap.size w w1 := (Below.refl _ _).grown hgrow (Nat.le_refl _) (fun q hq => by cases hq)
  clear hown hgrow hi hz0 hz1 hz2
  go_wp2
  go_loopw [5] (fun iv wr => ∃ i : Nat, i ≤ k ∧ iv = .int .i64 i ∧ YRow wr w.heap.size (rowAt n k i) ∧ Below w.heap.size w wr) (fun iv _ => k - (intOf iv).toNat)
  case atStart => exact ⟨0, Nat.zero_le _, rfl, hU, hb⟩
  case round =>
    clear hU hb
    obtain ⟨i, hik, rfl, hU, hbel⟩ := hrel
    by_cases hlt : i < k
    · obtain ⟨j, hj⟩ : ∃ j, j = k - 1 - i := ⟨_, rfl⟩
      obtain ⟨m, hm⟩ : ∃ m, m = i / 4 := ⟨_, rfl⟩
      obtain ⟨s, hs⟩ : ∃ s, s = i % 4 := ⟨_, rfl⟩
      obtain ⟨sh, hsh⟩ : ∃ s', s' = 8 * s := ⟨_, rfl⟩
      have hi5 : i ≤ 50000 := by omega
      have em : (i : Int) / 4 = (m : Int) := by omega
      have hjk : (j : Int) < (k : Int) := by omega
      have hjk2 : j < k := by omega
      obtain ⟨a1, a2⟩ := by1 k i j hj hlt hkb
      obtain ⟨a3, a4, a5, a6, hsh24⟩ := by2 i m s sh hm hs hsh hi5
      have HJ := hide hj; have HM := hide hm; have HS := hide hs; have HSH := hide hsh
      clear hj hm hs hsh
      have hwt := word_there (unhide HL) (by rw [← unhide HK]; exact hlt)
      rw [← unhide HM] at hwt
      have hmd : (m : Int) < ((dig n).length : Int) := Int.ofNat_lt.2 hwt
      obtain ⟨x, hx⟩ : ∃ x, (dig n)[m]? = some x := ⟨_, List.getElem?_eq_getElem hwt⟩
      rcases (unhide HR) with hnil | ⟨g, off, rfl, hg, hc⟩
      · rw [hnil] at hx; simp at hx
      have d0 : wr.cell? ⟨g, off + m, none⟩ = some (.int .u32 (x : Nat)) := (hbel.cell (p := ⟨g, off + m, none⟩) hg).trans (hc _ x hx)
      have hm1 : (i : Int) / 4 < ((dig n).length : Int) := by rw [em]; exact hmd
      have hm0 : (0 : Int) ≤ (i : Int) / 4 := by rw [em]; exact Int.natCast_nonneg m
      have d0' : wr.cell? ⟨g, off + i / 4, none⟩ = some (.int .u32 (x : Nat)) := by rw [← unhide HM]; exact d0
      clear em
      have d1 : wr.cell? ⟨p, 1, none⟩ = some (.slice (some ⟨g, off, none⟩) (dig n).length cap) := (hbel.cell (p := ⟨p, 1, none⟩) hplt).trans c1
      have hset := rowAt_set n k i hlt
      rw [← unhide HJ] at hset
      obtain ⟨z, hz⟩ : ∃ z, (rowAt n k i)[j]? = some z := ⟨_, List.getElem?_eq_getElem (by rw [rowAt_length n k i (Nat.le_of_lt hlt)]; exact hjk2)⟩
      have q0 := hU.cell _ z hz
      have f0 := hU.frozen j
      obtain ⟨y, bt, a7, a8, hbt⟩ := by3 n i m s sh x (unhide HM) (unhide HS) (unhide HSH) hx
      rw [hbt] at hset
      have HU1 := hide (hU.set j (bt : Int)); have HBE := hide (hbel.setCell (p := ⟨w.heap.size, j, none⟩) (Nat.le_refl _) (.int .u8 (bt : Int)))
      have HSET := hide hset
      have hV : (x : Int) / 2 ^ min sh 32 % 256 = (bt : Int) := by
        have h := a7
        rw [Int.toNat_natCast, Int.fdiv_eq_ediv_of_nonneg _ (Int.le_of_lt (Int.pow_pos (by decide)))] at h
        have h2 : (x : Int) / 2 ^ min sh 32 = (y : Int) := h
        rw [h2]; exact a8
      have HV := hide hV
      clear hV a7 a8
      clear hc hx hset hz hU hbel hwt hsh24 hbt hjk2
      go_wp2
      go_roundw
      case rel =>
        refine ⟨i + 1, hlt, by go_num, ?_, ?_⟩
        · rw [unhide HV, ← unhide HSET]; exact unhide HU1
        · rw [unhide HV]; exact unhide HBE
      case measure =>
        clear a1 a2 a3 a4 a5 a6
        simp [intOf]; omega
    · have hke : i = k := by omega
      subst hke
      have HU := hide hU; have HB := hide hbel
      clear hU hbel
      go_wp2
      go_ret
      exact ⟨⟨i, L, unhide HL, unhide HK, rfl, by have := unhide HU; rw [show rowAt n i i = bigL n i by simp [rowAt]] at this; exact this⟩, unhide HB⟩
end Go.Proofs.YtajkbkljonejnaaGreatDoor
namespace Go.Proofs.YtajkbkljonejnaaGreatDoor
open Go.RowKit
set_option linter.unusedVariables false
def B64 : Nat := 18446744073709551616
theorem B64_pos : 0 < B64 := by unfold B64; decide
def natW : List Nat → Nat
  | [] => 0
  | x :: r => x + B64 * natW r
def okW (l : List Nat) : Prop := ∀ x ∈ l, x < B64
theorem okW_get {l : List Nat} (h : okW l) {i x : Nat} (hi : l[i]? = some x) : x < B64 := h x (List.mem_of_getElem? hi)
theorem okW_append {a b : List Nat} (ha : okW a) (hb : okW b) : okW (a ++ b) := fun x hx => by
  rcases List.mem_append.1 hx with h | h
  · exact ha x h
  · exact hb x h
theorem okW_take {a : List Nat} (h : okW a) (n : Nat) : okW (a.take n) := fun x hx => h x (List.mem_of_mem_take hx)
theorem okW_drop {a : List Nat} (h : okW a) (n : Nat) : okW (a.drop n) := fun x hx => h x (List.mem_of_mem_drop hx)
theorem okW_set {a : List Nat} (h : okW a) (i x : Nat) (hx : x < B64) : okW (a.set i x) := fun y hy => by
  rcases List.mem_or_eq_of_mem_set hy with h1 | h1
  · exact h y h1
  · rw [h1]; exact hx
theorem okW_zeros (n : Nat) : okW (List.replicate n 0) := fun x hx => by
  rw [(List.mem_replicate.1 hx).2]; exact B64_pos
theorem natW_append (a b : List Nat) : natW (a ++ b) = natW a + B64 ^ a.length * natW b := by
  induction a with
  | nil => simp [natW]
  | cons x r ih =>
    simp only [List.cons_append, natW, List.length_cons, Nat.pow_succ, ih]
    grind
theorem natW_lt {l : List Nat} (h : okW l) : natW l < B64 ^ l.length := by
  induction l with
  | nil => simp [natW]
  | cons x r ih =>
    have hx := h x (by simp)
    have hr := ih (fun y hy => h y (by simp [hy]))
    simp only [natW, List.length_cons, Nat.pow_succ]
    have h2 : B64 * (natW r + 1) ≤ B64 * B64 ^ r.length := Nat.mul_le_mul_left _ hr
    have h3 : B64 * (natW r + 1) = B64 * natW r + B64 := by rw [Nat.mul_add, Nat.mul_one]
    have h4 : B64 ^ r.length * B64 = B64 * B64 ^ r.length := Nat.mul_comm _ _
    omega
theorem natW_zeros (n : Nat) : natW (List.replicate n 0) = 0 := by
  induction n with
  | zero => rfl
  | succ n ih => simp [List.replicate_succ, natW, ih]
theorem natW_take_succ (l : List Nat) (i x : Nat) (h : l[i]? = some x) : natW (l.take (i + 1)) = natW (l.take i) + x * B64 ^ i := by
  have hi : i < l.length := by
    rcases Nat.lt_or_ge i l.length with h' | h'
    · exact h'
    · rw [List.getElem?_eq_none h'] at h; cases h
  rw [List.take_add_one, h, natW_append, List.length_take, Nat.min_eq_left (by omega)]
  simp [natW, Nat.mul_comm]
theorem natW_split (l : List Nat) (k : Nat) (h : k ≤ l.length) : natW l = natW (l.take k) + B64 ^ k * natW (l.drop k) := by
  conv => lhs; rw [← List.take_append_drop k l]
  rw [natW_append, List.length_take, Nat.min_eq_left h]
def digN (x n o t : Nat) : Nat := x * n + o + t
theorem dig_lt (x n o t : Nat) (hx : x < B64) (hn : n < B64) (ho : o < B64) (ht : t < B64) : digN x n o t < B64 * B64 := by
  have h1 : x * n ≤ (B64 - 1) * (B64 - 1) := Nat.mul_le_mul (by omega) (by omega)
  have h2 : (B64 - 1) * (B64 - 1) = 340282366920938463426481119284349108225 := by unfold B64; rfl
  have h3 : B64 * B64 = 340282366920938463463374607431768211456 := by unfold B64; rfl
  unfold digN
  unfold B64 at ho ht
  omega
theorem dig_low (p o t : Nat) : (t + (p % B64 + o) % B64) % B64 = (p + o + t) % B64 := by unfold B64; omega
theorem dig_over (p o t : Nat) (ho : o < B64) (ht : t < B64) : p / B64 + (p % B64 + o) / B64 + (t + (p % B64 + o) % B64) / B64 = (p + o + t) / B64 := by unfold B64 at *; omega
theorem add_stepW (a o b c n d x t : Nat) (h : a + o * b = c + n * d) : a + digN x n o t % B64 * b + digN x n o t / B64 * (b * B64) = c + t * b + n * (d + x * b) := by
  have hq := Nat.div_add_mod (digN x n o t) B64
  generalize digN x n o t % B64 = r at *
  generalize digN x n o t / B64 = q at *
  unfold digN at hq
  grind
end Go.Proofs.YtajkbkljonejnaaGreatDoor
namespace Go.Proofs.YtajkbkljonejnaaGreatDoor
open Go.RowKit Go.Shelf
set_option linter.unusedVariables false
def Tryz.lays264_ren : Go.Shelf.Ren := ⟨fun | 264 => 145 | _ => 0, fun | 46 => 136 | 53 => 137 | _ => 0, fun _ => 0⟩
theorem Tryz.lays264 : Go.Proofs.Lays.n264 Tryz.prog Tryz.lays264_ren := {
  mixed := by kernel_rfl
  f264 := Tryz.func145.trans (congrArg some (by kernel_rfl))
  t46 := Tryz.underlying136
  a46 := Tryz.isAgg136
  z46 := Tryz.sizeOf136
  v46 := Tryz.zeroValue136
  t53 := Tryz.underlying137
  a53 := Tryz.isAgg137
  z53 := Tryz.sizeOf137
  v53 := Tryz.zeroValue137 }
theorem mul64_any (x y : Nat) (hx : x < B64) (hy : y < B64) (w : World) :
    Calls Tryz.prog 145 #[.int .u64 x, .int .u64 y] w fun e w' => e = .returned (.tuple #[.int .u64 ((x * y / B64 : Nat) : Int), .int .u64 ((x * y % B64 : Nat) : Int)]) ∧ w' = w :=
  Any.bits_Mul64 Tryz.lays264 x y hx hy w
theorem add64_run (x y c : Nat) (hc : c ≤ 1) (w : World) :
    (callFunc 156 #[.int .u64 x, .int .u64 y, .int .u64 c]).run Tryz.prog w = .ok (.value (.tuple #[.int .u64 (((x + y + c) % B64 : Nat) : Int), .int .u64 (((x + y + c) / B64 : Nat) : Int)])) w := by
  unfold B64
  rw [run_callFunc_extern Tryz.func156 (by kernel_rfl) (by kernel_rfl) (by kernel_rfl) (e := add64Entry) (by kernel_rfl), run_add64 x y c (by omega) (by omega) (by omega) (by omega)]
  simp only [Result.andThen]
  congr 5 <;> omega
theorem add64_run0 (x y : Nat) (w : World) :
    (callFunc 156 #[.int .u64 x, .int .u64 y, .int .u64 0]).run Tryz.prog w = .ok (.value (.tuple #[.int .u64 (((x + y) % B64 : Nat) : Int), .int .u64 (((x + y) / B64 : Nat) : Int)])) w := add64_run x y 0 (by omega) w
def NumAt (w : World) (g off : Nat) (ws : List Nat) : Prop := g < w.heap.size ∧ ∀ i x, ws[i]? = some x → w.cell? ⟨g, off + i, none⟩ = some (.int .u64 (x : Nat))
theorem NumAt.below {w w' : World} {g off : Nat} {ws : List Nat} (h : NumAt w g off ws) (hb : Below w.heap.size w w') : NumAt w' g off ws :=
  ⟨Nat.lt_of_lt_of_le h.1 hb.size, fun i x hi => (hb.cell (p := ⟨g, off + i, none⟩) h.1).trans (h.2 i x hi)⟩
def UCells (row : List Nat) : Array Value := (row.map fun x : Nat => Value.int .u64 (x : Int)).toArray
def URow (w : World) (g : Nat) (row : List Nat) : Prop := w.heap[g]? = some (.cells (UCells row) 137 (0, 0))
theorem URow.cell {w : World} {g : Nat} {row : List Nat} (h : URow w g row) (i x : Nat) (hi : row[i]? = some x) : w.cell? ⟨g, i, none⟩ = some (.int .u64 (x : Nat)) := by
  rw [cell_of_row _ _ i _ _ _ h]
  simp [UCells, hi]
theorem URow.frozen {w : World} {g : Nat} {row : List Nat} (h : URow w g row) (i : Nat) : w.frozen? ⟨g, i, none⟩ = false := frozen_of_row _ _ i _ _ h
theorem URow.lt {w : World} {g : Nat} {row : List Nat} (h : URow w g row) : g < w.heap.size := by
  rcases Nat.lt_or_ge g w.heap.size with h' | h'
  · exact h'
  · unfold URow at h
    rw [Array.getElem?_eq_none h'] at h; cases h
theorem set_rowN {w : World} {g j : Nat} {cs : Array Value} {e : TypeId} {fr : Nat × Nat} {v : Value} (h : w.heap[g]? = some (.cells cs e fr)) : (w.setCell ⟨g, j, none⟩ v).heap[g]? = some (.cells (cs.setIfInBounds j v) e fr) := by
  simp [World.setCell, Array.getElem?_modify, h]
theorem URow.set {w : World} {g : Nat} {row : List Nat} (h : URow w g row) (i x : Nat) : URow (w.setCell ⟨g, i, none⟩ (.int .u64 (x : Nat))) g (row.set i x) := by
  unfold URow
  rw [set_rowN h]
  congr 2
  unfold UCells
  rw [List.setIfInBounds_toArray, List.map_set]
theorem URow.numAt {w : World} {g : Nat} {row : List Nat} (h : URow w g row) (off : Nat) : NumAt w g off (row.drop off) :=
  ⟨h.lt, fun i x hi => h.cell (off + i) x (by rw [← hi, List.getElem?_drop])⟩
theorem URow.below {w w' : World} {g : Nat} {row : List Nat} (h : URow w g row) (hb : Below w.heap.size w w') : URow w' g row := by
  have hg := h.lt
  unfold URow at *
  rw [hb.block g hg, h]
theorem URow.drew {w : World} {g : Nat} {row : List Nat} (h : URow w g row) : URow w.drew g row := h
structure Only (g : Nat) (w w' : World) : Prop where
  os : w'.os = w.os
  tape : w'.tape = w.tape
  output : w'.output = w.output
  size : w'.heap.size = w.heap.size
  block : ∀ k, k ≠ g → w'.heap[k]? = w.heap[k]?
theorem Only.refl (g : Nat) (w : World) : Only g w w := ⟨rfl, rfl, rfl, rfl, fun _ _ => rfl⟩
theorem Only.setCell {g : Nat} {w w' : World} (h : Only g w w') (j : Nat) (v : Value) : Only g w (w'.setCell ⟨g, j, none⟩ v) :=
  ⟨h.os, h.tape, h.output, by simp [World.setCell, h.size], fun k hk => by rw [← h.block k hk]; simp [World.setCell, Array.getElem?_modify, Ne.symm hk]⟩
theorem Only.drew {g : Nat} {w w' : World} (h : Only g w w') : Only g w w'.drew := ⟨h.os, h.tape, h.output, h.size, h.block⟩
theorem Only.trans {g : Nat} {a b c : World} (h : Only g a b) (k : Only g b c) : Only g a c :=
  ⟨k.os.trans h.os, k.tape.trans h.tape, k.output.trans h.output, k.size.trans h.size, fun n hn => (k.block n hn).trans (h.block n hn)⟩
theorem Only.below {g B : Nat} {a b : World} (h : Only g a b) (hB : B ≤ g) : Below B a b := ⟨h.os, h.tape, h.output, by rw [h.size]; exact Nat.le_refl _, fun k hk => h.block k (by omega)⟩
theorem NumAt.only {w w' : World} {g off q : Nat} {ws : List Nat} (h : NumAt w g off ws) (hb : Only q w w') (hq : g ≠ q) : NumAt w' g off ws :=
  ⟨by rw [hb.size]; exact h.1, fun i x hi => by
    have hc := h.2 i x hi
    unfold World.cell? at *
    rw [hb.block g hq]
    exact hc⟩
end Go.Proofs.YtajkbkljonejnaaGreatDoor
namespace Go.Proofs.YtajkbkljonejnaaGreatDoor
open Go.RowKit Go.Shelf
set_option linter.unusedVariables false
theorem wrap64N (a b c : Nat) (h : a + b = c) (hc : c < B64) : IntKind.u64.wrap ((a : Int) + (b : Int)) = (c : Int) := by
  unfold B64 at hc
  rw [IntKind.wrap_u64]
  omega
theorem get_pre {pre u : List Nat} {i : Nat} : (pre ++ u)[pre.length + i]? = u[i]? := by
  rw [List.getElem?_append_right (by omega), Nat.add_sub_cancel_left]
theorem set_pre {pre u : List Nat} {i x : Nat} : (pre ++ u).set (pre.length + i) x = pre ++ u.set i x := by
  rw [List.set_append_right _ _ (by omega), Nat.add_sub_cancel_left]
theorem take_set (u : List Nat) (i x : Nat) (h : i < u.length) : (u.set i x).take (i + 1) = u.take i ++ [x] := by
  rw [List.take_set, List.take_add_one, List.getElem?_eq_getElem h, List.set_append_right _ _ (by simp; omega), List.length_take, Nat.min_eq_left (by omega), Nat.sub_self]
  rfl
theorem drop_set (u : List Nat) (i x : Nat) : (u.set i x).drop (i + 1) = u.drop (i + 1) := by
  rw [List.drop_set_of_lt (by omega)]
structure AddAt (r0 xs : List Nat) (n i : Nat) (u : List Nat) (o : Nat) : Prop where
  len : u.length = r0.length
  ok : okW u
  rest : u.drop i = r0.drop i
  sum : natW (u.take i) + o * B64 ^ i = natW (r0.take i) + n * natW (xs.take i)
  lt : o < B64
theorem AddAt.step {r0 xs : List Nat} {n i o xw tw : Nat} {u : List Nat} (h : AddAt r0 xs n i u o) (hx : xs[i]? = some xw) (ht : u[i]? = some tw) (hn : n < B64) (hxw : xw < B64) :
    AddAt r0 xs n (i + 1) (u.set i (digN xw n o tw % B64)) (digN xw n o tw / B64) := by
  have htw := okW_get h.ok ht
  have hi : i < u.length := by
    rcases Nat.lt_or_ge i u.length with h' | h'
    · exact h'
    · rw [List.getElem?_eq_none h'] at ht; cases ht
  have hr : r0[i]? = some tw := by
    have e : u.drop i = r0.drop i := h.rest
    have e2 := congrArg (fun l => l[0]?) e
    simp only [List.getElem?_drop, Nat.add_zero] at e2
    rw [← e2]; exact ht
  have hd := dig_lt xw n o tw hxw hn h.lt htw
  refine ⟨by rw [List.length_set]; exact h.len, okW_set h.ok _ _ (Nat.mod_lt _ B64_pos), ?_, ?_, Nat.div_lt_of_lt_mul hd⟩
  · rw [drop_set, ← List.drop_drop, ← List.drop_drop, h.rest]
  · rw [take_set u i _ hi, natW_append, natW_take_succ r0 i tw hr, natW_take_succ xs i xw hx, List.length_take, Nat.min_eq_left (by omega), Nat.pow_succ]
    have := add_stepW (natW (u.take i)) o (B64 ^ i) (natW (r0.take i)) n (natW (xs.take i)) xw tw h.sum
    simp only [natW, Nat.mul_zero, Nat.add_zero]
    rw [Nat.mul_comm (B64 ^ i)]
    exact this
theorem AddAt.carry {r0 xs : List Nat} {n i o tw : Nat} {u : List Nat} (h : AddAt r0 xs n i u o) (hi : xs.length ≤ i) (ht : u[i]? = some tw) :
    AddAt r0 xs n (i + 1) (u.set i ((tw + o) % B64)) ((tw + o) / B64) := by
  have htw := okW_get h.ok ht
  have hi2 : i < u.length := by
    rcases Nat.lt_or_ge i u.length with h' | h'
    · exact h'
    · rw [List.getElem?_eq_none h'] at ht; cases ht
  have hr : r0[i]? = some tw := by
    have e : u.drop i = r0.drop i := h.rest
    have e2 := congrArg (fun l => l[0]?) e
    simp only [List.getElem?_drop, Nat.add_zero] at e2
    rw [← e2]; exact ht
  have hd : (tw + o) / B64 < B64 := by have := h.lt; unfold B64 at *; omega
  refine ⟨by rw [List.length_set]; exact h.len, okW_set h.ok _ _ (Nat.mod_lt _ B64_pos), ?_, ?_, hd⟩
  · rw [drop_set, ← List.drop_drop, ← List.drop_drop, h.rest]
  · have hs := h.sum
    rw [List.take_of_length_le hi] at hs
    rw [take_set u i _ hi2, natW_append, natW_take_succ r0 i tw hr, List.take_of_length_le (show xs.length ≤ i + 1 by omega), List.length_take, Nat.min_eq_left (by omega), Nat.pow_succ]
    have hq := Nat.div_add_mod (tw + o) B64
    generalize (tw + o) % B64 = r at *
    generalize (tw + o) / B64 = q at *
    simp only [natW, Nat.mul_zero, Nat.add_zero]
    grind
theorem AddAt.done {r0 xs : List Nat} {n k o : Nat} {u : List Nat} (h : AddAt r0 xs n k u o) (hk : xs.length ≤ k) (hk2 : k ≤ r0.length) (hroom : natW r0 + n * natW xs < B64 ^ r0.length) (hd : o = 0 ∨ k = r0.length) : natW u = natW r0 + n * natW xs := by
  have hs := h.sum
  rw [List.take_of_length_le hk] at hs
  have e1 := natW_split u k (by rw [h.len]; exact hk2)
  have e2 := natW_split r0 k hk2
  rw [h.rest] at e1
  have h0 : o = 0 := by
    rcases hd with hd | hd
    · exact hd
    · subst hd
      rw [List.take_of_length_le (Nat.le_refl r0.length)] at hs
      rcases Nat.eq_zero_or_pos o with h1 | h1
      · exact h1
      · have : B64 ^ r0.length ≤ o * B64 ^ r0.length := Nat.le_mul_of_pos_left _ h1
        omega
  subst h0
  rw [Nat.zero_mul, Nat.add_zero] at hs
  omega
set_option maxHeartbeats 4000000 in
set_option maxRecDepth 100000 in
theorem addTimes_any (pre r0 xs : List Nat) (n : Nat) (g tc g' o' xc : Nat) (w : World) (hT : URow w g (pre ++ r0)) (hX : NumAt w g' o' xs) (hne : g' ≠ g) (hlen : xs.length ≤ r0.length) (hn : n < B64) (hxs : okW xs) (hr0 : okW r0)
    (hroom : natW r0 + n * natW xs < B64 ^ r0.length) (hbig : (r0.length : Int) ≤ 1000000) :
    Calls Tryz.prog 149 #[.slice (some ⟨g, pre.length, none⟩) r0.length tc, .slice (some ⟨g', o', none⟩) xs.length xc, .int .u64 n] w fun e w' => e = .returned (.tuple #[]) ∧ ∃ u, URow w' g (pre ++ u) ∧ u.length = r0.length ∧ okW u ∧ natW u = natW r0 + n * natW xs ∧ Only g w w' := by
  go_enter Tryz.func149, Tryz.ntmps149
  go_wp2
  have HN := hide hn
  have HX := hide hX
  have HXS := hide hxs
  have HRM := hide hroom
  clear hn hxs hroom
  go_loopw [6, 15] (fun ov i wr => ∃ (k o : Nat) (u : List Nat), k ≤ xs.length ∧ i = .int .i64 k ∧ ov = .int .u64 (o : Nat) ∧ AddAt r0 xs n k u o ∧ URow wr g (pre ++ u) ∧ Only g w wr) (fun _ i _ => xs.length - (intOf i).toNat)
  case atStart => exact ⟨0, 0, r0, Nat.zero_le _, rfl, rfl, ⟨rfl, hr0, rfl, by simp [natW], B64_pos⟩, hT, Only.refl _ _⟩
  case round =>
    obtain ⟨k, o, u, hk, rfl, rfl, hA, hU, hO⟩ := hrel
    by_cases hlt : k < xs.length
    · obtain ⟨xw, hxw⟩ : ∃ x, xs[k]? = some x := ⟨xs[k], List.getElem?_eq_getElem hlt⟩
      have hul := hA.len
      obtain ⟨tw, htw⟩ : ∃ x, u[k]? = some x := ⟨u[k]'(by omega), List.getElem?_eq_getElem (by omega)⟩
      have hxb := okW_get (unhide HXS) hxw
      have htb := okW_get hA.ok htw
      have hst := hA.step hxw htw (unhide HN) hxb
      have cx := ((unhide HX).only hO hne).2 k xw hxw
      have ct := hU.cell (pre.length + k) tw (by rw [get_pre]; exact htw)
      have ft := hU.frozen (pre.length + k)
      have hset := hU.set (pre.length + k) (digN xw n o tw % B64)
      rw [set_pre] at hset
      have M1 := hide (fun w => mul64_any xw n hxb (unhide HN) w)
      have a1 := fun w => add64_run0 (xw * n % B64) o w
      have a2 := fun w => add64_run0 tw ((xw * n % B64 + o) % B64) w
      have e1 := dig_low (xw * n) o tw
      have e2 := dig_over (xw * n) o tw hA.lt htb
      rw [show xw * n + o + tw = digN xw n o tw from rfl] at e1 e2
      rw [e1] at a2
      have hov : digN xw n o tw / B64 < B64 := hst.lt
      generalize digN xw n o tw % B64 = dd at *
      generalize digN xw n o tw / B64 = ov at *
      generalize (tw + (xw * n % B64 + o) % B64) / B64 = c2 at *
      generalize (xw * n % B64 + o) % B64 = s1 at *
      generalize (xw * n % B64 + o) / B64 = c1 at *
      generalize xw * n % B64 = lo at *
      generalize xw * n / B64 = hi at *
      obtain ⟨h1, hh1⟩ : ∃ h1, h1 = hi + c1 := ⟨_, rfl⟩
      have w1 := wrap64N hi c1 h1 hh1.symm (by omega)
      have w2 := wrap64N h1 c2 ov (by omega) hov
      have HST := hide hst
      have HSE := hide hset
      have HO := hide hO
      have hki : (k : Int) < (xs.length : Int) := by omega
      have hkt : (k : Int) < (r0.length : Int) := by omega
      clear hst hset hO hA hU e1 e2 hh1 hov htw hxw hxb htb hT
      go_wp2_with fail
      refine (unhide M1 _).mono ?_
      rintro e y1 ⟨rfl, rfl⟩
      go_wp2
      go_roundw
      case rel => exact ⟨k + 1, ov, _, hlt, by go_num, rfl, unhide HST, unhide HSE, (unhide HO).setCell _ _⟩
      case measure => simp [intOf]; omega
    · have hkx : k = xs.length := by omega
      subst hkx
      clear hT
      go_wp2
      go_loopw [6, 12] (fun ov i wr => ∃ (k o : Nat) (u : List Nat), xs.length ≤ k ∧ k ≤ r0.length ∧ i = .int .i64 k ∧ ov = .int .u64 (o : Nat) ∧ AddAt r0 xs n k u o ∧ URow wr g (pre ++ u) ∧ Only g w wr) (fun _ i _ => r0.length - (intOf i).toNat)
      case atStart => exact ⟨xs.length, o, u, Nat.le_refl _, hlen, rfl, rfl, hA, hU, hO⟩
      case round =>
        clear hA hU hO
        obtain ⟨k, o, u, hk1, hk2, rfl, rfl, hA, hU, hO⟩ := hrel
        by_cases hc : o ≠ 0 ∧ k < r0.length
        · obtain ⟨ho, hlt⟩ := hc
          have hul := hA.len
          obtain ⟨tw, htw⟩ : ∃ x, u[k]? = some x := ⟨u[k]'(by omega), List.getElem?_eq_getElem (by omega)⟩
          have hst := hA.carry hk1 htw
          have ct := hU.cell (pre.length + k) tw (by rw [get_pre]; exact htw)
          have ft := hU.frozen (pre.length + k)
          have hset := hU.set (pre.length + k) ((tw + o) % B64)
          rw [set_pre] at hset
          have a2 := fun w => add64_run0 tw o w
          have t0 : ((o : Int) != 0) = true := by rw [bne_iff_ne]; omega
          have hkt : (k : Int) < (r0.length : Int) := by omega
          generalize (tw + o) % B64 = dd at *
          generalize (tw + o) / B64 = c2 at *
          have HST := hide hst
          have HSE := hide hset
          have HO := hide hO
          clear hst hset hO hA hU htw ho
          go_wp2
          go_roundw
          case rel => exact ⟨k + 1, c2, _, by omega, hlt, by go_num, rfl, unhide HST, unhide HSE, (unhide HO).setCell _ _⟩
          case measure => simp [intOf]; omega
        · have hdone := hA.done hk1 hk2 (unhide HRM) (by omega)
          have HD := hide hdone
          have HA := hide hA
          have HU := hide hU
          have HO := hide hO
          by_cases ho : o = 0
          · have t0 : ((o : Int) != 0) = false := by rw [bne_eq_false_iff_eq]; omega
            clear hc hdone hA hU hO ho
            go_wp2
            go_end0
            exact ⟨rfl, u, unhide HU, (unhide HA).len, (unhide HA).ok, unhide HD, unhide HO⟩
          · have t0 : ((o : Int) != 0) = true := by rw [bne_iff_ne]; omega
            have hkt : ¬ (k : Int) < (r0.length : Int) := by omega
            clear hc hdone hA hU hO ho
            go_wp2
            go_end0
            exact ⟨rfl, u, unhide HU, (unhide HA).len, (unhide HA).ok, unhide HD, unhide HO⟩
end Go.Proofs.YtajkbkljonejnaaGreatDoor
namespace Go.Proofs.YtajkbkljonejnaaGreatDoor
open Go.RowKit Go.Shelf
set_option linter.unusedVariables false
theorem infoU64 : (Tryz.prog.info? 137).map (fun i => (i.zero, i.size, i.bytes)) = some (some (.int .u64 0), 1, 8) := by kernel_rfl
theorem info_partsN {P : Program} {t : TypeId} {z : Value} {s b : Nat} (h : (P.info? t).map (fun i => (i.zero, i.size, i.bytes)) = some (some z, s, b)) : ∃ i, P.info? t = some i ∧ i.zero = some z ∧ i.size = s ∧ i.bytes = b := by
  cases hi : P.info? t with
  | none => rw [hi] at h; cases h
  | some i => rw [hi] at h; simp at h; exact ⟨i, rfl, h.1, h.2.1, h.2.2⟩
theorem own_wholeN {w : World} {base g n : Nat} {e : TypeId} {xs : List Value} (h : w.ownsRow base e 1 (.slice (some ⟨g, 0, none⟩) n n) n xs) : w.heap[g]? = some (.cells xs.toArray e (0, 0)) := by
  rcases h.2 with ⟨h1, h2⟩ | ⟨g', cap, cur, h1, hB, hh, hle, hm, hsz, htk⟩
  · simp at h1
  · simp only [Value.slice.injEq, Option.some.injEq, Addr.mk.injEq, and_true, true_and] at h1
    obtain ⟨rfl, rfl⟩ := h1
    rw [hh]
    congr 2
    have : cur.toList = xs := by
      rw [← htk, List.take_of_length_le (by simp; omega)]
    rw [← this]
theorem made_words (n : Nat) : (madeCells #[Value.int .u64 0] n).toList = (List.replicate n 0).map fun x : Nat => Value.int .u64 (x : Int) := by
  rw [List.map_replicate]
  apply List.ext_getElem
  · simp [madeCells]
  · intro i h1 h2
    simp [madeCells, Nat.mod_one]
theorem made_urow {w w1 : World} {base n : Nat} (h : w1.ownsRow base 137 1 (.slice (some ⟨w.heap.size, 0, none⟩) n n) n (madeCells #[Value.int .u64 0] n).toList) : URow w1 w.heap.size (List.replicate n 0) := by
  have := own_wholeN h
  rw [made_words] at this
  exact this
theorem prod_room {xs row : List Nat} {yk word k : Nat} (hx : okW xs) (hrow : okW row) (hr : natW row = natW xs * yk) (hyk : yk < B64 ^ k) (hw : word < B64) (hk : k + xs.length + 1 ≤ row.length) :
    natW (row.drop k) + word * natW xs < B64 ^ (row.drop k).length := by
  have h1 := natW_lt hx
  have e := natW_split row k (by omega)
  have hp : 0 < B64 ^ k := Nat.pow_pos B64_pos
  have hlt : natW row < B64 ^ xs.length * B64 ^ k := by
    rw [hr]
    rcases Nat.eq_zero_or_pos yk with h0 | h0
    · rw [h0, Nat.mul_zero]
      exact Nat.mul_pos (Nat.pow_pos B64_pos) hp
    · exact Nat.mul_lt_mul'' h1 hyk
  have h2 : natW (row.drop k) < B64 ^ xs.length := by
    rcases Nat.lt_or_ge (natW (row.drop k)) (B64 ^ xs.length) with h | h
    · exact h
    · have : B64 ^ k * B64 ^ xs.length ≤ B64 ^ k * natW (row.drop k) := Nat.mul_le_mul_left _ h
      rw [Nat.mul_comm (B64 ^ k) (B64 ^ xs.length)] at this
      omega
  have h3 : word * natW xs ≤ (B64 - 1) * (B64 ^ xs.length - 1) := Nat.mul_le_mul (by omega) (by omega)
  have h4 : (B64 - 1) * (B64 ^ xs.length - 1) + B64 ^ xs.length ≤ B64 ^ (xs.length + 1) := by
    have hp2 : 0 < B64 ^ xs.length := Nat.pow_pos B64_pos
    rw [Nat.pow_succ]
    generalize B64 ^ xs.length = q at *
    have : (B64 - 1) * (q - 1) + (q - 1) = B64 * (q - 1) := by
      have hb := B64_pos
      rw [Nat.sub_mul, Nat.one_mul]
      have : q - 1 ≤ B64 * (q - 1) := Nat.le_mul_of_pos_left _ hb
      omega
    have h5 : B64 * (q - 1) + B64 = q * B64 := by
      rw [Nat.mul_sub, Nat.mul_one, Nat.mul_comm q]
      have : B64 ≤ B64 * q := Nat.le_mul_of_pos_right _ hp2
      omega
    have hb := B64_pos
    omega
  have h6 : B64 ^ (xs.length + 1) ≤ B64 ^ (row.drop k).length := Nat.pow_le_pow_right B64_pos (by rw [List.length_drop]; omega)
  omega
theorem prod_step {xs ys row u : List Nat} {k word : Nat} (hk : k ≤ row.length) (hr : natW row = natW xs * natW (ys.take k)) (hy : ys[k]? = some word) (hu : natW u = natW (row.drop k) + word * natW xs) :
    natW (row.take k ++ u) = natW xs * natW (ys.take (k + 1)) := by
  have e := natW_split row k hk
  rw [natW_append, natW_take_succ ys k word hy, List.length_take, Nat.min_eq_left hk, hu]
  grind
set_option maxHeartbeats 4000000 in
set_option maxRecDepth 100000 in
theorem product_any (xs ys : List Nat) (g o c g' o' c' : Nat) (w : World) (hX : NumAt w g o xs) (hY : NumAt w g' o' ys) (hx : okW xs) (hy : okW ys) (hxl : (xs.length : Int) ≤ 1000) (hyl : (ys.length : Int) ≤ 1000) :
    Calls Tryz.prog 126 #[.slice (some ⟨g, o, none⟩) xs.length c, .slice (some ⟨g', o', none⟩) ys.length c'] w fun e w' => ∃ row, e = .returned (.slice (some ⟨w.heap.size, 0, none⟩) row.length row.length) ∧ URow w' w.heap.size row ∧ row.length = xs.length + ys.length ∧ okW row ∧ natW row = natW xs * natW ys ∧ Below w.heap.size w w' := by
  obtain ⟨i0, hi, hz0, hz1, hz2⟩ := info_partsN infoU64
  go_enter Tryz.func126, Tryz.ntmps126
  go_wp2_with (at_make; refine wpList_make_full _ rfl _ _ 146 rfl w.heap.size 137 i0 (.int .u64 0) 1 Tryz.underlying146 hi hz0 hz1 .i64 .i64 _ _ (xs.length + ys.length) rfl rfl (by simp) (by simp) (by rw [hz2]; omega) (by unfold maxLen; omega) (Nat.le_refl _) ?_)
  intro w1 hown hgrow
  have hU := made_urow hown
  have hb : Below w.heap.size w w1 := (Below.refl _ _).grown hgrow (Nat.le_refl _) (fun q hq => by cases hq)
  clear hown hgrow hi hz0 hz1 hz2
  have HX := hide hX
  have HY := hide hY
  have hgl := hX.1
  have hgl' := hY.1
  clear hX hY
  obtain ⟨N, hN⟩ : ∃ N, N = xs.length + ys.length := ⟨_, rfl⟩
  rw [← hN] at hU ⊢
  have HN := hide hN
  have hNb : (N : Int) ≤ 2000 := by omega
  have hNy : (ys.length : Int) ≤ (N : Int) := by omega
  clear hN
  go_wp2
  go_loopw [16] (fun i wr => ∃ (k : Nat) (row : List Nat), k ≤ ys.length ∧ i = .int .i64 k ∧ row.length = N ∧ okW row ∧ natW row = natW xs * natW (ys.take k) ∧ URow wr w.heap.size row ∧ Below w.heap.size w wr) (fun i _ => ys.length - (intOf i).toNat)
  case atStart => exact ⟨0, _, Nat.zero_le _, rfl, by simp, okW_zeros _, by rw [natW_zeros]; simp [natW], hU, hb⟩
  case round =>
    clear hU hb
    obtain ⟨k, row, hk, rfl, hrl, hrow, hr, hU, hbel⟩ := hrel
    by_cases hlt : k < ys.length
    · obtain ⟨word, hw⟩ : ∃ x, ys[k]? = some x := ⟨ys[k], List.getElem?_eq_getElem hlt⟩
      have hwb := okW_get hy hw
      have cy : wr.cell? ⟨g', o' + k, none⟩ = some (.int .u64 (word : Nat)) := (hbel.cell (p := ⟨g', o' + k, none⟩) hgl').trans ((unhide HY).2 k word hw)
      have hXr : NumAt wr g o xs := ⟨Nat.lt_of_lt_of_le hgl hbel.size, fun i x hi => (hbel.cell (p := ⟨g, o + i, none⟩) hgl).trans ((unhide HX).2 i x hi)⟩
      have hyk : natW (ys.take k) < B64 ^ k := by
        have := natW_lt (okW_take hy k)
        rw [List.length_take, Nat.min_eq_left (by omega)] at this
        exact this
      have hroom := prod_room (k := k) hx hrow hr hyk hwb (by have := unhide HN; omega)
      have hpl : (row.take k).length = k := by rw [List.length_take]; omega
      have hdl : (row.drop k).length = N - k := by rw [List.length_drop]; omega
      have hU2 : URow wr w.heap.size (row.take k ++ row.drop k) := by rw [List.take_append_drop]; exact hU
      have A1 := fun tc => addTimes_any (row.take k) (row.drop k) xs word w.heap.size tc g o c wr hU2 hXr (by omega) (by rw [hdl]; have := unhide HN; omega) hwb hx (okW_drop hrow k) hroom (by rw [hdl]; omega)
      rw [hpl, hdl] at A1
      have HA := hide A1
      have HS := hide (fun u (hu : natW u = natW (row.drop k) + word * natW xs) => prod_step (k := k) (by omega) hr hw hu)
      have HOK := hide (okW_take hrow k)
      have HB := hide hbel
      have hki : (k : Int) < (ys.length : Int) := by omega
      have hkN : (k : Int) ≤ (N : Int) := by omega
      clear A1 hU2 hXr hroom hdl hyk hU hbel hrow hr hw hwb
      go_wp2_with fail
      refine (unhide HA _).mono ?_
      rintro e y1 ⟨rfl, u, hU1, hul, huo, hun, hon⟩
      have hlen2 : (row.take k ++ u).length = N := by rw [List.length_append, hpl, hul]; omega
      have hok2 := okW_append (unhide HOK) huo
      have hnat := unhide HS u hun
      have W1 := hide ((unhide HB).trans (hon.below (Nat.le_refl _)))
      have H1 := hide hU1
      clear HA HS HOK HB hU1 hon hun huo hul
      go_wp2
      go_roundw
      case rel => exact ⟨k + 1, _, hlt, by go_num, hlen2, hok2, hnat, unhide H1, unhide W1⟩
      case measure => simp [intOf]; omega
    · rw [List.take_of_length_le (by omega)] at hr
      have HU := hide hU
      have HB := hide hbel
      have HR := hide hr
      clear hU hbel hr
      go_wp2
      go_ret
      refine ⟨row, ?_, unhide HU, by rw [hrl]; exact unhide HN, hrow, unhide HR, unhide HB⟩
      rw [hrl]
      rfl
end Go.Proofs.YtajkbkljonejnaaGreatDoor
namespace Go.Proofs.YtajkbkljonejnaaGreatDoor
open Go.RowKit Go.Shelf
set_option linter.unusedVariables false
theorem sub_key (B x y b : Nat) (hx : x < B) (hy : y < B) (hb : b ≤ 1) : (x + B - y - b) % B + y + b = x + (if x < y + b then 1 else 0) * B := by
  split
  · rename_i h
    rw [Nat.mod_eq_of_lt (by omega), Nat.one_mul]
    omega
  · rename_i h
    have e : x + B - y - b = (x - y - b) + B := by omega
    rw [e, Nat.add_mod_right, Nat.mod_eq_of_lt (by omega), Nat.zero_mul]
    omega
def subD (x y b : Nat) : Nat := (x + B64 - y - b) % B64
def subC (x y b : Nat) : Nat := if x < y + b then 1 else 0
theorem subD_lt (x y b : Nat) : subD x y b < B64 := Nat.mod_lt _ B64_pos
theorem subC_le (x y b : Nat) : subC x y b ≤ 1 := by unfold subC; split <;> omega
theorem subD_key (x y b : Nat) (hx : x < B64) (hy : y < B64) (hb : b ≤ 1) : subD x y b + y + b = x + subC x y b * B64 := by
  unfold subD subC
  generalize B64 = B at *
  exact sub_key B x y b hx hy hb
theorem sub_ring (a m t x y b d c P B : Nat) (hs : a + m = t + b * P) (key : d + y + b = x + c * B) : a + P * d + (m + y * P) = t + x * P + c * (P * B) := by grind
theorem sub_sum (a m t x y b d c P : Nat) (hs : a + m = t + b * P) (key : d + y + b = x + c * B64) : a + P * natW [d] + (m + y * P) = t + x * P + c * (P * B64) := by
  have e : natW [d] = d := by simp [natW]
  rw [e]
  exact sub_ring a m t x y b d c P B64 hs key
structure SubAt (ts ms : List Nat) (i : Nat) (u : List Nat) (b : Nat) : Prop where
  ok : okW u
  sum : natW (u.take i) + natW (ms.take i) = natW (ts.take i) + b * B64 ^ i
  le : b ≤ 1
theorem SubAt.step {ts ms : List Nat} {i b x y : Nat} {u : List Nat} (h : SubAt ts ms i u b) (hx : ts[i]? = some x) (hy : ms[i]? = some y) (hi : i < u.length) (hxb : x < B64) (hyb : y < B64) :
    SubAt ts ms (i + 1) (u.set i (subD x y b)) (subC x y b) := by
  refine ⟨okW_set h.ok _ _ (subD_lt x y b), ?_, subC_le x y b⟩
  rw [take_set u i _ hi, natW_append, natW_take_succ ts i x hx, natW_take_succ ms i y hy, List.length_take, Nat.min_eq_left (Nat.le_of_lt hi), Nat.pow_succ]
  exact sub_sum (natW (u.take i)) (natW (ms.take i)) (natW (ts.take i)) x y b (subD x y b) (subC x y b) (B64 ^ i) h.sum (subD_key x y b hxb hyb h.le)
end Go.Proofs.YtajkbkljonejnaaGreatDoor
namespace Go.Proofs.YtajkbkljonejnaaGreatDoor
open Go.RowKit Go.Shelf
set_option linter.unusedVariables false
def zeroBy (t inv : Nat) : Nat := t * inv % B64
theorem zeroBy_lt (t inv : Nat) : zeroBy t inv < B64 := Nat.mod_lt _ B64_pos
theorem zero_low (B t m0 inv M U : Nat) (hB : 0 < B) (hU : U % B = t % B) (hM : M % B = m0 % B) (hi : (m0 * inv + 1) % B = 0) : (U + t * inv % B * M) % B = 0 := by
  have e : (U + t * inv % B * M) % B = (t + t * inv * m0) % B := by
    rw [Nat.add_mod, Nat.mul_mod, Nat.mod_mod, hU, hM, ← Nat.mul_mod, ← Nat.add_mod]
  rw [e, show t + t * inv * m0 = t * (m0 * inv + 1) by grind, Nat.mul_mod, hi, Nat.mul_zero, Nat.zero_mod]
structure MontAt (xs ys ms : List Nat) (n i : Nat) (row : List Nat) (q : Nat) : Prop where
  len : row.length = 2 * n + 1
  ok : okW row
  sum : natW row = natW xs * natW (ys.take i) + q * natW ms
  low : natW (row.take i) = 0
  lt : q < B64 ^ i
theorem natW_mod (l : List Nat) (x : Nat) (h : l[0]? = some x) (hx : x < B64) : natW l % B64 = x := by
  cases l with
  | nil => cases h
  | cons y r =>
    simp only [List.getElem?_cons_zero, Option.some.injEq] at h
    subst h
    rw [natW, Nat.add_mul_mod_self_left, Nat.mod_eq_of_lt hx]
theorem MontAt.step {xs ys ms u1 u2 : List Nat} {n i q y t m0 inv : Nat} {row : List Nat} (h : MontAt xs ys ms n i row q) (hi : i < n) (hy : ys[i]? = some y) (hm0 : ms[0]? = some m0) (hms : okW ms) (hinv : (m0 * inv + 1) % B64 = 0)
    (hu1 : natW u1 = natW (row.drop i) + y * natW xs) (ht : u1[0]? = some t) (hok1 : okW u1) (hok2 : okW u2) (hl2 : u2.length = 2 * n + 1 - i) (hu2 : natW u2 = natW u1 + zeroBy t inv * natW ms) :
    MontAt xs ys ms n (i + 1) (row.take i ++ u2) (q + zeroBy t inv * B64 ^ i) := by
  have hrl := h.len
  have htl : (row.take i).length = i := by rw [List.length_take]; omega
  have e := natW_split row i (by omega)
  have hlow := h.low
  have hsum := h.sum
  rw [hlow, Nat.zero_add] at e
  have hz : natW u2 % B64 = 0 := by
    rw [hu2]
    exact zero_low B64 t m0 inv (natW ms) (natW u1) B64_pos (by rw [natW_mod u1 t ht (okW_get hok1 ht), Nat.mod_eq_of_lt (okW_get hok1 ht)]) (by rw [natW_mod ms m0 hm0 (okW_get hms hm0), Nat.mod_eq_of_lt (okW_get hms hm0)]) hinv
  have h0 : 0 < u2.length := by omega
  obtain ⟨v, hv⟩ : ∃ v, u2[0]? = some v := ⟨u2[0], List.getElem?_eq_getElem h0⟩
  have hv0 : v = 0 := by rw [← natW_mod u2 v hv (okW_get hok2 hv)]; exact hz
  refine ⟨by rw [List.length_append, htl, hl2]; omega, okW_append (okW_take h.ok i) hok2, ?_, ?_, ?_⟩
  · rw [natW_append, htl, hlow, Nat.zero_add, natW_take_succ ys i y hy, hu2, hu1]
    generalize zeroBy t inv = z at *
    generalize natW (row.drop i) = D at *
    generalize natW (ys.take i) = Y at *
    generalize natW row = R at *
    generalize natW xs = X at *
    generalize natW ms = M at *
    generalize B64 ^ i = P at *
    clear hz hu1 hu2 hlow h
    grind
  · have e2 : (row.take i ++ u2).take (i + 1) = row.take i ++ u2.take 1 := by
      rw [List.take_append, htl, List.take_of_length_le (by rw [htl]; omega), Nat.add_sub_cancel_left]
    have e3 : u2.take 1 = [v] := by
      have := List.take_add_one (l := u2) (i := 0)
      rw [hv] at this
      simpa using this
    rw [e2, natW_append, hlow, e3, hv0]
    simp [natW]
  · have hz2 := zeroBy_lt t inv
    have hq := h.lt
    rw [Nat.pow_succ]
    generalize zeroBy t inv = z at *
    generalize B64 ^ i = P at *
    have : (z + 1) * P ≤ B64 * P := Nat.mul_le_mul_right _ hz2
    rw [Nat.add_mul, Nat.one_mul, Nat.mul_comm B64] at this
    omega
end Go.Proofs.YtajkbkljonejnaaGreatDoor
namespace Go.Proofs.YtajkbkljonejnaaGreatDoor
open Go.RowKit Go.Shelf
set_option linter.unusedVariables false
theorem NumAt.from {w w' : World} {g off B : Nat} {ws : List Nat} (h : NumAt w g off ws) (hb : Below B w w') (hg : g < B) (hB : B ≤ w'.heap.size) : NumAt w' g off ws :=
  ⟨by omega, fun i x hi => (hb.cell (p := ⟨g, off + i, none⟩) hg).trans (h.2 i x hi)⟩
end Go.Proofs.YtajkbkljonejnaaGreatDoor
namespace Go.Proofs.YtajkbkljonejnaaGreatDoor
open Go.RowKit Go.Shelf
set_option linter.unusedVariables false
end Go.Proofs.YtajkbkljonejnaaGreatDoor
namespace Go.Proofs.YtajkbkljonejnaaGreatDoor
open Go.RowKit Go.Shelf
set_option linter.unusedVariables false
theorem valN_consN (b : UInt8) (l : List UInt8) : valN (b :: l) = b.toNat * 256 ^ l.length + valN l := by
  have h : ∀ (l : List UInt8) (a : Nat), l.foldl (fun n b => n * 256 + b.toNat) a = a * 256 ^ l.length + l.foldl (fun n b => n * 256 + b.toNat) 0 := by
    intro l
    induction l with
    | nil => intro a; simp
    | cons b l ih =>
      intro a
      rw [List.foldl_cons, List.foldl_cons, List.length_cons, ih (a * 256 + b.toNat), ih (0 * 256 + b.toNat), Nat.pow_succ, Nat.add_mul]
      rw [show a * 256 * 256 ^ l.length = a * (256 ^ l.length * 256) by rw [Nat.mul_assoc, Nat.mul_comm 256], Nat.zero_mul, Nat.zero_add, Nat.add_assoc]
  show (b :: l).foldl _ 0 = _
  rw [List.foldl_cons, h]
  simp [valN]
def lowV (l : List UInt8) (i : Nat) : Nat := valN (l.drop (l.length - i))
theorem lowV_zero (l : List UInt8) : lowV l 0 = 0 := by simp [lowV, valN]
theorem lowV_whole (l : List UInt8) : lowV l l.length = valN l := by simp [lowV]
theorem lowV_lt (l : List UInt8) (i : Nat) (h : i ≤ l.length) : lowV l i < 256 ^ i := by
  have := valN_lt (l.drop (l.length - i))
  rw [List.length_drop, show l.length - (l.length - i) = i by omega] at this
  exact this
theorem lowV_step (l : List UInt8) (i : Nat) (c : UInt8) (h : l[l.length - 1 - i]? = some c) (hi : i < l.length) : lowV l (i + 1) = c.toNat * 256 ^ i + lowV l i := by
  unfold lowV
  have hk : l.length - (i + 1) < l.length := by omega
  have hc : l[l.length - (i + 1)] = c := by
    rw [show l.length - 1 - i = l.length - (i + 1) by omega, List.getElem?_eq_getElem hk] at h
    exact Option.some.inj h
  rw [List.drop_eq_getElem_cons hk, valN_consN, hc, show l.length - (i + 1) + 1 = l.length - i by omega, List.length_drop, show l.length - (l.length - i) = i by omega]
theorem natW_set (l : List Nat) : ∀ (q x w : Nat), l[q]? = some w → natW (l.set q x) + w * B64 ^ q = natW l + x * B64 ^ q := by
  induction l with
  | nil => intro q x w h; cases h
  | cons y r ih =>
    intro q x w h
    cases q with
    | zero =>
      simp only [List.getElem?_cons_zero, Option.some.injEq] at h
      subst h
      simp only [List.set_cons_zero, natW, Nat.pow_zero, Nat.mul_one]
      omega
    | succ q =>
      simp only [List.getElem?_cons_succ] at h
      have := ih q x w h
      simp only [List.set_cons_succ, natW, Nat.pow_succ]
      generalize natW (r.set q x) = a at *
      generalize natW r = b at *
      generalize B64 ^ q = P at *
      generalize B64 = B at *
      grind
theorem natW_ge (l : List Nat) : ∀ (q w : Nat), l[q]? = some w → w * B64 ^ q ≤ natW l := by
  intro q w h
  have := natW_set l q 0 w h
  rw [Nat.zero_mul, Nat.add_zero] at this
  omega
theorem pow_256W (q r : Nat) : 256 ^ (8 * q + r) = B64 ^ q * 2 ^ (8 * r) := by
  have h1 : (256 : Nat) = 2 ^ 8 := rfl
  have h2 : B64 = 2 ^ 64 := rfl
  rw [h1, h2, ← Nat.pow_mul, ← Nat.pow_mul, ← Nat.pow_add]
  congr 1
  omega
theorem put_byte {row : List Nat} {V i q r c w : Nat} (hi : i = 8 * q + r) (hr : r < 8) (hc : c < 256) (hrow : natW row = V) (hV : V < 256 ^ i) (hw : row[q]? = some w) :
    w < 2 ^ (8 * r) ∧ w + c * 2 ^ (8 * r) < B64 ∧ natW (row.set q (w + c * 2 ^ (8 * r))) = V + c * 256 ^ i := by
  have hge := natW_ge row q w hw
  have hp : 0 < B64 ^ q := Nat.pow_pos B64_pos
  rw [hi, pow_256W] at hV
  have h1 : w < 2 ^ (8 * r) := by
    rcases Nat.lt_or_ge w (2 ^ (8 * r)) with h | h
    · exact h
    · have : 2 ^ (8 * r) * B64 ^ q ≤ w * B64 ^ q := Nat.mul_le_mul_right _ h
      rw [Nat.mul_comm] at this
      omega
  have h2 : w + c * 2 ^ (8 * r) < B64 := by
    have h3 : c * 2 ^ (8 * r) + 2 ^ (8 * r) ≤ 256 * 2 ^ (8 * r) := by
      have : (c + 1) * 2 ^ (8 * r) ≤ 256 * 2 ^ (8 * r) := Nat.mul_le_mul_right _ hc
      rw [Nat.add_mul, Nat.one_mul] at this
      exact this
    have h4 : 256 * 2 ^ (8 * r) ≤ B64 := by
      have h256 : (256 : Nat) = 2 ^ 8 := rfl
      have hB : B64 = 2 ^ 64 := rfl
      rw [h256, hB, ← Nat.pow_add]
      exact Nat.pow_le_pow_right (by decide) (by omega)
    omega
  refine ⟨h1, h2, ?_⟩
  have := natW_set row q (w + c * 2 ^ (8 * r)) w hw
  rw [hi, pow_256W]
  generalize 2 ^ (8 * r) = E at *
  generalize B64 ^ q = P at *
  rw [hrow] at this
  grind
theorem or_u64W (a b k : Nat) (ha : a < 2 ^ k) (hb : b * 2 ^ k < B64) (hs : a + b * 2 ^ k < B64) : bits .or .u64 (a : Int) ((b * 2 ^ k : Nat) : Int) = ((a + b * 2 ^ k : Nat) : Int) := by
  have hB : B64 = 2 ^ 64 := rfl
  have e : a ||| b * 2 ^ k = a + b * 2 ^ k := by
    have := Nat.shiftLeft_add_eq_or_of_lt ha b
    rw [Nat.shiftLeft_eq] at this
    rw [Nat.or_comm, ← this, Nat.add_comm]
  have hx : a < B64 := by omega
  have h := bits_or_u64_nat a (b * 2 ^ k) hx hb
  rw [e] at h
  exact h
end Go.Proofs.YtajkbkljonejnaaGreatDoor
