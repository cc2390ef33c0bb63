/- The big numbers themselves: Bytes. -/
import Derived.Test.YtckkhpegimkefaaGreatDoorM19
import Derived.Test.YtckkhpegimkefaaGreatDoorM30
import Derived.Deep.DeepCutAuto
import Derived.Test.YtckkhpegimkefaaGreatDoorM18
import Derived.Lib.ConvBytes
import Derived.Test.YtckkhpegimkefaaGreatDoorM13
namespace Go.Proofs.YtckkhpegimkefaaGreatDoor
open Go.RowKit
set_option linter.unusedVariables false

theorem dig_get (n : Nat) : ∀ i x, (dig n)[i]? = some x → x = n / B32 ^ i % B32 := by
  induction n using Nat.strongRecOn with
  | _ n ih =>
    intro i x h
    by_cases h0 : n = 0
    · subst h0; rw [dig_zero] at h; simp at h
    · rw [dig_pos h0] at h
      cases i with
      | zero =>
        obtain rfl : n % B32 = x := by simpa using h
        simp
      | succ i =>
        have := ih _ (Nat.div_lt_self (by omega) B32_two) i x (by simpa using h)
        rw [this, Nat.div_div_eq_div_mul, Nat.pow_succ, Nat.mul_comm B32]
theorem byte_word (n i : Nat) : n / B32 ^ (i / 4) % B32 / 2 ^ (8 * (i % 4)) % 256 = n / 256 ^ i % 256 := by
  rw [B32_bytes]
  have e1 : (256 : Nat) ^ i = 256 ^ (4 * (i / 4)) * 2 ^ (8 * (i % 4)) := by
    conv => lhs; rw [← Nat.div_add_mod i 4]
    rw [Nat.pow_add, Nat.pow_mul 2 8 (i % 4)]
  rw [e1, ← Nat.div_div_eq_div_mul]
  generalize n / 256 ^ (4 * (i / 4)) = m
  have h4 : i % 4 = 0 ∨ i % 4 = 1 ∨ i % 4 = 2 ∨ i % 4 = 3 := by omega
  show m % 4294967296 / 2 ^ (8 * (i % 4)) % 256 = m / 2 ^ (8 * (i % 4)) % 256
  rcases h4 with h | h | h | h <;> rw [h] <;> omega
theorem word_there {n L i : Nat} (hL : IsLen n L) (hi : i < (L + 7) / 8) : i / 4 < (dig n).length := by
  have hn : n ≠ 0 := fun e => by have := hL.2.1 e; omega
  obtain ⟨h1, h2⟩ := hL.2.2 hn
  have h3 : 2 ^ (32 * (i / 4)) ≤ n := Nat.le_trans (Nat.pow_le_pow_right (by decide) (by omega)) h2
  have h4 := lt_dig n
  rw [B32_twoP] at h4
  rcases Nat.lt_or_ge (i / 4) (dig n).length with h | h
  · exact h
  · have := Nat.pow_le_pow_right (show 0 < 2 by decide) (show 32 * (dig n).length ≤ 32 * (i / 4) by omega)
    omega
/-- a block of bytes -/
def YRow (w : World) (g : Nat) (L : List Int) : Prop := w.heap[g]? = some (.cells (L.map (Value.int .u8)).toArray 5 (0, 0))
theorem YRow.set {w : World} {g : Nat} {L : List Int} (h : YRow w g L) (i : Nat) (x : Int) : YRow (w.setCell ⟨g, i, none⟩ (.int .u8 x)) g (L.set i x) := by
  unfold YRow at *
  have : (w.setCell ⟨g, i, none⟩ (.int .u8 x)).heap[g]? = some (.cells ((L.map (Value.int .u8)).toArray.setIfInBounds i (.int .u8 x)) 5 (0, 0)) := by
    simp [World.setCell, Array.getElem?_modify, h]
  rw [this, List.setIfInBounds_toArray, List.map_set]
theorem YRow.cell {w : World} {g : Nat} {L : List Int} (h : YRow w g L) (i : Nat) (x : Int) (hi : L[i]? = some x) : w.cell? ⟨g, i, none⟩ = some (.int .u8 x) := by
  rw [cell_of_row _ _ i _ _ _ h]
  simp [hi]
theorem YRow.frozen {w : World} {g : Nat} {L : List Int} (h : YRow w g L) (i : Nat) : w.frozen? ⟨g, i, none⟩ = false := frozen_of_row _ _ i _ _ h
theorem infoU8B : (Tryz.prog.info? 5).map (fun i => (i.zero, i.size, i.bytes)) = some (some (.int .u8 0), 1, 1) := by kernel_rfl
end Go.Proofs.YtckkhpegimkefaaGreatDoor
namespace Go.Proofs.YtckkhpegimkefaaGreatDoor
open Go.RowKit
set_option linter.unusedVariables false
set_option linter.unusedSimpArgs false
set_option maxRecDepth 100000

theorem bit_word (n i x : Nat) (hx : x = n / B32 ^ (i / 32) % B32) : x / 2 ^ (i % 32) % 2 = n / 2 ^ i % 2 := by
  have e : 2 ^ i = B32 ^ (i / 32) * 2 ^ (i % 32) := by
    rw [B32_as, ← Nat.pow_add]
    congr 1
    omega
  rw [e, ← Nat.div_div_eq_div_mul, hx]
  generalize n / B32 ^ (i / 32) = y
  have h32 : i % 32 < 32 := Nat.mod_lt _ (by decide)
  generalize i % 32 = s at *
  obtain ⟨t, ht, _⟩ : ∃ t, B32 = 2 ^ s * 2 * t ∧ True := ⟨2 ^ (31 - s), by
    rw [← Nat.pow_succ, ← Nat.pow_add, show s + 1 + (31 - s) = 32 by omega]; rfl, trivial⟩
  have h1 := Nat.div_add_mod y B32
  have h3 : B32 * (y / B32) = 2 ^ s * (2 * (t * (y / B32))) := by
    generalize y / B32 = q
    rw [ht]
    simp only [Nat.mul_assoc]
  have h2 : y = y % B32 + 2 ^ s * (2 * (t * (y / B32))) := by
    rw [← h3, Nat.add_comm]; exact h1.symm
  conv => rhs; rw [h2]
  rw [Nat.add_mul_div_left _ _ (Nat.two_pow_pos s), Nat.add_mul_mod_self_left]
theorem bit_none (n i : Nat) (h : (dig n).length ≤ i / 32) : n / 2 ^ i % 2 = 0 := by
  have h1 := lt_dig n
  have h2 : B32 ^ (dig n).length ≤ 2 ^ i := by
    rw [B32_as]; exact Nat.pow_le_pow_right (by decide) (by omega)
  rw [Nat.div_eq_of_lt (Nat.lt_of_lt_of_le h1 h2)]
theorem bit_nums {i m s : Nat} (hm : m = i / 32) (hs : s = i % 32) (hi : (i : Int) ≤ 1000000) : (i : Int).tdiv 32 = (m : Int) ∧ wrap64 ((i : Int).tdiv 32) = (m : Int) ∧ (i : Int) / 32 = (m : Int) ∧ wrap64 (m : Int) = (m : Int) ∧ IntKind.u64.wrap (i : Int) = (i : Int) ∧ (i : Int) % 32 = (s : Int) ∧ s < 32 := by
  have e : (i : Int).tdiv 32 = (m : Int) := by rw [Int.tdiv_eq_ediv_of_nonneg (by omega)]; omega
  exact ⟨e, by rw [e]; unfold wrap64; omega, by omega, by unfold wrap64; omega, wraps_u64 _ (by omega) (by omega), by omega, by omega⟩
theorem shr_nums {x s : Nat} (hx : x < 4294967296) : ∃ y z : Nat, y = x / 2 ^ s ∧ z = x / 2 ^ s % 2 ∧ (x : Int) / 2 ^ s = (y : Int) ∧ IntKind.u64.wrap (y : Int) = (y : Int) ∧ bits .and .u64 (y : Int) 1 = (z : Int) ∧ (x : Int).fdiv (2 ^ min s IntKind.u32.bits) = ((x / 2 ^ min s 32 : Nat) : Int) := by
  have hl : x / 2 ^ s ≤ x := Nat.div_le_self _ _
  refine ⟨x / 2 ^ s, x / 2 ^ s % 2, rfl, rfl, by simp, wraps_u64 _ (Int.natCast_nonneg _) (by omega), ?_, ?_⟩
  · have e := (bits_nat .u64 64 (by decide) (fun n h0 h1 => wraps_u64 n h0 h1) (x / 2 ^ s) 1 (by omega) (by omega)).1
    rw [Nat.and_one_is_mod] at e
    exact e
  · rw [show IntKind.u32.bits = 32 from rfl]
    rw [Int.fdiv_eq_ediv_of_nonneg _ (Int.pow_nonneg (by decide))]
    simp
set_option maxHeartbeats 2000000 in
theorem bit_any (n i : Nat) (v : Value) (w : World) (hv : BigV w v n) (hi : (i : Int) ≤ 1000000) :
    Calls Tryz.prog 95 #[v, .int .i64 i] w fun e w' => e = .returned (.int .u64 ((n / 2 ^ i % 2 : Nat) : Int)) ∧ w' = w := by
  obtain ⟨ao, cap, rfl, hr⟩ := hv
  obtain ⟨m, hm⟩ : ∃ m, m = i / 32 := ⟨_, rfl⟩
  obtain ⟨s, hs⟩ : ∃ s, s = i % 32 := ⟨_, rfl⟩
  obtain ⟨e1, e2, e3, e4, e5, e6, e7⟩ := bit_nums hm hs hi
  have hi0 : ¬ (i : Int) < 0 := by
    intro h; exact absurd (Int.natCast_nonneg i) (Int.not_le.2 h)
  by_cases hlt : m < (dig n).length
  · obtain ⟨x, hx⟩ : ∃ x, (dig n)[m]? = some x := ⟨_, List.getElem?_eq_getElem hlt⟩
    have hxb : x < 4294967296 := okV_get (okV_dig n) hx
    have hxe := dig_get n m x hx
    rw [hm] at hxe
    have hbw := bit_word n i x hxe
    rw [← hs] at hbw
    rcases hr with h0 | ⟨g, off, rfl, hg, hc⟩
    · rw [h0] at hlt; simp at hlt
    have c0 := hc m x hx
    obtain ⟨y, z, hy, hz, f1, f2, f3, f4⟩ := shr_nums (x := x) (s := s) hxb
    rw [hbw] at hz
    rw [← hz]
    have hml : ¬ ((dig n).length : Int) ≤ (m : Int) := by
      intro h; exact absurd (Int.ofNat_le.1 h) (Nat.not_le.2 hlt)
    have hml2 : (m : Int) < ((dig n).length : Int) := Int.ofNat_lt.2 hlt
    generalize (dig n).length = L at *
    clear hc hx hxe hbw hm hs hz hxb hlt hy hg
    go_enter Tryz.func95, Tryz.ntmps95
    go_wp2
    go_ret
    exact ⟨rfl, rfl⟩
  · have hz := bit_none n i (by rw [← hm]; exact Nat.le_of_not_lt hlt)
    rw [hz]
    have hml : ((dig n).length : Int) ≤ (m : Int) := Int.ofNat_le.2 (Nat.le_of_not_lt hlt)
    generalize (dig n).length = L at *
    clear hr hm hs hz hlt
    go_enter Tryz.func95, Tryz.ntmps95
    go_wp2
    go_ret
    exact ⟨rfl, rfl⟩
set_option maxHeartbeats 1000000 in
theorem bigBit_any (p n i : Nat) (w : World) (h : IntAt w p n) (hi : (i : Int) ≤ 1000000) :
    Calls Tryz.prog 66 #[.pointer (some ⟨p, 0, none⟩), .int .i64 i] w fun e w' => e = .returned (.int .u64 ((n / 2 ^ i % 2 : Nat) : Int)) ∧ w' = w := by
  obtain ⟨v, hbx, hv⟩ := h
  obtain ⟨c0, c1⟩ := hbx.cells
  have N1 := hide (bit_any n i v w hv hi)
  obtain ⟨x1, x2, x3, hv1⟩ := slice_of hv
  subst hv1
  have hi0 : ¬ (i : Int) < 0 := by
    intro h; exact absurd (Int.natCast_nonneg i) (Int.not_le.2 h)
  generalize n / 2 ^ i % 2 = bt at *
  clear hbx hv hi
  go_enter Tryz.func66, Tryz.ntmps66
  go_wp2_with fail
  refine (unhide N1).mono ?_
  rintro e y ⟨rfl, hy⟩
  have hy2 := hy.symm
  subst hy2
  clear hy
  go_wp2
  go_ret
  exact ⟨rfl, rfl⟩
end Go.Proofs.YtckkhpegimkefaaGreatDoor
namespace Go.Proofs.YtckkhpegimkefaaGreatDoor
open Go.RowKit
set_option linter.unusedVariables false

theorem by1 (k i j : Nat) (hj : j = k - 1 - i) (hlt : i < k) (hk : (k : Int) ≤ 50000) : IntKind.i64.wrap ((k : Int) - 1) = (k : Int) - 1 ∧ IntKind.i64.wrap ((k : Int) - 1 - (i : Int)) = (j : Int) := by
  constructor <;> (rw [IntKind.wrap_i64]; omega)
theorem by2 (i m s sh : Nat) (hm : m = i / 4) (hs : s = i % 4) (hsh : sh = 8 * s) (hi : i ≤ 50000) : wrap64 ((i : Int).tdiv 4) = (m : Int) ∧ IntKind.u64.wrap (i : Int) = (i : Int) ∧ (i : Int) % 4 = (s : Int) ∧ IntKind.u64.wrap (8 * (s : Int)) = (sh : Int) ∧ sh ≤ 24 := by
  refine ⟨by rw [Int.tdiv_eq_ediv_of_nonneg (by omega)]; unfold wrap64; omega, wraps_u64 _ (by omega) (by omega), by omega, by rw [wraps_u64 _ (by omega) (by omega)]; omega, by omega⟩
theorem by3 (n i m s sh x : Nat) (hm : m = i / 4) (hs : s = i % 4) (hsh : sh = 8 * s) (hx : (dig n)[m]? = some x) : ∃ y bt : Nat, (x : Int).fdiv (2 ^ min (Int.toNat (sh : Int)) IntKind.u32.bits) = (y : Int) ∧ (y : Int) % 256 = (bt : Int) ∧ ((n / 256 ^ i % 256 : Nat) : Int) = (bt : Int) := by
  have hb := byte_word n i
  have hxv := dig_get n m x hx
  rw [hm] at hxv
  rw [← hxv] at hb
  refine ⟨x / 2 ^ sh, n / 256 ^ i % 256, ?_, ?_, rfl⟩
  · have h24 : sh ≤ 32 := by clear hb hxv hx; omega
    rw [Int.toNat_natCast, Nat.min_eq_left (show sh ≤ IntKind.u32.bits from h24), Int.fdiv_eq_ediv_of_nonneg _ (Int.le_of_lt (Int.pow_pos (by decide)))]
    rw [show ((2 : Int) ^ sh) = ((2 ^ sh : Nat) : Int) from (Int.natCast_pow 2 sh).symm]
    exact (Int.natCast_ediv x (2 ^ sh)).symm
  · rw [← hb, hsh, hs]
    exact (Int.natCast_emod _ _).symm
theorem len_bound {n L : Nat} (hL : IsLen n L) (hd : (dig n).length ≤ 10000) : L ≤ 320000 := by
  by_cases h0 : n = 0
  · rw [hL.2.1 h0]; decide
  · obtain ⟨h1, h2⟩ := hL.2.2 h0
    have h4 := lt_dig n
    rw [B32_twoP] at h4
    have h5 := (Nat.pow_lt_pow_iff_right (show 1 < 2 by decide)).1 (Nat.lt_of_le_of_lt h2 h4)
    clear h2 h4 hL
    omega
set_option maxHeartbeats 4000000 in
set_option maxRecDepth 100000 in
theorem bigBytes_any (p n : Nat) (w : World) (h : IntAt w p n) (hn : n < B32 ^ 10000) :
    Calls Tryz.prog 97 #[.pointer (some ⟨p, 0, none⟩)] w fun e w' => (∃ k L : Nat, IsLen n L ∧ k = (L + 7) / 8 ∧ e = .returned (.slice (some ⟨w.heap.size, 0, none⟩) k k) ∧ YRow w' w.heap.size (bigL n k)) ∧ Below w.heap.size w w' := by
  obtain ⟨v, hb, hv⟩ := h
  have N1 := hide (blength_any n v w hv hn)
  obtain ⟨c0, c1⟩ := hb.cells
  obtain ⟨ao, cap, rfl, hr⟩ := hv
  have hdl := dig_len 10000 n hn
  have hplt := heap_lt hb.1
  obtain ⟨i0, hi, hz0, hz1, hz2⟩ := info_partsV infoU8B
  have HR := hide hr
  clear hb hr hn
  go_enter Tryz.func97, Tryz.ntmps97
  go_upto_region 1 with fail
  go_cut [3] (fun v wx => ∃ k L : Nat, v = .int .i64 (k : Nat) ∧ IsLen n L ∧ k = (L + 7) / 8 ∧ L ≤ 320000 ∧ wx = w)
  case first =>
    go_wp2_with fail
    refine (unhide N1).mono ?_
    rintro e w' ⟨⟨L, rfl, hL⟩, hw⟩
    have hw' := hw.symm
    subst hw'
    have hLb := len_bound hL hdl
    have HL := hide (And.intro hL hLb)
    obtain ⟨k, hk⟩ : ∃ k, k = (L + 7) / 8 := ⟨_, rfl⟩
    have w1 : IntKind.i64.wrap ((L : Int) + 7) = (L : Int) + 7 := by rw [IntKind.wrap_i64]; omega
    have w2 : wrap64 (((L : Int) + 7).tdiv 8) = (k : Int) := by rw [Int.tdiv_eq_ediv_of_nonneg (by omega)]; unfold wrap64; omega
    have HK := hide hk
    clear hL hLb hk
    go_wp2
    go_meet
    exact ⟨k, L, by rw [w2], (unhide HL).1, unhide HK, (unhide HL).2, rfl⟩
  case rest =>
  obtain ⟨k, L, rfl, hL, hk, hLb, hwc⟩ := hcut
  have hwc' := hwc.symm
  subst hwc'
  clear hwc
  have hkb : (k : Int) ≤ 50000 := by omega
  have HL := hide hL; have HK := hide hk
  clear hL hk hLb N1
  go_wp2_with (at_make; refine wpList_make_full _ rfl _ _ 43 rfl w.heap.size 5 i0 (.int .u8 0) 1 Tryz.underlying43 hi hz0 hz1 .i64 .i64 _ _ k rfl rfl (by simp) (by simp) (by rw [hz2]; omega) (by unfold maxLen; omega) (Nat.le_refl _) ?_)
  intro w1 hown hgrow
  have hU : YRow w1 w.heap.size (rowAt n k 0) := by
    have := own_wholeV hown
    rw [made_row k n] at this
    exact this
  have hb : Below w.heap.size w w1 := (Below.refl _ _).grown hgrow (Nat.le_refl _) (fun q hq => by cases hq)
  clear hown hgrow hi hz0 hz1 hz2
  go_wp2
  go_loopw [5] (fun iv wr => ∃ i : Nat, i ≤ k ∧ iv = .int .i64 i ∧ YRow wr w.heap.size (rowAt n k i) ∧ Below w.heap.size w wr) (fun iv _ => k - (intOf iv).toNat)
  case atStart => exact ⟨0, Nat.zero_le _, rfl, hU, hb⟩
  case round =>
    clear hU hb
    obtain ⟨i, hik, rfl, hU, hbel⟩ := hrel
    by_cases hlt : i < k
    · obtain ⟨j, hj⟩ : ∃ j, j = k - 1 - i := ⟨_, rfl⟩
      obtain ⟨m, hm⟩ : ∃ m, m = i / 4 := ⟨_, rfl⟩
      obtain ⟨s, hs⟩ : ∃ s, s = i % 4 := ⟨_, rfl⟩
      obtain ⟨sh, hsh⟩ : ∃ s', s' = 8 * s := ⟨_, rfl⟩
      have hi5 : i ≤ 50000 := by omega
      have em : (i : Int) / 4 = (m : Int) := by omega
      have hjk : (j : Int) < (k : Int) := by omega
      have hjk2 : j < k := by omega
      obtain ⟨a1, a2⟩ := by1 k i j hj hlt hkb
      obtain ⟨a3, a4, a5, a6, hsh24⟩ := by2 i m s sh hm hs hsh hi5
      have HJ := hide hj; have HM := hide hm; have HS := hide hs; have HSH := hide hsh
      clear hj hm hs hsh
      have hwt := word_there (unhide HL) (by rw [← unhide HK]; exact hlt)
      rw [← unhide HM] at hwt
      have hmd : (m : Int) < ((dig n).length : Int) := Int.ofNat_lt.2 hwt
      obtain ⟨x, hx⟩ : ∃ x, (dig n)[m]? = some x := ⟨_, List.getElem?_eq_getElem hwt⟩
      rcases (unhide HR) with hnil | ⟨g, off, rfl, hg, hc⟩
      · rw [hnil] at hx; simp at hx
      have d0 : wr.cell? ⟨g, off + m, none⟩ = some (.int .u32 (x : Nat)) := (hbel.cell (p := ⟨g, off + m, none⟩) hg).trans (hc _ x hx)
      have hm1 : (i : Int) / 4 < ((dig n).length : Int) := by rw [em]; exact hmd
      have hm0 : (0 : Int) ≤ (i : Int) / 4 := by rw [em]; exact Int.natCast_nonneg m
      have d0' : wr.cell? ⟨g, off + i / 4, none⟩ = some (.int .u32 (x : Nat)) := by rw [← unhide HM]; exact d0
      clear em
      have d1 : wr.cell? ⟨p, 1, none⟩ = some (.slice (some ⟨g, off, none⟩) (dig n).length cap) := (hbel.cell (p := ⟨p, 1, none⟩) hplt).trans c1
      have hset := rowAt_set n k i hlt
      rw [← unhide HJ] at hset
      obtain ⟨z, hz⟩ : ∃ z, (rowAt n k i)[j]? = some z := ⟨_, List.getElem?_eq_getElem (by rw [rowAt_length n k i (Nat.le_of_lt hlt)]; exact hjk2)⟩
      have q0 := hU.cell _ z hz
      have f0 := hU.frozen j
      obtain ⟨y, bt, a7, a8, hbt⟩ := by3 n i m s sh x (unhide HM) (unhide HS) (unhide HSH) hx
      rw [hbt] at hset
      have HU1 := hide (hU.set j (bt : Int)); have HBE := hide (hbel.setCell (p := ⟨w.heap.size, j, none⟩) (Nat.le_refl _) (.int .u8 (bt : Int)))
      have HSET := hide hset
      have hV : (x : Int) / 2 ^ min sh 32 % 256 = (bt : Int) := by
        have h := a7
        rw [Int.toNat_natCast, Int.fdiv_eq_ediv_of_nonneg _ (Int.le_of_lt (Int.pow_pos (by decide)))] at h
        have h2 : (x : Int) / 2 ^ min sh 32 = (y : Int) := h
        rw [h2]; exact a8
      have HV := hide hV
      clear hV a7 a8
      clear hc hx hset hz hU hbel hwt hsh24 hbt hjk2
      go_wp2
      go_roundw
      case rel =>
        refine ⟨i + 1, hlt, by go_num, ?_, ?_⟩
        · rw [unhide HV, ← unhide HSET]; exact unhide HU1
        · rw [unhide HV]; exact unhide HBE
      case measure =>
        clear a1 a2 a3 a4 a5 a6
        simp [intOf]; omega
    · have hke : i = k := by omega
      subst hke
      have HU := hide hU; have HB := hide hbel
      clear hU hbel
      go_wp2
      go_ret
      exact ⟨⟨i, L, unhide HL, unhide HK, rfl, by have := unhide HU; rw [show rowAt n i i = bigL n i by simp [rowAt]] at this; exact this⟩, unhide HB⟩
end Go.Proofs.YtckkhpegimkefaaGreatDoor
namespace Go.Proofs.YtckkhpegimkefaaGreatDoor
open Go.RowKit
set_option linter.unusedVariables false
set_option linter.unusedSimpArgs false
set_option maxRecDepth 100000

theorem bytesWorld_belowW (w : World) (e : TypeId) (s : ByteArray) : Below w.heap.size w (Lib.bytesWorld w e s) :=
  ⟨rfl, rfl, rfl, by rw [Lib.bytesWorld_size]; omega, fun q hq => Lib.bytesWorld_at_old w e s q hq⟩
set_option maxHeartbeats 1000000 in
theorem whole_any (s : ByteArray) (w : World) (hs : (s.size : Int) ≤ 1000) :
    Calls Tryz.prog 61 #[.string s] w fun e w' => (e = .returned (.pointer (some ⟨w.heap.size, 0, none⟩)) ∧ IntAt w' w.heap.size (valN s.data.toList)) ∧ Below w.heap.size w w' ∧ w.heap.size < w'.heap.size := by
  obtain ⟨W1, hW1⟩ : ∃ W1, W1 = w.alloc (.cells #[.bool false, .slice none 0 0] 101) := ⟨_, rfl⟩
  have hX1 : W1.heap[w.heap.size]? = some (.cells #[.bool false, .slice none 0 0] 101 (0, 0)) := by rw [hW1]; exact heap_alloc_new _ _
  have hB1 : Below w.heap.size w W1 := by rw [hW1]; exact (Below.refl _ _).alloc (Nat.le_refl _) _
  obtain ⟨W2, hW2⟩ : ∃ W2, W2 = Lib.bytesWorld W1 5 s := ⟨_, rfl⟩
  have hB2 : Below W1.heap.size W1 W2 := by rw [hW2]; exact bytesWorld_belowW _ _ _
  have hX2 : BoxAt3 W2 w.heap.size false (.slice none 0 0) := ⟨(hB2.block _ (heap_lt hX1)).trans hX1, _, _, _, rfl⟩
  have hcell : ∀ i (h : i < s.size), W2.cell? ⟨W1.heap.size, i, none⟩ = some (.int .u8 ((s[i]'h).toNat : Int)) := fun i h => by
    rw [hW2, Lib.bytesWorld_cell W1 5 s i h]
    have e : s.data.toList.getD i 0 = s[i]'h := by
      rw [List.getD_eq_getElem?_getD, List.getElem?_eq_getElem (by simpa using h)]; rfl
    rw [e]
  have hsz : W2.heap.size = W1.heap.size + 1 := by rw [hW2, Lib.bytesWorld_size]
  have hlt : w.heap.size < W2.heap.size := by have := heap_lt hX1; omega
  have N0 := setBytes_any s W1.heap.size (grownCap W1 s.size 0 5) w.heap.size false (.slice none 0 0) W2 hcell (by omega) hX2 hs
  have hcv := Lib.run_convert_string_bytes (P := Tryz.prog) W1 9 43 5 s Tryz.underlying9 Tryz.underlying43 Tryz.underlying5
  rw [← hW2] at hcv
  have HB := hide (hB1.trans (hB2.mono hB1.size))
  have HLT := hide hlt
  have HN := hide N0
  generalize grownCap W1 s.size 0 5 = CP at *
  generalize hg1 : W1.heap.size = g1 at *
  have hcv' : ∀ v w', (convert 9 43 (.string s)).run Tryz.prog W1 = .ok v w' → True := fun _ _ _ => trivial
  clear hX1 hB1 hB2 hX2 hcell hsz hcv' N0 hW2 hg1 hlt hs
  rw [hW1] at hcv
  clear hW1
  go_enter Tryz.func61, Tryz.ntmps61
  go_wp2_with fail
  refine (unhide HN).mono ?_
  rintro e y ⟨rfl, hI, hb, _, hz⟩
  have HI := hide hI; have HBB := hide ((unhide HB).trans (hb w.heap.size (Nat.le_refl _)))
  have HZ := hide (Nat.lt_of_lt_of_le (unhide HLT) hz)
  clear hI hb hz
  go_wp2
  go_ret
  exact ⟨⟨rfl, unhide HI⟩, unhide HBB, unhide HZ⟩
end Go.Proofs.YtckkhpegimkefaaGreatDoor
namespace Go.Proofs.YtckkhpegimkefaaGreatDoor
open Go.RowKit Go.Shelf
set_option linter.unusedVariables false

set_option maxHeartbeats 1000000 in
set_option maxRecDepth 100000 in
theorem rmodulus_any (s : ByteArray) (w : World) :
    Calls Tryz.prog 60 #[.string s] w fun e w' => e = .returned (.bool (isModB s)) ∧ w' = w := by
  by_cases h1 : 40 ≤ s.size
  · by_cases h2 : s.size ≤ 96
    · obtain ⟨c, hc⟩ : ∃ c : Nat, c = (s.data.toList.headD 0).toNat := ⟨_, rfl⟩
      obtain ⟨d, hd⟩ : ∃ d : Nat, d = (s.data.toList.getLastD 0).toNat := ⟨_, rfl⟩
      have hm : isModB s = (decide (128 ≤ c) && decide (d % 2 = 1)) := by
        unfold isModB
        rw [← hc, ← hd, decide_eq_true h1, decide_eq_true h2]
        simp
      rw [hm]
      have hcb : c < 256 := by rw [hc]; exact UInt8.toNat_lt _
      have hdb : d < 256 := by rw [hd]; exact UInt8.toNat_lt _
      obtain ⟨l, hl⟩ : ∃ l, l = s.size - 1 := ⟨_, rfl⟩
      have hli : (s.size : Int) - 1 = (l : Int) := by omega
      have hls : l < s.size := by omega
      have x0 : ∀ h, ((s[0]'h).toNat : Int) = (c : Int) := by
        intro h
        rw [hc]
        congr 2
        have hne : s.data.toList = s[0] :: s.data.toList.tail := by
          have : s.data.toList ≠ [] := by
            intro hh
            have hz : s.size = s.data.toList.length := by simp
            rw [hh, List.length_nil] at hz
            omega
          cases hh : s.data.toList with
          | nil => exact absurd hh this
          | cons a t =>
            have : s[0] = a := by
              show s.data[0] = a
              rw [← Array.getElem_toList]
              simp [hh]
            rw [this]; rfl
        rw [hne]; rfl
      have x1 : ∀ h, ((s[l]'h).toNat : Int) = (d : Int) := by
        intro h
        rw [hd]
        congr 2
        show s.data[l] = _
        rw [List.getLastD_eq_getLast?, List.getLast?_eq_getElem?, ← Array.getElem_toList]
        have hz : s.size = s.data.size := rfl
        rw [show s.data.toList.length - 1 = l by rw [hl, hz]; simp, List.getElem?_eq_getElem (by rw [Array.length_toList, ← hz]; omega)]
        rfl
      clear hc hd hm
      have k1 : (40 : Int) ≤ (s.size : Int) := by omega
      have k2 : (s.size : Int) ≤ 96 := by omega
      by_cases h3 : 128 ≤ c
      · rw [decide_eq_true h3, Bool.true_and]
        have k3 : (127 : Int) < (c : Int) := by omega
        have h4 : d % 2 = 0 ∨ d % 2 = 1 := by omega
        rcases h4 with h4 | h4
        · rw [h4]
          have k4 : (d : Int) % 2 = 0 := by omega
          clear h4 h3 hl
          go_enter Tryz.func60, Tryz.ntmps60
          go_wp2
          go_ret
          exact ⟨rfl, rfl⟩
        · rw [h4]
          have k4 : (d : Int) % 2 = 1 := by omega
          clear h4 h3 hl
          go_enter Tryz.func60, Tryz.ntmps60
          go_wp2
          go_ret
          exact ⟨rfl, rfl⟩
      · rw [decide_eq_false h3, Bool.false_and]
        have k3 : ¬ (127 : Int) < (c : Int) := by omega
        clear h3 hl
        go_enter Tryz.func60, Tryz.ntmps60
        go_wp2
        go_ret
        exact ⟨rfl, rfl⟩
    · have hm : isModB s = false := by unfold isModB; rw [decide_eq_false h2]; simp
      rw [hm]
      have k1 : (40 : Int) ≤ (s.size : Int) := by omega
      have k2 : ¬ (s.size : Int) ≤ 96 := by omega
      clear hm
      go_enter Tryz.func60, Tryz.ntmps60
      go_wp2
      go_ret
      exact ⟨rfl, rfl⟩
  · have hm : isModB s = false := by unfold isModB; rw [decide_eq_false h1]; simp
    rw [hm]
    have k1 : ¬ (40 : Int) ≤ (s.size : Int) := by omega
    clear hm
    go_enter Tryz.func60, Tryz.ntmps60
    go_wp2
    go_ret
    exact ⟨rfl, rfl⟩
end Go.Proofs.YtckkhpegimkefaaGreatDoor
namespace Go.Proofs.YtckkhpegimkefaaGreatDoor
open Go.RowKit Go.Shelf
set_option linter.unusedVariables false

/-- may it be one of the two? -/
def isFacB (s : ByteArray) : Bool := decide (1 ≤ s.size) && decide (s.size ≤ 96) && decide (¬ (s.data.toList.headD 0).toNat = 0)
theorem head_byte (s : ByteArray) (h0 : 1 ≤ s.size) : ∀ h, ((s[0]'h).toNat : Int) = ((s.data.toList.headD 0).toNat : Int) := by
  intro h
  congr 2
  have hne : s.data.toList = s[0] :: s.data.toList.tail := by
    have : s.data.toList ≠ [] := by
      intro hh
      have hz : s.size = s.data.toList.length := by simp
      rw [hh, List.length_nil] at hz
      omega
    cases hh : s.data.toList with
    | nil => exact absurd hh this
    | cons a t =>
      have : s[0] = a := by
        show s.data[0] = a
        rw [← Array.getElem_toList]
        simp [hh]
      rw [this]; rfl
  rw [hne]; rfl

set_option maxHeartbeats 1000000 in
set_option maxRecDepth 100000 in
theorem isFactor_any (s : ByteArray) (w : World) :
    Calls Tryz.prog 44 #[.string s] w fun e w' => e = .returned (.bool (isFacB s)) ∧ w' = w := by
  by_cases h1 : 1 ≤ s.size
  · by_cases h2 : s.size ≤ 96
    · have x0 := head_byte s h1
      have hm : isFacB s = decide (¬ (s.data.toList.headD 0).toNat = 0) := by
        unfold isFacB
        rw [decide_eq_true h1, decide_eq_true h2]
        simp
      rw [hm]
      clear hm
      have hcb : (s.data.toList.headD 0).toNat < 256 := UInt8.toNat_lt _
      generalize (s.data.toList.headD 0).toNat = c at *
      have k1 : (1 : Int) ≤ (s.size : Int) := by omega
      have k2 : (s.size : Int) ≤ 96 := by omega
      by_cases h3 : c = 0
      · rw [decide_eq_false (by omega)]
        have k3 : ((c : Int) != 0) = false := by simp [h3]
        clear h3
        go_enter Tryz.func44, Tryz.ntmps44
        go_wp2
        go_ret
        exact ⟨rfl, rfl⟩
      · rw [decide_eq_true h3]
        have k3 : ((c : Int) != 0) = true := by simp; omega
        clear h3
        go_enter Tryz.func44, Tryz.ntmps44
        go_wp2
        go_ret
        exact ⟨rfl, rfl⟩
    · have hm : isFacB s = false := by unfold isFacB; rw [decide_eq_false h2]; simp
      rw [hm]
      have k1 : (1 : Int) ≤ (s.size : Int) := by omega
      have k2 : ¬ (s.size : Int) ≤ 96 := by omega
      clear hm
      go_enter Tryz.func44, Tryz.ntmps44
      go_wp2
      go_ret
      exact ⟨rfl, rfl⟩
  · have hm : isFacB s = false := by unfold isFacB; rw [decide_eq_false h1]; simp
    rw [hm]
    have k1 : ¬ (1 : Int) ≤ (s.size : Int) := by omega
    clear hm
    go_enter Tryz.func44, Tryz.ntmps44
    go_wp2
    go_ret
    exact ⟨rfl, rfl⟩
end Go.Proofs.YtckkhpegimkefaaGreatDoor
namespace Go.Proofs.YtckkhpegimkefaaGreatDoor
open Go.RowKit Go.Shelf
set_option linter.unusedVariables false

set_option maxHeartbeats 1000000 in
theorem zeros_three (w : World) :
    Calls Tryz.prog 122 #[.int .u64 3] w fun e w' => e = .returned (.int .i64 62) ∧ w' = w := by
  have N0 := len64_any 3 (by decide) w
  rw [show Lib.bitLen 3 = 2 by first | rfl | decide | simp [Lib.bitLen]] at N0
  have N := hide N0
  clear N0
  go_enter Tryz.func122, Tryz.ntmps122
  go_wp2_with fail
  refine (unhide N).mono ?_
  rintro e w' ⟨rfl, rfl⟩
  go_wp2
  go_ret
  exact ⟨rfl, rfl⟩
end Go.Proofs.YtckkhpegimkefaaGreatDoor
