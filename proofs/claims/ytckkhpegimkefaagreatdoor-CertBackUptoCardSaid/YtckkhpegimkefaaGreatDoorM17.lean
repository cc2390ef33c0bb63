/- cmp of the big numbers. -/
import Derived.Test.YtckkhpegimkefaaGreatDoorM16
import Derived.Test.YtckkhpegimkefaaGreatDoorM00
namespace Go.Proofs.YtckkhpegimkefaaGreatDoor
open Go.RowKit
set_option linter.unusedVariables false

def ordI (a b : Nat) : Int := if a < b then -1 else if b < a then 1 else 0
theorem natV_at (l : List Nat) (j x : Nat) (h : l[j]? = some x) : natV l = natV (l.take j) + x * B32 ^ j + B32 ^ (j + 1) * natV (l.drop (j + 1)) := by
  have hj : j < l.length := (List.getElem?_eq_some_iff.1 h).1
  have e := natV_take_succ l j x h
  conv => lhs; rw [← List.take_append_drop (j + 1) l]
  rw [natV_append, e, List.length_take, Nat.min_eq_left (by omega)]
theorem lt_top {xs ys : List Nat} {j x y : Nat} (ha : okV xs) (hx : xs[j]? = some x) (hy : ys[j]? = some y) (hd : xs.drop (j + 1) = ys.drop (j + 1)) (hlt : x < y) : natV xs < natV ys := by
  have hj : j < xs.length := (List.getElem?_eq_some_iff.1 hx).1
  have h1 := natV_lt (okV_take ha j)
  rw [List.length_take, Nat.min_eq_left (by omega)] at h1
  rw [natV_at xs j x hx, natV_at ys j y hy, hd]
  have h2 : (x + 1) * B32 ^ j ≤ y * B32 ^ j := Nat.mul_le_mul_right _ hlt
  rw [Nat.add_mul, Nat.one_mul] at h2
  omega
theorem dig_ge {n : Nat} (h : n ≠ 0) : B32 ^ ((dig n).length - 1) ≤ n := by
  obtain ⟨x, hx, hx0⟩ := dig_last h
  rw [List.getLast?_eq_getElem?] at hx
  have e := natV_at (dig n) _ x hx
  rw [natV_dig] at e
  have h1 : B32 ^ ((dig n).length - 1) ≤ x * B32 ^ ((dig n).length - 1) := Nat.le_mul_of_pos_left _ (by omega)
  omega
theorem len_lt {a b : Nat} (h : (dig a).length < (dig b).length) : a < b := by
  have hb : b ≠ 0 := fun e => by subst e; rw [dig_zero] at h; simp at h
  have h1 := dig_ge hb
  have h2 := lt_dig a
  have h3 : B32 ^ (dig a).length ≤ B32 ^ ((dig b).length - 1) := Nat.pow_le_pow_right B32_pos (by omega)
  omega
theorem len_le {a b : Nat} (h : a ≤ b) : (dig a).length ≤ (dig b).length := by
  rcases Nat.lt_or_ge (dig b).length (dig a).length with h1 | h1
  · have := len_lt h1; omega
  · exact h1
set_option maxHeartbeats 4000000 in
set_option maxRecDepth 100000 in
theorem cmp_rows (xs ys : List Nat) (ao bo : Option Addr) (ca cb : Nat) (w : World) (ha : WRow w ao xs) (hb : WRow w bo ys) (oka : okV xs) (okb : okV ys) (hla : (xs.length : Int) ≤ 10000) (hlb : (ys.length : Int) ≤ 10000) (hlt0 : xs.length < ys.length → natV xs < natV ys) (hgt0 : ys.length < xs.length → natV ys < natV xs) :
    Calls Tryz.prog 90 #[.slice ao xs.length ca, .slice bo ys.length cb] w fun e w' => e = .returned (.int .i64 (ordI (natV xs) (natV ys))) ∧ Below w.heap.size w w' := by
  have HA := hide ha; have HB := hide hb
  clear ha hb
  by_cases hlen : xs.length = ys.length
  case neg =>
    have hne : ((xs.length : Int) != (ys.length : Int)) = true := by simp; omega
    by_cases hl : xs.length < ys.length
    · have HE : Hid (ordI (natV xs) (natV ys) = -1) := hide (by rw [ordI, if_pos (hlt0 hl)])
      have hlI : (xs.length : Int) < (ys.length : Int) := by omega
      clear hlt0 hgt0 hlen hl
      go_enter Tryz.func90, Tryz.ntmps90
      go_wp2
      go_ret
      exact ⟨ret_int (unhide HE).symm, Below.refl _ _⟩
    · have hg := hgt0 (by omega)
      have HE : Hid (ordI (natV xs) (natV ys) = 1) := hide (by rw [ordI, if_neg (by omega), if_pos hg])
      have hlI : ¬ (xs.length : Int) < (ys.length : Int) := by omega
      clear hlt0 hgt0 hlen hl hg
      go_enter Tryz.func90, Tryz.ntmps90
      go_wp2
      go_ret
      exact ⟨ret_int (unhide HE).symm, Below.refl _ _⟩
  have hne : ((xs.length : Int) != (ys.length : Int)) = false := by simp; omega
  have hw1 : IntKind.i64.wrap ((xs.length : Int) - 1) = (xs.length : Int) - 1 := by rw [IntKind.wrap_i64]; omega
  have hle : ys.length ≤ xs.length := by omega
  have hle2 : xs.length ≤ ys.length := by omega
  clear hlt0 hgt0 hlen
  go_enter Tryz.func90, Tryz.ntmps90
  go_wp2
  go_loopw [5] (fun r wr => ∃ i : Nat, i ≤ xs.length ∧ r = .int .i64 ((i : Int) - 1) ∧ Hid (xs.drop i = ys.drop i) ∧ ∃ q, wr = w.drewN q) (fun r _ => (intOf r + 1).toNat)
  case atStart => exact ⟨xs.length, Nat.le_refl _, by first | rfl | go_num, hide (by rw [List.drop_of_length_le (Nat.le_refl _), List.drop_of_length_le hle]), 0, rfl⟩
  case round =>
    obtain ⟨i, hi, rfl, HD, q, rfl⟩ := hrel
    by_cases h0 : i = 0
    · subst h0
      have HE : Hid (ordI (natV xs) (natV ys) = 0) := hide (by
        have := unhide HD
        simp only [List.drop_zero] at this
        rw [this, ordI, if_neg (Nat.lt_irrefl _), if_neg (Nat.lt_irrefl _)])
      go_wp2
      go_ret
      exact ⟨ret_int (unhide HE).symm, below_drewN (Below.refl _ _) _⟩
    · obtain ⟨j, rfl⟩ : ∃ j, i = j + 1 := ⟨i - 1, by omega⟩
      have ej : ((j + 1 : Nat) : Int) - 1 = (j : Int) := by omega
      rw [ej]
      obtain ⟨x, hx⟩ : ∃ x, xs[j]? = some x := ⟨_, List.getElem?_eq_getElem (by omega)⟩
      obtain ⟨y, hy⟩ : ∃ x, ys[j]? = some x := ⟨_, List.getElem?_eq_getElem (by omega)⟩
      rcases (unhide HA) with hnil | ⟨ga, oa, rfl, hga, hca⟩
      · rw [hnil] at hx; simp at hx
      rcases (unhide HB) with hnil | ⟨gb, ob, rfl, hgb, hcb⟩
      · rw [hnil] at hy; simp at hy
      have c0 := hca j x hx
      have c1 := hcb j y hy
      have hji : (j : Int) < (xs.length : Int) := by omega
      have hji2 : (j : Int) < (ys.length : Int) := by omega
      have hnx : IntKind.i64.wrap ((j : Int) - 1) = (j : Int) - 1 := by rw [IntKind.wrap_i64]; omega
      have hj0 : (0 : Int) ≤ (j : Int) := by omega
      by_cases hxy : x = y
      · subst hxy
        have HD2 : Hid (xs.drop j = ys.drop j) := hide (by
          obtain ⟨h1, e1⟩ := List.getElem?_eq_some_iff.1 hx
          obtain ⟨h2, e2⟩ := List.getElem?_eq_some_iff.1 hy
          rw [List.drop_eq_getElem_cons h1, List.drop_eq_getElem_cons h2, e1, e2, unhide HD])
        have hbn : ((x : Int) != (x : Int)) = false := by simp
        clear hca hcb hx hy ej h0
        go_wp2_with fail
        go_quiet (fail)
        go_wp2
        go_roundw
        case rel => exact ⟨j, by omega, by go_num, HD2, _, rfl⟩
        case measure => simp [intOf] <;> omega
      · have hbn : ((x : Int) != (y : Int)) = true := by simp; omega
        by_cases hl : x < y
        · have HE : Hid (ordI (natV xs) (natV ys) = -1) := hide (by rw [ordI, if_pos (lt_top oka hx hy (unhide HD) hl)])
          have hlI : (x : Int) < (y : Int) := by omega
          clear hca hcb hx hy ej h0 hxy
          go_wp2_with fail
          go_quiet (fail)
          go_wp2_with fail
          go_quiet (fail)
          go_wp2
          go_ret
          exact ⟨ret_int (unhide HE).symm, below_drewN (below_drewN (below_drewN (Below.refl _ _) _) _) _⟩
        · have hg := lt_top okb hy hx (unhide HD).symm (show y < x by omega)
          have HE : Hid (ordI (natV xs) (natV ys) = 1) := hide (by rw [ordI, if_neg (by omega), if_pos hg])
          have hlI : ¬ (x : Int) < (y : Int) := by omega
          clear hca hcb hx hy ej h0 hxy hg
          go_wp2_with fail
          go_quiet (fail)
          go_wp2_with fail
          go_quiet (fail)
          go_wp2
          go_ret
          exact ⟨ret_int (unhide HE).symm, below_drewN (below_drewN (below_drewN (Below.refl _ _) _) _) _⟩
end Go.Proofs.YtckkhpegimkefaaGreatDoor
namespace Go.Proofs.YtckkhpegimkefaaGreatDoor
open Go.RowKit
set_option linter.unusedVariables false

theorem or_sum (c m : Nat) (hc : c < 256) (hm : m < 16777216) : c ||| 256 * m = c + 256 * m := by
  have := Nat.two_pow_add_eq_or_of_lt (i := 8) (b := c) hc m
  rw [show (2 : Nat) ^ 8 = 256 from rfl] at this
  rw [Nat.or_comm, ← this, Nat.add_comm]
theorem left_step {P xs : List Nat} {c k x r c' : Nat} (hv : natV P + c * B32 ^ k = natV (xs.take k) * 256) (hl : P.length = k) (hx : xs[k]? = some x) (hs : r + c' * 4294967296 = c + x * 256) :
    natV (P ++ [r]) + c' * B32 ^ (k + 1) = natV (xs.take (k + 1)) * 256 := by
  rw [natV_append, hl, natV_take_succ xs k x hx, Nat.pow_succ]
  simp only [natV, Nat.mul_zero, Nat.add_zero]
  have hs' : r + c' * B32 = c + x * 256 := hs
  have h1 : r * B32 ^ k + c' * B32 * B32 ^ k = c * B32 ^ k + x * 256 * B32 ^ k := by rw [← Nat.add_mul, ← Nat.add_mul, hs']
  grind
set_option maxHeartbeats 8000000 in
set_option maxRecDepth 100000 in
theorem left8_rows (xs : List Nat) (ao : Option Addr) (ca : Nat) (w : World) (ha : WRow w ao xs) (oka : okV xs) (hla : (xs.length : Int) ≤ 10000) :
    Calls Tryz.prog 116 #[.slice ao xs.length ca, .int .u64 8] w fun e w' => (∃ v, e = .returned v ∧ BigV w' v (natV xs * 256)) ∧ Below w.heap.size w w' := by
  have HA := hide ha
  clear ha
  by_cases hx0 : xs = []
  · subst hx0
    clear HA oka hla
    go_enter Tryz.func116, Tryz.ntmps116
    go_wp2
    go_ret
    exact ⟨⟨_, rfl, none, 0, by simp [natV, dig_zero], .inl (by simp [natV, dig_zero])⟩, Below.refl _ _⟩
  have hx0' : ((xs.length : Int) == 0) = false := by simp; exact hx0
  obtain ⟨i0, hi, hz0, hz1, hz2⟩ := info_partsV infoU32
  go_enter Tryz.func116, Tryz.ntmps116
  go_wp2_with (at_make; refine wpList_make_full _ rfl _ _ 99 rfl w.heap.size 119 i0 (.int .u32 0) 1 Tryz.underlying99 hi hz0 hz1 .i64 .i64 _ _ (xs.length + 1) rfl rfl (by simp) (by simp) (by rw [hz2]; omega) (by unfold maxLen; omega) (Nat.le_refl _) ?_)
  intro w1 hown hgrow
  have hU := made_vrow hown
  have hb : Below w.heap.size w w1 := (Below.refl _ _).grown hgrow (Nat.le_refl _) (fun q hq => by cases hq)
  clear hown hgrow hi hz0 hz1 hz2
  go_wp2
  go_loopw [8] (fun i wr => ∃ (k c : Nat) (P : List Nat), k ≤ xs.length ∧ i = .int .i64 k ∧ c < 256 ∧ VRow wr w.heap.size (P ++ c :: List.replicate (xs.length - k) 0) ∧ P.length = k ∧ okV P ∧ natV P + c * B32 ^ k = natV (xs.take k) * 256 ∧ Below w.heap.size w wr) (fun i _ => xs.length - (intOf i).toNat)
  case atStart => exact ⟨0, 0, [], Nat.zero_le _, rfl, by decide, hU, rfl, okV_nil, by simp [natV], hb⟩
  case round =>
    clear hU hb
    obtain ⟨k, c, P, hk, rfl, hc, hU, hPl, hPok, hPv, hbel⟩ := hrel
    by_cases hlt : k < xs.length
    · obtain ⟨x, hx⟩ : ∃ x, xs[k]? = some x := ⟨_, List.getElem?_eq_getElem hlt⟩
      have hxb : x < 4294967296 := okV_get oka hx
      rcases (unhide HA) with hnil | ⟨ga, oa, rfl, hga, hca⟩
      · rw [hnil] at hlt; simp at hlt
      have d0 : wr.cell? ⟨ga, oa + k, none⟩ = some (.int .u32 (x : Nat)) := (hbel.cell (p := ⟨ga, oa + k, none⟩) hga).trans (hca k x hx)
      have hrep : List.replicate (xs.length - k) 0 = 0 :: List.replicate (xs.length - (k + 1)) 0 := by
        rw [show xs.length - k = (xs.length - (k + 1)) + 1 by omega]; rfl
      rw [hrep] at hU
      have q0 := hU.cell k c (by rw [List.getElem?_append_right (by omega)]; simp [hPl])
      have f0 := hU.frozen k
      obtain ⟨v, hv⟩ : ∃ v, v = x * 256 := ⟨_, rfl⟩
      obtain ⟨lo, hlo⟩ : ∃ v', v' = v % 4294967296 := ⟨_, rfl⟩
      obtain ⟨hi, hhi⟩ : ∃ v', v' = v / 4294967296 := ⟨_, rfl⟩
      obtain ⟨r, hr⟩ : ∃ r, r = c + lo := ⟨_, rfl⟩
      have hlo256 : lo = 256 * (lo / 256) := by omega
      have hor : c ||| lo = r := by
        rw [hlo256, or_sum c (lo / 256) hc (by omega)]
        omega
      have w1' : IntKind.u64.wrap (x : Int) = (x : Int) := wraps_u64 _ (by omega) (by omega)
      have w2' : IntKind.u64.wrap ((x : Int) * 256) = (v : Int) := by rw [wraps_u64 _ (by omega) (by omega)]; omega
      have w3' : (v : Int) % 4294967296 = (lo : Int) := by omega
      have w4' : bits .or .u32 (c : Int) (lo : Int) = (r : Int) := by
        rw [or_nat .u32 32 (by decide) (fun n h0 h1 => by simp [IntKind.wrap, IntKind.bits, IntKind.signed]; omega) c lo (by omega) (by omega), hor]
      have w5' : (v : Int) / 4294967296 = (hi : Int) := by omega
      have w6' : (hi : Int) % 4294967296 = (hi : Int) := by omega
      have w7' : bits .or .u32 0 (hi : Int) = (hi : Int) := by
        have := or_nat .u32 32 (by decide) (fun n h0 h1 => by simp [IntKind.wrap, IntKind.bits, IntKind.signed]; omega) 0 hi (by omega) (by omega)
        simpa using this
      have w8' : IntKind.i64.wrap ((k : Int) + 1) = ((k + 1 : Nat) : Int) := by rw [IntKind.wrap_i64]; omega
      have hU1 := hU.set k r
      have hset1 : (P ++ c :: 0 :: List.replicate (xs.length - (k + 1)) 0).set k r = P ++ r :: 0 :: List.replicate (xs.length - (k + 1)) 0 := by
        rw [List.set_append_right _ _ (by omega)]
        simp [hPl]
      rw [hset1] at hU1
      have q1 := hU1.cell (k + 1) 0 (by rw [List.getElem?_append_right (by omega)]; simp [hPl])
      have f1 := hU1.frozen (k + 1)
      have hU2 := hU1.set (k + 1) hi
      have hset2 : (P ++ r :: 0 :: List.replicate (xs.length - (k + 1)) 0).set (k + 1) hi = (P ++ [r]) ++ hi :: List.replicate (xs.length - (k + 1)) 0 := by
        rw [List.set_append_right _ _ (by omega)]
        simp [hPl]
      rw [hset2] at hU2
      have hsum := left_step hPv hPl hx (show r + hi * 4294967296 = c + x * 256 by omega)
      have hrb : r < B32 := by show r < 4294967296; omega
      have hhb : hi < 256 := by omega
      have HU2 := hide hU2; have HBE := hide ((hbel.setCell (p := ⟨w.heap.size, k, none⟩) (Nat.le_refl _) (.int .u32 (r : Nat))).setCell (p := ⟨w.heap.size, k + 1, none⟩) (Nat.le_refl _) (.int .u32 (hi : Nat)))
      have HSUM := hide hsum; have HOK := hide (okV_snoc hPok hrb)
      have hkA : (k : Int) < (xs.length : Int) := by omega
      clear hca hx hrep hU hU1 hU2 hset1 hset2 hsum hrb hbel hPv hPok hv hlo hhi hr hlo256 hor hxb
      go_wp2
      go_roundw
      case rel => exact ⟨k + 1, hi, P ++ [r], by omega, by go_num, hhb, unhide HU2, by simp [hPl], unhide HOK, unhide HSUM, unhide HBE⟩
      case measure => simp [intOf]; omega
    · have hkx : k = xs.length := by omega
      rw [hkx, List.take_length] at hPv
      rw [hkx, Nat.sub_self, List.replicate_zero] at hU
      have hok2 := okV_snoc hPok (show c < B32 by show c < 4294967296; omega)
      have hnv : natV (P ++ [c]) = natV xs * 256 := by
        rw [natV_append, hPl, hkx]
        simp only [natV, Nat.mul_zero, Nat.add_zero]
        rw [Nat.mul_comm]
        exact hPv
      have hll : (P ++ [c]).length = xs.length + 1 := by simp [hPl, hkx]
      have n1 := trim_any (P ++ [c]) w.heap.size 0 (xs.length + 1) _ hU.wrow hok2 (by rw [hll]; omega) (by rw [hll]; omega) (by omega)
      have hwd := wrow_dig hU.wrow hok2
      rw [hnv, hll] at n1
      rw [hnv] at hwd
      have hkd : ¬ (k : Int) < (xs.length : Int) := by omega
      have N1 := hide n1; have HWD := hide hwd; have HBE := hide hbel
      clear n1 hwd hU hnv hPv hbel hkx hok2 hll
      go_wp2_with fail
      refine (unhide N1).mono ?_
      rintro e w2 ⟨rfl, rfl⟩
      go_wp2
      go_ret
      exact ⟨⟨_, rfl, _, _, rfl, unhide HWD⟩, unhide HBE⟩
end Go.Proofs.YtckkhpegimkefaaGreatDoor
namespace Go.Proofs.YtckkhpegimkefaaGreatDoor
open Go.RowKit
set_option linter.unusedVariables false

theorem or_sumK (c m s : Nat) (hc : c < 2 ^ s) : c ||| 2 ^ s * m = c + 2 ^ s * m := by
  have := Nat.two_pow_add_eq_or_of_lt (i := s) (b := c) hc m
  rw [Nat.or_comm, ← this, Nat.add_comm]
theorem left_stepK {P xs : List Nat} {c k x r c' E : Nat} (hv : natV P + c * B32 ^ k = natV (xs.take k) * E) (hl : P.length = k) (hx : xs[k]? = some x) (hs : r + c' * 4294967296 = c + x * E) :
    natV (P ++ [r]) + c' * B32 ^ (k + 1) = natV (xs.take (k + 1)) * E := by
  rw [natV_append, hl, natV_take_succ xs k x hx, Nat.pow_succ]
  simp only [natV, Nat.mul_zero, Nat.add_zero]
  have hs' : r + c' * B32 = c + x * E := hs
  have h1 : r * B32 ^ k + c' * B32 * B32 ^ k = c * B32 ^ k + x * E * B32 ^ k := by rw [← Nat.add_mul, ← Nat.add_mul, hs']
  grind
theorem two_dvd32 {s : Nat} (h : s < 32) : ∃ t, 4294967296 = 2 ^ s * t ∧ 0 < t := ⟨2 ^ (32 - s), by rw [← Nat.pow_add, show s + (32 - s) = 32 by omega], Nat.two_pow_pos _⟩
/-- the word that is shifted: its low part is a multiple of 2^s, its high part is below 2^s -/
theorem shl_parts {s x v lo hi c : Nat} (h : s < 32) (hx : x < 4294967296) (hv : v = x * 2 ^ s) (hlo : lo = v % 4294967296) (hhi : hi = v / 4294967296) (hc : c < 2 ^ s) : c ||| lo = c + lo ∧ c + lo < 4294967296 ∧ hi < 2 ^ s ∧ c + lo + hi * 4294967296 = c + x * 2 ^ s ∧ v < 18446744073709551616 ∧ hi < 4294967296 := by
  obtain ⟨t, ht, ht0⟩ := two_dvd32 h
  have hp : 2 ^ s < 4294967296 := by
    have := Nat.pow_lt_pow_right (a := 2) (by decide) h
    exact this
  have hp0 : 0 < 2 ^ s := Nat.two_pow_pos _
  have hor : ∀ m, c ||| 2 ^ s * m = c + 2 ^ s * m := fun m => or_sumK c m s hc
  generalize 2 ^ s = E at *
  have e1 : lo = E * (x % t) := by rw [hlo, hv, ht, Nat.mul_comm x E, Nat.mul_mod_mul_left]
  have e2 : hi = x / t := by rw [hhi, hv, ht, Nat.mul_comm x E, Nat.mul_div_mul_left _ _ hp0]
  have e3 : x % t < t := Nat.mod_lt _ ht0
  have hvb : v < 18446744073709551616 := by
    rw [hv]
    exact Nat.mul_lt_mul'' hx hp
  have e4 : E * (x % t) + E ≤ E * t := by rw [← Nat.mul_succ]; exact Nat.mul_le_mul_left _ e3
  have e5 : x / t < E := Nat.div_lt_of_lt_mul (by rw [Nat.mul_comm, ← ht]; exact hx)
  refine ⟨?_, by omega, by omega, by omega, hvb, by omega⟩
  rw [e1]; exact hor _
set_option maxHeartbeats 8000000 in
set_option maxRecDepth 100000 in
theorem leftK_rows (xs : List Nat) (s : Nat) (hs32 : s < 32) (ao : Option Addr) (ca : Nat) (w : World) (ha : WRow w ao xs) (oka : okV xs) (hla : (xs.length : Int) ≤ 10000) :
    Calls Tryz.prog 116 #[.slice ao xs.length ca, .int .u64 (s : Nat)] w fun e w' => (∃ v, e = .returned v ∧ BigV w' v (natV xs * 2 ^ s)) ∧ Below w.heap.size w w' := by
  have sq1 : (s : Int) / 32 = 0 := by omega
  have sq2 : (s : Int) % 32 = (s : Int) := by omega
  have HPART := hide (fun x v lo hi c hx hv hlo hhi hc => @shl_parts s x v lo hi c hs32 hx hv hlo hhi hc)
  have hE1 : 1 ≤ 2 ^ s := Nat.two_pow_pos _
  have hE2 : 2 ^ s ≤ 2147483648 := Nat.pow_le_pow_right (n := 2) (by decide) (show s ≤ 31 by omega)
  have hEi : ((2 : Int) ^ s) = ((2 ^ s : Nat) : Int) := by simp
  obtain ⟨E, hE⟩ : ∃ E, E = 2 ^ s := ⟨_, rfl⟩
  rw [← hE] at HPART hE1 hE2 hEi ⊢
  have HE := hide hE
  clear hE
  have HA := hide ha
  clear ha
  by_cases hx0 : xs = []
  · subst hx0
    clear HA oka hla
    go_enter Tryz.func116, Tryz.ntmps116
    go_wp2
    go_ret
    exact ⟨⟨_, rfl, none, 0, by simp [natV, dig_zero], .inl (by simp [natV, dig_zero])⟩, Below.refl _ _⟩
  have hx0' : ((xs.length : Int) == 0) = false := by simp; exact hx0
  obtain ⟨i0, hi, hz0, hz1, hz2⟩ := info_partsV infoU32
  go_enter Tryz.func116, Tryz.ntmps116
  go_wp2_with (at_make; refine wpList_make_full _ rfl _ _ 99 rfl w.heap.size 119 i0 (.int .u32 0) 1 Tryz.underlying99 hi hz0 hz1 .i64 .i64 _ _ (xs.length + 1) rfl rfl (by simp) (by simp) (by rw [hz2]; omega) (by unfold maxLen; omega) (Nat.le_refl _) ?_)
  intro w1 hown hgrow
  have hU := made_vrow hown
  have hb : Below w.heap.size w w1 := (Below.refl _ _).grown hgrow (Nat.le_refl _) (fun q hq => by cases hq)
  clear hown hgrow hi hz0 hz1 hz2
  go_wp2
  go_loopw [8] (fun i wr => ∃ (k c : Nat) (P : List Nat), k ≤ xs.length ∧ i = .int .i64 k ∧ c < E ∧ VRow wr w.heap.size (P ++ c :: List.replicate (xs.length - k) 0) ∧ P.length = k ∧ okV P ∧ natV P + c * B32 ^ k = natV (xs.take k) * E ∧ Below w.heap.size w wr) (fun i _ => xs.length - (intOf i).toNat)
  case atStart => exact ⟨0, 0, [], Nat.zero_le _, rfl, hE1, hU, rfl, okV_nil, by simp [natV], hb⟩
  case round =>
    clear hU hb
    obtain ⟨k, c, P, hk, rfl, hc, hU, hPl, hPok, hPv, hbel⟩ := hrel
    by_cases hlt : k < xs.length
    · obtain ⟨x, hx⟩ : ∃ x, xs[k]? = some x := ⟨_, List.getElem?_eq_getElem hlt⟩
      have hxb : x < 4294967296 := okV_get oka hx
      rcases (unhide HA) with hnil | ⟨ga, oa, rfl, hga, hca⟩
      · rw [hnil] at hlt; simp at hlt
      have d0 : wr.cell? ⟨ga, oa + k, none⟩ = some (.int .u32 (x : Nat)) := (hbel.cell (p := ⟨ga, oa + k, none⟩) hga).trans (hca k x hx)
      have hrep : List.replicate (xs.length - k) 0 = 0 :: List.replicate (xs.length - (k + 1)) 0 := by
        rw [show xs.length - k = (xs.length - (k + 1)) + 1 by omega]; rfl
      rw [hrep] at hU
      have q0 := hU.cell k c (by rw [List.getElem?_append_right (by omega)]; simp [hPl])
      have f0 := hU.frozen k
      obtain ⟨v, hv⟩ : ∃ v, v = x * E := ⟨_, rfl⟩
      obtain ⟨lo, hlo⟩ : ∃ v', v' = v % 4294967296 := ⟨_, rfl⟩
      obtain ⟨hi, hhi⟩ : ∃ v', v' = v / 4294967296 := ⟨_, rfl⟩
      obtain ⟨hor', hrb', hhb, hsm, hvb, hhb4⟩ := unhide HPART x v lo hi c hxb hv hlo hhi hc
      obtain ⟨r, hr⟩ : ∃ r, r = c + lo := ⟨_, rfl⟩
      rw [← hr] at hor' hrb' hsm
      have hor : c ||| lo = r := hor'
      have hvi : (x : Int) * (E : Int) = (v : Int) := by rw [hv]; simp
      have w1' : IntKind.u64.wrap (x : Int) = (x : Int) := wraps_u64 _ (by omega) (by omega)
      have w2' : IntKind.u64.wrap ((x : Int) * (E : Int)) = (v : Int) := by rw [hvi, wraps_u64 _ (by omega) (by omega)]
      have w2'' : IntKind.u64.wrap ((x : Int) * 2 ^ s) = (v : Int) := by rw [hEi]; exact w2'
      have w3' : (v : Int) % 4294967296 = (lo : Int) := by omega
      have w4' : bits .or .u32 (c : Int) (lo : Int) = (r : Int) := by
        rw [or_nat .u32 32 (by decide) (fun n h0 h1 => by simp [IntKind.wrap, IntKind.bits, IntKind.signed]; omega) c lo (by omega) (by omega), hor]
      have w5' : (v : Int) / 4294967296 = (hi : Int) := by omega
      have w6' : (hi : Int) % 4294967296 = (hi : Int) := by omega
      have w7' : bits .or .u32 0 (hi : Int) = (hi : Int) := by
        have := or_nat .u32 32 (by decide) (fun n h0 h1 => by simp [IntKind.wrap, IntKind.bits, IntKind.signed]; omega) 0 hi (by omega) (by omega)
        simpa using this
      have w8' : IntKind.i64.wrap ((k : Int) + 1) = ((k + 1 : Nat) : Int) := by rw [IntKind.wrap_i64]; omega
      have hU1 := hU.set k r
      have hset1 : (P ++ c :: 0 :: List.replicate (xs.length - (k + 1)) 0).set k r = P ++ r :: 0 :: List.replicate (xs.length - (k + 1)) 0 := by
        rw [List.set_append_right _ _ (by omega)]
        simp [hPl]
      rw [hset1] at hU1
      have q1 := hU1.cell (k + 1) 0 (by rw [List.getElem?_append_right (by omega)]; simp [hPl])
      have f1 := hU1.frozen (k + 1)
      have hU2 := hU1.set (k + 1) hi
      have hset2 : (P ++ r :: 0 :: List.replicate (xs.length - (k + 1)) 0).set (k + 1) hi = (P ++ [r]) ++ hi :: List.replicate (xs.length - (k + 1)) 0 := by
        rw [List.set_append_right _ _ (by omega)]
        simp [hPl]
      rw [hset2] at hU2
      have hsum := left_stepK hPv hPl hx hsm
      have hrb : r < B32 := by show r < 4294967296; omega
      have HU2 := hide hU2; have HBE := hide ((hbel.setCell (p := ⟨w.heap.size, k, none⟩) (Nat.le_refl _) (.int .u32 (r : Nat))).setCell (p := ⟨w.heap.size, k + 1, none⟩) (Nat.le_refl _) (.int .u32 (hi : Nat)))
      have HSUM := hide hsum; have HOK := hide (okV_snoc hPok hrb)
      have hkA : (k : Int) < (xs.length : Int) := by omega
      clear hca hx hrep hU hU1 hU2 hset1 hset2 hsum hrb hbel hPv hPok hv hlo hhi hr hor hxb hor' hsm hvi hvb hrb' hEi
      go_wp2
      go_roundw
      case rel => exact ⟨k + 1, hi, P ++ [r], by omega, by go_num, hhb, unhide HU2, by simp [hPl], unhide HOK, unhide HSUM, unhide HBE⟩
      case measure => simp [intOf]; omega
    · have hkx : k = xs.length := by omega
      rw [hkx, List.take_length] at hPv
      rw [hkx, Nat.sub_self, List.replicate_zero] at hU
      have hok2 := okV_snoc hPok (show c < B32 by show c < 4294967296; omega)
      have hnv : natV (P ++ [c]) = natV xs * E := by
        rw [natV_append, hPl, hkx]
        simp only [natV, Nat.mul_zero, Nat.add_zero]
        rw [Nat.mul_comm]
        exact hPv
      have hll : (P ++ [c]).length = xs.length + 1 := by simp [hPl, hkx]
      have n1 := trim_any (P ++ [c]) w.heap.size 0 (xs.length + 1) _ hU.wrow hok2 (by rw [hll]; omega) (by rw [hll]; omega) (by omega)
      have hwd := wrow_dig hU.wrow hok2
      rw [hnv, hll] at n1
      rw [hnv] at hwd
      have hkd : ¬ (k : Int) < (xs.length : Int) := by omega
      have N1 := hide n1; have HWD := hide hwd; have HBE := hide hbel
      clear n1 hwd hU hnv hPv hbel hkx hok2 hll
      go_wp2_with fail
      refine (unhide N1).mono ?_
      rintro e w2 ⟨rfl, rfl⟩
      go_wp2
      go_ret
      exact ⟨⟨_, rfl, _, _, rfl, unhide HWD⟩, unhide HBE⟩
end Go.Proofs.YtckkhpegimkefaaGreatDoor
