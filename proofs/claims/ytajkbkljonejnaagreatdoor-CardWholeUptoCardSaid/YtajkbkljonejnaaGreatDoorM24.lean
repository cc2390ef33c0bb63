/- cmp of the big numbers. -/
import Derived.Test.YtajkbkljonejnaaGreatDoorM23
import Derived.Test.YtajkbkljonejnaaGreatDoorM07
import Derived.Test.YtajkbkljonejnaaGreatDoorM00
import Derived.Deep.RegionHeld3
import Derived.Lib.ConvBytes
namespace Go.Proofs.YtajkbkljonejnaaGreatDoor
open Go.RowKit
set_option linter.unusedVariables false
def ordI (a b : Nat) : Int := if a < b then -1 else if b < a then 1 else 0
theorem natV_at (l : List Nat) (j x : Nat) (h : l[j]? = some x) : natV l = natV (l.take j) + x * B32 ^ j + B32 ^ (j + 1) * natV (l.drop (j + 1)) := by
  have hj : j < l.length := (List.getElem?_eq_some_iff.1 h).1
  have e := natV_take_succ l j x h
  conv => lhs; rw [← List.take_append_drop (j + 1) l]
  rw [natV_append, e, List.length_take, Nat.min_eq_left (by omega)]
theorem lt_top {xs ys : List Nat} {j x y : Nat} (ha : okV xs) (hx : xs[j]? = some x) (hy : ys[j]? = some y) (hd : xs.drop (j + 1) = ys.drop (j + 1)) (hlt : x < y) : natV xs < natV ys := by
  have hj : j < xs.length := (List.getElem?_eq_some_iff.1 hx).1
  have h1 := natV_lt (okV_take ha j)
  rw [List.length_take, Nat.min_eq_left (by omega)] at h1
  rw [natV_at xs j x hx, natV_at ys j y hy, hd]
  have h2 : (x + 1) * B32 ^ j ≤ y * B32 ^ j := Nat.mul_le_mul_right _ hlt
  rw [Nat.add_mul, Nat.one_mul] at h2
  omega
theorem dig_ge {n : Nat} (h : n ≠ 0) : B32 ^ ((dig n).length - 1) ≤ n := by
  obtain ⟨x, hx, hx0⟩ := dig_last h
  rw [List.getLast?_eq_getElem?] at hx
  have e := natV_at (dig n) _ x hx
  rw [natV_dig] at e
  have h1 : B32 ^ ((dig n).length - 1) ≤ x * B32 ^ ((dig n).length - 1) := Nat.le_mul_of_pos_left _ (by omega)
  omega
theorem len_lt {a b : Nat} (h : (dig a).length < (dig b).length) : a < b := by
  have hb : b ≠ 0 := fun e => by subst e; rw [dig_zero] at h; simp at h
  have h1 := dig_ge hb
  have h2 := lt_dig a
  have h3 : B32 ^ (dig a).length ≤ B32 ^ ((dig b).length - 1) := Nat.pow_le_pow_right B32_pos (by omega)
  omega
theorem len_le {a b : Nat} (h : a ≤ b) : (dig a).length ≤ (dig b).length := by
  rcases Nat.lt_or_ge (dig b).length (dig a).length with h1 | h1
  · have := len_lt h1; omega
  · exact h1
set_option maxHeartbeats 4000000 in
set_option maxRecDepth 100000 in
theorem cmp_rows (xs ys : List Nat) (ao bo : Option Addr) (ca cb : Nat) (w : World) (ha : WRow w ao xs) (hb : WRow w bo ys) (oka : okV xs) (okb : okV ys) (hla : (xs.length : Int) ≤ 10000) (hlb : (ys.length : Int) ≤ 10000) (hlt0 : xs.length < ys.length → natV xs < natV ys) (hgt0 : ys.length < xs.length → natV ys < natV xs) :
    Calls Tryz.prog 104 #[.slice ao xs.length ca, .slice bo ys.length cb] w fun e w' => e = .returned (.int .i64 (ordI (natV xs) (natV ys))) ∧ Below w.heap.size w w' := by
  have HA := hide ha; have HB := hide hb
  clear ha hb
  by_cases hlen : xs.length = ys.length
  case neg =>
    have hne : ((xs.length : Int) != (ys.length : Int)) = true := by simp; omega
    by_cases hl : xs.length < ys.length
    · have HE : Hid (ordI (natV xs) (natV ys) = -1) := hide (by rw [ordI, if_pos (hlt0 hl)])
      have hlI : (xs.length : Int) < (ys.length : Int) := by omega
      clear hlt0 hgt0 hlen hl
      go_enter Tryz.func104, Tryz.ntmps104
      go_wp2
      go_ret
      exact ⟨ret_int (unhide HE).symm, Below.refl _ _⟩
    · have hg := hgt0 (by omega)
      have HE : Hid (ordI (natV xs) (natV ys) = 1) := hide (by rw [ordI, if_neg (by omega), if_pos hg])
      have hlI : ¬ (xs.length : Int) < (ys.length : Int) := by omega
      clear hlt0 hgt0 hlen hl hg
      go_enter Tryz.func104, Tryz.ntmps104
      go_wp2
      go_ret
      exact ⟨ret_int (unhide HE).symm, Below.refl _ _⟩
  have hne : ((xs.length : Int) != (ys.length : Int)) = false := by simp; omega
  have hw1 : IntKind.i64.wrap ((xs.length : Int) - 1) = (xs.length : Int) - 1 := by rw [IntKind.wrap_i64]; omega
  have hle : ys.length ≤ xs.length := by omega
  have hle2 : xs.length ≤ ys.length := by omega
  clear hlt0 hgt0 hlen
  go_enter Tryz.func104, Tryz.ntmps104
  go_wp2
  go_loopw [5] (fun r wr => ∃ i : Nat, i ≤ xs.length ∧ r = .int .i64 ((i : Int) - 1) ∧ Hid (xs.drop i = ys.drop i) ∧ ∃ q, wr = w.drewN q) (fun r _ => (intOf r + 1).toNat)
  case atStart => exact ⟨xs.length, Nat.le_refl _, by first | rfl | go_num, hide (by rw [List.drop_of_length_le (Nat.le_refl _), List.drop_of_length_le hle]), 0, rfl⟩
  case round =>
    obtain ⟨i, hi, rfl, HD, q, rfl⟩ := hrel
    by_cases h0 : i = 0
    · subst h0
      have HE : Hid (ordI (natV xs) (natV ys) = 0) := hide (by
        have := unhide HD
        simp only [List.drop_zero] at this
        rw [this, ordI, if_neg (Nat.lt_irrefl _), if_neg (Nat.lt_irrefl _)])
      go_wp2
      go_ret
      exact ⟨ret_int (unhide HE).symm, below_drewN (Below.refl _ _) _⟩
    · obtain ⟨j, rfl⟩ : ∃ j, i = j + 1 := ⟨i - 1, by omega⟩
      have ej : ((j + 1 : Nat) : Int) - 1 = (j : Int) := by omega
      rw [ej]
      obtain ⟨x, hx⟩ : ∃ x, xs[j]? = some x := ⟨_, List.getElem?_eq_getElem (by omega)⟩
      obtain ⟨y, hy⟩ : ∃ x, ys[j]? = some x := ⟨_, List.getElem?_eq_getElem (by omega)⟩
      rcases (unhide HA) with hnil | ⟨ga, oa, rfl, hga, hca⟩
      · rw [hnil] at hx; simp at hx
      rcases (unhide HB) with hnil | ⟨gb, ob, rfl, hgb, hcb⟩
      · rw [hnil] at hy; simp at hy
      have c0 := hca j x hx
      have c1 := hcb j y hy
      have hji : (j : Int) < (xs.length : Int) := by omega
      have hji2 : (j : Int) < (ys.length : Int) := by omega
      have hnx : IntKind.i64.wrap ((j : Int) - 1) = (j : Int) - 1 := by rw [IntKind.wrap_i64]; omega
      have hj0 : (0 : Int) ≤ (j : Int) := by omega
      by_cases hxy : x = y
      · subst hxy
        have HD2 : Hid (xs.drop j = ys.drop j) := hide (by
          obtain ⟨h1, e1⟩ := List.getElem?_eq_some_iff.1 hx
          obtain ⟨h2, e2⟩ := List.getElem?_eq_some_iff.1 hy
          rw [List.drop_eq_getElem_cons h1, List.drop_eq_getElem_cons h2, e1, e2, unhide HD])
        have hbn : ((x : Int) != (x : Int)) = false := by simp
        clear hca hcb hx hy ej h0
        go_wp2_with fail
        go_quiet (fail)
        go_wp2
        go_roundw
        case rel => exact ⟨j, by omega, by go_num, HD2, _, rfl⟩
        case measure => simp [intOf] <;> omega
      · have hbn : ((x : Int) != (y : Int)) = true := by simp; omega
        by_cases hl : x < y
        · have HE : Hid (ordI (natV xs) (natV ys) = -1) := hide (by rw [ordI, if_pos (lt_top oka hx hy (unhide HD) hl)])
          have hlI : (x : Int) < (y : Int) := by omega
          clear hca hcb hx hy ej h0 hxy
          go_wp2_with fail
          go_quiet (fail)
          go_wp2_with fail
          go_quiet (fail)
          go_wp2
          go_ret
          exact ⟨ret_int (unhide HE).symm, below_drewN (below_drewN (below_drewN (Below.refl _ _) _) _) _⟩
        · have hg := lt_top okb hy hx (unhide HD).symm (show y < x by omega)
          have HE : Hid (ordI (natV xs) (natV ys) = 1) := hide (by rw [ordI, if_neg (by omega), if_pos hg])
          have hlI : ¬ (x : Int) < (y : Int) := by omega
          clear hca hcb hx hy ej h0 hxy hg
          go_wp2_with fail
          go_quiet (fail)
          go_wp2_with fail
          go_quiet (fail)
          go_wp2
          go_ret
          exact ⟨ret_int (unhide HE).symm, below_drewN (below_drewN (below_drewN (Below.refl _ _) _) _) _⟩
end Go.Proofs.YtajkbkljonejnaaGreatDoor
namespace Go.Proofs.YtajkbkljonejnaaGreatDoor
open Go.RowKit
set_option linter.unusedVariables false
theorem or_sum (c m : Nat) (hc : c < 256) (hm : m < 16777216) : c ||| 256 * m = c + 256 * m := by
  have := Nat.two_pow_add_eq_or_of_lt (i := 8) (b := c) hc m
  rw [show (2 : Nat) ^ 8 = 256 from rfl] at this
  rw [Nat.or_comm, ← this, Nat.add_comm]
theorem left_step {P xs : List Nat} {c k x r c' : Nat} (hv : natV P + c * B32 ^ k = natV (xs.take k) * 256) (hl : P.length = k) (hx : xs[k]? = some x) (hs : r + c' * 4294967296 = c + x * 256) :
    natV (P ++ [r]) + c' * B32 ^ (k + 1) = natV (xs.take (k + 1)) * 256 := by
  rw [natV_append, hl, natV_take_succ xs k x hx, Nat.pow_succ]
  simp only [natV, Nat.mul_zero, Nat.add_zero]
  have hs' : r + c' * B32 = c + x * 256 := hs
  have h1 : r * B32 ^ k + c' * B32 * B32 ^ k = c * B32 ^ k + x * 256 * B32 ^ k := by rw [← Nat.add_mul, ← Nat.add_mul, hs']
  grind
set_option maxHeartbeats 8000000 in
set_option maxRecDepth 100000 in
theorem left8_rows (xs : List Nat) (ao : Option Addr) (ca : Nat) (w : World) (ha : WRow w ao xs) (oka : okV xs) (hla : (xs.length : Int) ≤ 10000) :
    Calls Tryz.prog 135 #[.slice ao xs.length ca, .int .u64 8] w fun e w' => (∃ v, e = .returned v ∧ BigV w' v (natV xs * 256)) ∧ Below w.heap.size w w' := by
  have HA := hide ha
  clear ha
  by_cases hx0 : xs = []
  · subst hx0
    clear HA oka hla
    go_enter Tryz.func135, Tryz.ntmps135
    go_wp2
    go_ret
    exact ⟨⟨_, rfl, none, 0, by simp [natV, dig_zero], .inl (by simp [natV, dig_zero])⟩, Below.refl _ _⟩
  have hx0' : ((xs.length : Int) == 0) = false := by simp; exact hx0
  obtain ⟨i0, hi, hz0, hz1, hz2⟩ := info_partsV infoU32
  go_enter Tryz.func135, Tryz.ntmps135
  go_wp2_with (at_make; refine wpList_make_full _ rfl _ _ 107 rfl w.heap.size 129 i0 (.int .u32 0) 1 Tryz.underlying107 hi hz0 hz1 .i64 .i64 _ _ (xs.length + 1) rfl rfl (by simp) (by simp) (by rw [hz2]; omega) (by unfold maxLen; omega) (Nat.le_refl _) ?_)
  intro w1 hown hgrow
  have hU := made_vrow hown
  have hb : Below w.heap.size w w1 := (Below.refl _ _).grown hgrow (Nat.le_refl _) (fun q hq => by cases hq)
  clear hown hgrow hi hz0 hz1 hz2
  go_wp2
  go_loopw [8] (fun i wr => ∃ (k c : Nat) (P : List Nat), k ≤ xs.length ∧ i = .int .i64 k ∧ c < 256 ∧ VRow wr w.heap.size (P ++ c :: List.replicate (xs.length - k) 0) ∧ P.length = k ∧ okV P ∧ natV P + c * B32 ^ k = natV (xs.take k) * 256 ∧ Below w.heap.size w wr) (fun i _ => xs.length - (intOf i).toNat)
  case atStart => exact ⟨0, 0, [], Nat.zero_le _, rfl, by decide, hU, rfl, okV_nil, by simp [natV], hb⟩
  case round =>
    clear hU hb
    obtain ⟨k, c, P, hk, rfl, hc, hU, hPl, hPok, hPv, hbel⟩ := hrel
    by_cases hlt : k < xs.length
    · obtain ⟨x, hx⟩ : ∃ x, xs[k]? = some x := ⟨_, List.getElem?_eq_getElem hlt⟩
      have hxb : x < 4294967296 := okV_get oka hx
      rcases (unhide HA) with hnil | ⟨ga, oa, rfl, hga, hca⟩
      · rw [hnil] at hlt; simp at hlt
      have d0 : wr.cell? ⟨ga, oa + k, none⟩ = some (.int .u32 (x : Nat)) := (hbel.cell (p := ⟨ga, oa + k, none⟩) hga).trans (hca k x hx)
      have hrep : List.replicate (xs.length - k) 0 = 0 :: List.replicate (xs.length - (k + 1)) 0 := by
        rw [show xs.length - k = (xs.length - (k + 1)) + 1 by omega]; rfl
      rw [hrep] at hU
      have q0 := hU.cell k c (by rw [List.getElem?_append_right (by omega)]; simp [hPl])
      have f0 := hU.frozen k
      obtain ⟨v, hv⟩ : ∃ v, v = x * 256 := ⟨_, rfl⟩
      obtain ⟨lo, hlo⟩ : ∃ v', v' = v % 4294967296 := ⟨_, rfl⟩
      obtain ⟨hi, hhi⟩ : ∃ v', v' = v / 4294967296 := ⟨_, rfl⟩
      obtain ⟨r, hr⟩ : ∃ r, r = c + lo := ⟨_, rfl⟩
      have hlo256 : lo = 256 * (lo / 256) := by omega
      have hor : c ||| lo = r := by
        rw [hlo256, or_sum c (lo / 256) hc (by omega)]
        omega
      have w1' : IntKind.u64.wrap (x : Int) = (x : Int) := wraps_u64 _ (by omega) (by omega)
      have w2' : IntKind.u64.wrap ((x : Int) * 256) = (v : Int) := by rw [wraps_u64 _ (by omega) (by omega)]; omega
      have w3' : (v : Int) % 4294967296 = (lo : Int) := by omega
      have w4' : bits .or .u32 (c : Int) (lo : Int) = (r : Int) := by
        rw [or_nat .u32 32 (by decide) (fun n h0 h1 => by simp [IntKind.wrap, IntKind.bits, IntKind.signed]; omega) c lo (by omega) (by omega), hor]
      have w5' : (v : Int) / 4294967296 = (hi : Int) := by omega
      have w6' : (hi : Int) % 4294967296 = (hi : Int) := by omega
      have w7' : bits .or .u32 0 (hi : Int) = (hi : Int) := by
        have := or_nat .u32 32 (by decide) (fun n h0 h1 => by simp [IntKind.wrap, IntKind.bits, IntKind.signed]; omega) 0 hi (by omega) (by omega)
        simpa using this
      have w8' : IntKind.i64.wrap ((k : Int) + 1) = ((k + 1 : Nat) : Int) := by rw [IntKind.wrap_i64]; omega
      have hU1 := hU.set k r
      have hset1 : (P ++ c :: 0 :: List.replicate (xs.length - (k + 1)) 0).set k r = P ++ r :: 0 :: List.replicate (xs.length - (k + 1)) 0 := by
        rw [List.set_append_right _ _ (by omega)]
        simp [hPl]
      rw [hset1] at hU1
      have q1 := hU1.cell (k + 1) 0 (by rw [List.getElem?_append_right (by omega)]; simp [hPl])
      have f1 := hU1.frozen (k + 1)
      have hU2 := hU1.set (k + 1) hi
      have hset2 : (P ++ r :: 0 :: List.replicate (xs.length - (k + 1)) 0).set (k + 1) hi = (P ++ [r]) ++ hi :: List.replicate (xs.length - (k + 1)) 0 := by
        rw [List.set_append_right _ _ (by omega)]
        simp [hPl]
      rw [hset2] at hU2
      have hsum := left_step hPv hPl hx (show r + hi * 4294967296 = c + x * 256 by omega)
      have hrb : r < B32 := by show r < 4294967296; omega
      have hhb : hi < 256 := by omega
      have HU2 := hide hU2; have HBE := hide ((hbel.setCell (p := ⟨w.heap.size, k, none⟩) (Nat.le_refl _) (.int .u32 (r : Nat))).setCell (p := ⟨w.heap.size, k + 1, none⟩) (Nat.le_refl _) (.int .u32 (hi : Nat)))
      have HSUM := hide hsum; have HOK := hide (okV_snoc hPok hrb)
      have hkA : (k : Int) < (xs.length : Int) := by omega
      clear hca hx hrep hU hU1 hU2 hset1 hset2 hsum hrb hbel hPv hPok hv hlo hhi hr hlo256 hor hxb
      go_wp2
      go_roundw
      case rel => exact ⟨k + 1, hi, P ++ [r], by omega, by go_num, hhb, unhide HU2, by simp [hPl], unhide HOK, unhide HSUM, unhide HBE⟩
      case measure => simp [intOf]; omega
    · have hkx : k = xs.length := by omega
      rw [hkx, List.take_length] at hPv
      rw [hkx, Nat.sub_self, List.replicate_zero] at hU
      have hok2 := okV_snoc hPok (show c < B32 by show c < 4294967296; omega)
      have hnv : natV (P ++ [c]) = natV xs * 256 := by
        rw [natV_append, hPl, hkx]
        simp only [natV, Nat.mul_zero, Nat.add_zero]
        rw [Nat.mul_comm]
        exact hPv
      have hll : (P ++ [c]).length = xs.length + 1 := by simp [hPl, hkx]
      have n1 := trim_any (P ++ [c]) w.heap.size 0 (xs.length + 1) _ hU.wrow hok2 (by rw [hll]; omega) (by rw [hll]; omega) (by omega)
      have hwd := wrow_dig hU.wrow hok2
      rw [hnv, hll] at n1
      rw [hnv] at hwd
      have hkd : ¬ (k : Int) < (xs.length : Int) := by omega
      have N1 := hide n1; have HWD := hide hwd; have HBE := hide hbel
      clear n1 hwd hU hnv hPv hbel hkx hok2 hll
      go_wp2_with fail
      refine (unhide N1).mono ?_
      rintro e w2 ⟨rfl, rfl⟩
      go_wp2
      go_ret
      exact ⟨⟨_, rfl, _, _, rfl, unhide HWD⟩, unhide HBE⟩
end Go.Proofs.YtajkbkljonejnaaGreatDoor
namespace Go.Proofs.YtajkbkljonejnaaGreatDoor
open Go.RowKit
set_option linter.unusedVariables false
def IsLen (n L : Nat) : Prop := n < 2 ^ L ∧ (n = 0 → L = 0) ∧ (n ≠ 0 → 1 ≤ L ∧ 2 ^ (L - 1) ≤ n)
theorem B32_twoP (k : Nat) : B32 ^ k = 2 ^ (32 * k) := by rw [Nat.pow_mul]; rfl
theorem isLen_top {l : List Nat} {x j : Nat} (hok : okV l) (h0 : 1 ≤ l.length) (hx : l[l.length - 1]? = some x) (hx0 : x ≠ 0) (h1 : x < 2 ^ j) (h2 : 2 ^ (j - 1) ≤ x) (hj : 1 ≤ j) : IsLen (natV l) (32 * (l.length - 1) + j) := by
  have e := natV_at l (l.length - 1) x hx
  rw [show l.length - 1 + 1 = l.length by omega, List.drop_of_length_le (Nat.le_refl _)] at e
  simp only [natV, Nat.mul_zero, Nat.add_zero] at e
  have hlow := natV_lt (okV_take hok (l.length - 1))
  rw [List.length_take, Nat.min_eq_left (by omega)] at hlow
  have hB := B32_twoP (l.length - 1)
  generalize B32 ^ (l.length - 1) = Q at *
  have hQ : 0 < Q := by rw [hB]; exact Nat.pow_pos (by decide)
  have hup : (x + 1) * Q ≤ 2 ^ j * Q := Nat.mul_le_mul_right _ h1
  have hdn : 2 ^ (j - 1) * Q ≤ x * Q := Nat.mul_le_mul_right _ h2
  rw [Nat.add_mul, Nat.one_mul] at hup
  have p1 : 2 ^ (32 * (l.length - 1) + j) = 2 ^ j * Q := by rw [Nat.pow_add, ← hB, Nat.mul_comm]
  have p2 : 2 ^ (32 * (l.length - 1) + j - 1) = 2 ^ (j - 1) * Q := by
    rw [show 32 * (l.length - 1) + j - 1 = 32 * (l.length - 1) + (j - 1) by omega, Nat.pow_add, ← hB, Nat.mul_comm]
  have hxQ : 0 < x * Q := Nat.mul_pos (by omega) hQ
  refine ⟨by rw [p1]; omega, fun h => by omega, fun _ => ⟨by omega, by rw [p2]; omega⟩⟩
theorem half_pos {x j : Nat} (h : x / 2 ^ j ≠ 0) : 2 ^ j ≤ x := by
  rcases Nat.lt_or_ge x (2 ^ j) with h' | h'
  · exact absurd (Nat.div_eq_of_lt h') h
  · exact h'
theorem half_zero {x j : Nat} (h : x / 2 ^ j = 0) : x < 2 ^ j := by
  rcases Nat.lt_or_ge x (2 ^ j) with h' | h'
  · exact h'
  · have := Nat.div_pos h' (Nat.pow_pos (by decide)); omega
set_option maxHeartbeats 4000000 in
set_option maxRecDepth 100000 in
theorem blength_any (n : Nat) (v : Value) (w : World) (hv : BigV w v n) (hn : n < B32 ^ 10000) :
    Calls Tryz.prog 101 #[v] w fun e w' => (∃ L : Nat, e = .returned (.int .i64 L) ∧ IsLen n L) ∧ w' = w := by
  obtain ⟨ao, cap, rfl, hr⟩ := hv
  have hl := dig_len 10000 n hn
  by_cases h0 : n = 0
  · subst h0
    rw [dig_zero]
    clear hr hl hn
    go_enter Tryz.func101, Tryz.ntmps101
    go_wp2
    go_ret
    exact ⟨⟨0, rfl, by simp, fun _ => rfl, fun h => absurd rfl h⟩, rfl⟩
  obtain ⟨x, hx, hx0⟩ := dig_last h0
  rw [List.getLast?_eq_getElem?] at hx
  have hok := okV_dig n
  have hxb : x < 4294967296 := okV_get hok hx
  have hnv := natV_dig n
  have hd0 : dig n ≠ [] := fun e => by rw [e] at hx; simp at hx
  generalize dig n = l at *
  have hlp : 1 ≤ l.length := List.length_pos_iff.2 hd0
  have hlI : (l.length : Int) ≤ 10000 := by omega
  have hne : ((l.length : Int) == 0) = false := by simp; exact hd0
  rcases hr with hnil | ⟨g, off, rfl, hg, hc⟩
  · exact absurd hnil hd0
  have c0 := hc _ x hx
  obtain ⟨m, hm⟩ : ∃ m, m = l.length - 1 := ⟨_, rfl⟩
  have hml : (m : Int) < (l.length : Int) := by omega
  have w1 : IntKind.i64.wrap ((l.length : Int) - 1) = (m : Int) := by rw [IntKind.wrap_i64]; omega
  have w2 : IntKind.i64.wrap ((m : Int) * 32) = ((32 * m : Nat) : Int) := by rw [IntKind.wrap_i64]; omega
  have HFIN : Hid (∀ j, x < 2 ^ j → 2 ^ (j - 1) ≤ x → 1 ≤ j → IsLen n (32 * m + j)) := hide (fun j h1 h2 h3 => by
    have := isLen_top hok hlp hx hx0 h1 h2 h3
    rw [hnv, ← hm] at this
    exact this)
  rw [← hm] at c0
  have hd0' : ¬ l = [] := hd0
  have HX0 := hide hx0
  have HXB := hide hxb
  clear hm hok hx hnv hc hn hl hxb hx0 hd0
  go_enter Tryz.func101, Tryz.ntmps101
  go_wp2
  go_loopw [3, 4] (fun c t wr => ∃ j : Nat, j ≤ 32 ∧ c = .int .i64 j ∧ t = .int .u32 ((x / 2 ^ j : Nat) : Int) ∧ Hid (j = 0 ∨ x / 2 ^ (j - 1) ≠ 0) ∧ wr = w) (fun c t _ => 33 - (intOf c).toNat)
  case atStart => exact ⟨0, by omega, rfl, by simp, hide (.inl rfl), rfl⟩
  case round =>
    obtain ⟨j, hj, rfl, rfl, HJ, rfl⟩ := hrel
    by_cases hz : x / 2 ^ j = 0
    · rw [hz]
      have hj0 : j ≠ 0 := fun e => by
        subst e
        exact unhide HX0 (by simpa using hz)
      have HL := hide (unhide HFIN j (half_zero hz) (half_pos ((unhide HJ).resolve_left hj0)) (by omega))
      have w3 : IntKind.i64.wrap (((32 * m : Nat) : Int) + (j : Int)) = ((32 * m + j : Nat) : Int) := by rw [IntKind.wrap_i64]; omega
      clear hz HJ hj0 HFIN
      go_wp2
      go_ret
      exact ⟨⟨32 * m + j, by first | rfl | (congr 2; omega), unhide HL⟩, rfl⟩
    · have hj31 : j ≤ 31 := by
        rcases Nat.lt_or_ge j 32 with h | h
        · omega
        · exfalso
          apply hz
          obtain rfl : j = 32 := by omega
          exact Nat.div_eq_of_lt (unhide HXB)
      obtain ⟨t, ht⟩ : ∃ t, t = x / 2 ^ j := ⟨_, rfl⟩
      have ht2 : x / 2 ^ (j + 1) = t / 2 := by rw [ht, Nat.pow_succ, Nat.div_div_eq_div_mul]
      have HJ2 : Hid (j + 1 = 0 ∨ x / 2 ^ (j + 1 - 1) ≠ 0) := hide (.inr (by simpa using hz))
      rw [← ht] at hz ⊢
      have hbn : ((t : Int) != 0) = true := by simp; omega
      obtain ⟨t2, ht3⟩ : ∃ t2, t2 = t / 2 := ⟨_, rfl⟩
      rw [← ht3] at ht2
      have w3 : (t : Int).fdiv (2 ^ min (Int.toNat 1) IntKind.u32.bits) = (t2 : Int) := by
        rw [show (2 : Int) ^ min (Int.toNat 1) IntKind.u32.bits = 2 by decide, Int.fdiv_eq_ediv_of_nonneg _ (by decide)]
        omega
      have HT := hide ht2
      have HT3 := hide ht3
      clear ht ht2 hz HJ ht3
      go_wp2
      go_roundw
      case rel => exact ⟨j + 1, by omega, by go_num, by rw [unhide HT]; congr 1; have := unhide HT3; omega, HJ2, by first | rfl | trivial⟩
      case measure => simp [intOf]; omega
end Go.Proofs.YtajkbkljonejnaaGreatDoor
namespace Go.Proofs.YtajkbkljonejnaaGreatDoor
open Go.RowKit
set_option linter.unusedVariables false
theorem mul_any (a b : Nat) (va vb : Value) (w : World) (ha : BigV w va a) (hb : BigV w vb b) (hla : a < B32 ^ 5000) (hlb : b < B32 ^ 5000) :
    Calls Tryz.prog 100 #[va, vb] w fun e w' => (∃ v, e = .returned v ∧ BigV w' v (a * b)) ∧ Below w.heap.size w w' := by
  obtain ⟨ao, ca, rfl, hra⟩ := ha
  obtain ⟨bo, cb, rfl, hrb⟩ := hb
  have h1 := dig_len 5000 a hla
  have h2 := dig_len 5000 b hlb
  by_cases h0 : dig a = []
  · have ha0 : a = 0 := by have := natV_dig a; rw [h0] at this; exact this.symm
    subst ha0
    rw [dig_zero, Nat.zero_mul]
    clear hra hrb h1 h2 hla hlb h0
    go_enter Tryz.func100, Tryz.ntmps100
    go_wp2
    go_ret
    exact ⟨⟨_, rfl, none, 0, by rw [dig_zero]; rfl, .inl dig_zero⟩, Below.refl _ _⟩
  by_cases h0' : dig b = []
  · have hb0 : b = 0 := by have := natV_dig b; rw [h0'] at this; exact this.symm
    subst hb0
    rw [dig_zero, Nat.mul_zero]
    have hne : ¬ dig a = [] := h0
    have hneI : (((dig a).length : Int) == 0) = false := by simp; exact h0
    clear hra hrb h1 h2 hla hlb h0 h0'
    generalize dig a = l at *
    go_enter Tryz.func100, Tryz.ntmps100
    go_wp2
    go_ret
    exact ⟨⟨_, rfl, none, 0, by rw [dig_zero]; rfl, .inl dig_zero⟩, Below.refl _ _⟩
  have := mul_rows (dig a) (dig b) ao bo ca cb w hra hrb (okV_dig a) (okV_dig b) (by omega) (by omega) h0 h0'
  rw [natV_dig, natV_dig] at this
  exact this
theorem sub_any (a b : Nat) (va vb : Value) (w : World) (ha : BigV w va a) (hb : BigV w vb b) (hla : a < B32 ^ 10000) (hle : b ≤ a) (ha0 : a ≠ 0) :
    Calls Tryz.prog 138 #[va, vb] w fun e w' => (∃ v, e = .returned v ∧ BigV w' v (a - b)) ∧ Below w.heap.size w w' := by
  obtain ⟨ao, ca, rfl, hra⟩ := ha
  obtain ⟨bo, cb, rfl, hrb⟩ := hb
  have h1 := dig_len 10000 a hla
  have h0 : dig a ≠ [] := fun e => ha0 (by have := natV_dig a; rw [e] at this; exact this.symm)
  have := sub_rows (dig a) (dig b) ao bo ca cb w hra hrb (okV_dig a) (okV_dig b) (by omega) (len_le hle) (by rw [natV_dig, natV_dig]; exact hle) h0
  rw [natV_dig, natV_dig] at this
  exact this
theorem cmp_any (a b : Nat) (va vb : Value) (w : World) (ha : BigV w va a) (hb : BigV w vb b) (hla : a < B32 ^ 10000) (hlb : b < B32 ^ 10000) :
    Calls Tryz.prog 104 #[va, vb] w fun e w' => e = .returned (.int .i64 (ordI a b)) ∧ Below w.heap.size w w' := by
  obtain ⟨ao, ca, rfl, hra⟩ := ha
  obtain ⟨bo, cb, rfl, hrb⟩ := hb
  have h1 := dig_len 10000 a hla
  have h2 := dig_len 10000 b hlb
  have := cmp_rows (dig a) (dig b) ao bo ca cb w hra hrb (okV_dig a) (okV_dig b) (by omega) (by omega) (fun h => by rw [natV_dig, natV_dig]; exact len_lt h) (fun h => by rw [natV_dig, natV_dig]; exact len_lt h)
  rw [natV_dig, natV_dig] at this
  exact this
theorem left8_any (a : Nat) (va : Value) (w : World) (ha : BigV w va a) (hla : a < B32 ^ 10000) :
    Calls Tryz.prog 135 #[va, .int .u64 8] w fun e w' => (∃ v, e = .returned v ∧ BigV w' v (a * 256)) ∧ Below w.heap.size w w' := by
  obtain ⟨ao, ca, rfl, hra⟩ := ha
  have h1 := dig_len 10000 a hla
  have := left8_rows (dig a) ao ca w hra (okV_dig a) (by omega)
  rw [natV_dig] at this
  exact this
end Go.Proofs.YtajkbkljonejnaaGreatDoor
namespace Go.Proofs.YtajkbkljonejnaaGreatDoor
open Go.RowKit
set_option linter.unusedVariables false
theorem or_words (r x : Nat) (hx : x < 4294967296) : r * 4294967296 ||| x = r * 4294967296 + x := by
  have := Nat.two_pow_add_eq_or_of_lt (i := 32) (b := x) hx r
  rw [show (2 : Nat) ^ 32 = 4294967296 from rfl] at this
  rw [Nat.mul_comm, ← this]
end Go.Proofs.YtajkbkljonejnaaGreatDoor
namespace Go.Proofs.YtajkbkljonejnaaGreatDoor
open Go.RowKit
set_option linter.unusedVariables false
def BoxAt3 (w : World) (p : Nat) (b : Bool) (v : Value) : Prop := w.heap[p]? = some (.cells #[.bool b, v] 109 (0, 0)) ∧ ∃ ao n cap, v = .slice ao n cap
def IntAt (w : World) (p n : Nat) : Prop := ∃ v, BoxAt3 w p false v ∧ BigV w v n
theorem heap_lt {w : World} {g : Nat} {o : Obj} (h : w.heap[g]? = some o) : g < w.heap.size := by
  rcases Nat.lt_or_ge g w.heap.size with h' | h'
  · exact h'
  · rw [Array.getElem?_eq_none h'] at h; cases h
theorem BoxAt3.below {w w' : World} {p : Nat} {b : Bool} {v : Value} (h : BoxAt3 w p b v) (hb : Below w.heap.size w w') : BoxAt3 w' p b v :=
  ⟨(hb.block p (heap_lt h.1)).trans h.1, h.2⟩
theorem IntAt.below {w w' : World} {p n : Nat} (h : IntAt w p n) (hb : Below w.heap.size w w') : IntAt w' p n := by
  obtain ⟨v, h1, h2⟩ := h
  exact ⟨v, h1.below hb, h2.below hb⟩
theorem BigV.box {w w' : World} {v : Value} {n p : Nat} {b : Bool} {v0 : Value} (h : BigV w v n) (hp : BoxAt3 w p b v0) (hs : w.heap.size ≤ w'.heap.size) (ho : ∀ k, k < w.heap.size → k ≠ p → w'.heap[k]? = w.heap[k]?) : BigV w' v n := by
  obtain ⟨ao, cap, rfl, hr⟩ := h
  refine ⟨ao, cap, rfl, ?_⟩
  rcases hr with h0 | ⟨g, off, rfl, hg, hc⟩
  · exact .inl h0
  · refine .inr ⟨g, off, rfl, by omega, fun i x hi => ?_⟩
    have hx := hc i x hi
    have hgp : g ≠ p := by
      intro e
      subst e
      rw [cell_of_row _ _ _ _ _ _ hp.1] at hx
      obtain ⟨_, a2, n2, c2, rfl⟩ := hp
      match off + i, hx with
      | 0, hx => simp at hx
      | 1, hx => simp at hx
      | m + 2, hx => simp at hx
    unfold World.cell? at *
    rw [ho g hg hgp]
    exact hx
set_option maxHeartbeats 1000000 in
theorem give_any (p n : Nat) (b0 : Bool) (v0 v : Value) (w : World) (hp : BoxAt3 w p b0 v0) (hv : BigV w v n) :
    Calls Tryz.prog 99 #[.pointer (some ⟨p, 0, none⟩), .bool false, v] w fun e w' => e = .returned (.pointer (some ⟨p, 0, none⟩)) ∧ IntAt w' p n ∧ (∀ B, B ≤ p → Below B w w') ∧ (∀ k, k < w.heap.size → k ≠ p → w'.heap[k]? = w.heap[k]?) ∧ w'.heap.size = w.heap.size := by
  obtain ⟨ao, cap, hvv, _⟩ := id hv
  have c0 : w.cell? ⟨p, 0, none⟩ = some (.bool b0) := by rw [cell_of_row _ _ _ _ _ _ hp.1]; rfl
  have c1 : w.cell? ⟨p, 1, none⟩ = some v0 := by rw [cell_of_row _ _ _ _ _ _ hp.1]; rfl
  have f0 : w.frozen? ⟨p, 0, none⟩ = false := frozen_of_row _ _ _ _ _ hp.1
  have f1 : w.frozen? ⟨p, 1, none⟩ = false := frozen_of_row _ _ _ _ _ hp.1
  obtain ⟨W, hW⟩ : ∃ W, W = (w.setCell ⟨p, 1, none⟩ v).setCell ⟨p, 0, none⟩ (.bool false) := ⟨_, rfl⟩
  have hsz : W.heap.size = w.heap.size := by rw [hW]; simp
  have ho : ∀ k, k ≠ p → W.heap[k]? = w.heap[k]? := fun k hk => by rw [hW]; simp [World.setCell, Array.getElem?_modify, Ne.symm hk]
  have hbox : BoxAt3 W p false v := ⟨by
    have h1 := hp.1
    rw [hW]
    simp [World.setCell, Array.getElem?_modify, h1], ao, _, cap, hvv⟩
  have hint : IntAt W p n := ⟨v, hbox, hv.box hp (by omega) (fun k _ hk => ho k hk)⟩
  have hbel : ∀ B, B ≤ p → Below B w W := fun B hB => by rw [hW]; exact ((Below.refl B w).setCell hB _).setCell hB _
  have HI := hide hint; have HB := hide hbel; have HO := hide (fun k (_ : k < w.heap.size) hk => ho k hk); have HZ := hide hsz; have HW := hide hW
  clear hint hbel ho hsz hW hbox hp
  subst hvv
  go_enter Tryz.func99, Tryz.ntmps99
  go_wp2
  rw [← unhide HW]
  go_ret
  exact ⟨rfl, unhide HI, unhide HB, unhide HO, unhide HZ⟩
theorem keep_cellB {w w' : World} {a : Addr} {v : Value} (h : Below w.heap.size w w') (hc : w.cell? a = some v) : w'.cell? a = some v := (h.cell (World.block_lt_of_cell? w a hc)).trans hc
theorem ext_callB {W x y : World} (h : Below W.heap.size W x) (k : Below x.heap.size x y) : Below W.heap.size W y := h.trans (k.mono h.size)
theorem B32_bytes (K : Nat) : B32 ^ K = 256 ^ (4 * K) := by rw [Nat.pow_mul]; rfl
theorem B32_mono {a b : Nat} (h : a ≤ b) : B32 ^ a ≤ B32 ^ b := Nat.pow_le_pow_right B32_pos h
theorem small_lt (x : Nat) (h : x < 4294967296) (K : Nat) (hK : 1 ≤ K) : x < B32 ^ K := by
  refine Nat.lt_of_lt_of_le (m := B32 ^ 1) ?_ (B32_mono hK)
  rw [Nat.pow_one]
  exact h
theorem valN_small (l : List UInt8) (K : Nat) (h : l.length ≤ 4 * K) : valN l < B32 ^ K := by
  refine Nat.lt_of_lt_of_le (valN_lt l) ?_
  rw [B32_bytes]
  exact Nat.pow_le_pow_right (by decide) h
set_option maxHeartbeats 4000000 in
set_option maxRecDepth 100000 in
theorem setBytes_any (s : ByteArray) (g cap p : Nat) (b0 : Bool) (v0 : Value) (w : World) (hB : ∀ i (h : i < s.size), w.cell? ⟨g, i, none⟩ = some (.int .u8 ((s[i]'h).toNat : Int))) (hg : g < w.heap.size) (hp : BoxAt3 w p b0 v0) (hs : (s.size : Int) ≤ 1000) :
    Calls Tryz.prog 98 #[.pointer (some ⟨p, 0, none⟩), .slice (some ⟨g, 0, none⟩) s.size cap] w fun e w' => e = .returned (.pointer (some ⟨p, 0, none⟩)) ∧ IntAt w' p (valN s.data.toList) ∧ (∀ B, B ≤ p → Below B w w') ∧ (∀ k, k < w.heap.size → k ≠ p → w'.heap[k]? = w.heap[k]?) ∧ w.heap.size ≤ w'.heap.size := by
  have HBB := hide hB; have HP := hide hp
  clear hB hp
  go_enter Tryz.func98, Tryz.ntmps98
  go_wp2
  go_loopw [5, 6] (fun v i wr => ∃ k : Nat, k ≤ s.size ∧ i = .int .i64 k ∧ BigV wr v (valN (s.data.toList.take k)) ∧ Below w.heap.size w wr) (fun _ i _ => s.size - (intOf i).toNat)
  case atStart => exact ⟨0, Nat.zero_le _, rfl, ⟨none, 0, by simp [valN, dig_zero], .inl (by simp [valN, dig_zero])⟩, Below.refl _ _⟩
  case round =>
    obtain ⟨k, hk, rfl, hv, hbw⟩ := hrel
    have hsl : s.data.toList.length = s.size := by simp
    by_cases hlt : k < s.size
    · have hc : wr.cell? ⟨g, k, none⟩ = some (.int .u8 ((s[k]'hlt).toNat : Int)) := (hbw.cell (p := ⟨g, k, none⟩) hg).trans (unhide HBB k hlt)
      have hsn := valN_snoc (s.data.toList.take k) s[k]
      rw [← take_snoc s k hlt] at hsn
      have hvb' := valN_small (s.data.toList.take k) 10000 (by rw [List.length_take]; omega)
      have hvb2' := valN_small (s.data.toList.take (k + 1)) 10000 (by rw [List.length_take]; omega)
      have hbyte : s[k].toNat < 256 := s[k].toNat_lt
      generalize hxx : s[k].toNat = x at *
      generalize hAA : valN (s.data.toList.take k) = A at *
      have N1 := hide (fun w' (hb : Below wr.heap.size wr w') => left8_any A u5 w' (hv.below hb) hvb')
      have N2 := hide (fun w' => words_any x (by clear hvb' hvb2' N1; omega) w')
      have hA256 : A * 256 < B32 ^ 10000 := by
        refine Nat.lt_of_le_of_lt (Nat.le_add_right _ x) ?_
        rw [← hsn]; exact hvb2'
      have hx10 := small_lt x (by clear hvb' hvb2' hA256 N1; omega) 10000 (by decide)
      have N3 := hide (fun (va vb : Value) w' h1 h2 => add_any (A * 256) x va vb w' h1 h2 hA256 hx10)
      have HSN := hide hsn; have HBW := hide hbw
      clear hvb' hvb2' hA256 hx10
      have wx : IntKind.u64.wrap (x : Int) = (x : Int) := wraps_u64 _ (by omega) (by omega)
      have hki : (k : Int) < (s.size : Int) := by omega
      clear hsn hAA hxx hv hbw
      go_wp2_with fail
      go_region_held3 (fun w' => w'.cell? ⟨g, k, none⟩ = some (.int .u8 (x : Int)))
        (first
          | exact hs3
          | exact hs2
          | exact hs1
          | go_keep)
        ((first
          | (have hq := k2; go_at_call 134; refine (unhide N3 _ _ _ (h1.below k2) h2).mono ?_; rintro e y3 ⟨⟨v3, rfl, h3⟩, k3⟩; have hs3 := keep_cellB k3 hs2)
          | (have hq := k1; go_at_call 136; refine (unhide N2 _).mono ?_; rintro e y2 ⟨⟨v2, rfl, h2⟩, k2⟩; have hs2 := keep_cellB k2 hs1)
          | (go_at_call 135; refine (unhide N1 _ (Below.refl _ _).drew).mono ?_; rintro e y1 ⟨⟨v1, rfl, h1⟩, k1⟩; have hs1 : y1.cell? ⟨g, k, none⟩ = some (.int .u8 (x : Int)) := keep_cellB k1 hc)))
      all_goals
        have hb3 := ext_callB (ext_callB (ext_callB (unhide HBW).drew k1) k2) k3
        have H3 := hide h3; have HB3 := hide hb3
        clear k1 k2 k3 h1 h2 h3 hb3
        go_wp2
        go_roundw
        case rel => exact ⟨k + 1, by omega, by go_num, by rw [unhide HSN]; exact unhide H3, unhide HB3⟩
        case measure => simp [intOf]; omega
    · rw [List.take_of_length_le (by omega)] at hv
      have hpr := (unhide HP).below hbw
      have N4 := hide (give_any p _ b0 v0 u5 wr hpr hv)
      have hpl := heap_lt (unhide HP).1
      have HBW := hide hbw
      clear hv hpr hbw
      go_wp2_with fail
      refine (unhide N4).mono ?_
      rintro e w2 ⟨rfl, hint, hbel, ho, hsz⟩
      have hbw := unhide HBW
      have R1 := hide hint
      have R2 : Hid (∀ B, B ≤ p → Below B w w2) := hide (fun B hB' => (hbw.mono (by omega)).trans (hbel B hB'))
      have R3 : Hid (∀ k, k < w.heap.size → k ≠ p → w2.heap[k]? = w.heap[k]?) := hide (fun k hk1 hk2 => (ho k (by have := hbw.size; omega) hk2).trans (hbw.block k hk1))
      have R4 : Hid (w.heap.size ≤ w2.heap.size) := hide (by have := hbw.size; omega)
      clear hint hbel ho hsz hbw
      go_wp2
      go_ret
      exact ⟨rfl, unhide R1, unhide R2, unhide R3, unhide R4⟩
end Go.Proofs.YtajkbkljonejnaaGreatDoor
namespace Go.Proofs.YtajkbkljonejnaaGreatDoor
open Go.RowKit
set_option linter.unusedVariables false
set_option linter.unusedSimpArgs false
set_option maxRecDepth 100000
theorem bytesWorld_belowW (w : World) (e : TypeId) (s : ByteArray) : Below w.heap.size w (Lib.bytesWorld w e s) :=
  ⟨rfl, rfl, rfl, by rw [Lib.bytesWorld_size]; omega, fun q hq => Lib.bytesWorld_at_old w e s q hq⟩
set_option maxHeartbeats 1000000 in
theorem whole_any (s : ByteArray) (w : World) (hs : (s.size : Int) ≤ 1000) :
    Calls Tryz.prog 55 #[.string s] w fun e w' => (e = .returned (.pointer (some ⟨w.heap.size, 0, none⟩)) ∧ IntAt w' w.heap.size (valN s.data.toList)) ∧ Below w.heap.size w w' ∧ w.heap.size < w'.heap.size := by
  obtain ⟨W1, hW1⟩ : ∃ W1, W1 = w.alloc (.cells #[.bool false, .slice none 0 0] 109) := ⟨_, rfl⟩
  have hX1 : W1.heap[w.heap.size]? = some (.cells #[.bool false, .slice none 0 0] 109 (0, 0)) := by rw [hW1]; exact heap_alloc_new _ _
  have hB1 : Below w.heap.size w W1 := by rw [hW1]; exact (Below.refl _ _).alloc (Nat.le_refl _) _
  obtain ⟨W2, hW2⟩ : ∃ W2, W2 = Lib.bytesWorld W1 5 s := ⟨_, rfl⟩
  have hB2 : Below W1.heap.size W1 W2 := by rw [hW2]; exact bytesWorld_belowW _ _ _
  have hX2 : BoxAt3 W2 w.heap.size false (.slice none 0 0) := ⟨(hB2.block _ (heap_lt hX1)).trans hX1, _, _, _, rfl⟩
  have hcell : ∀ i (h : i < s.size), W2.cell? ⟨W1.heap.size, i, none⟩ = some (.int .u8 ((s[i]'h).toNat : Int)) := fun i h => by
    rw [hW2, Lib.bytesWorld_cell W1 5 s i h]
    have e : s.data.toList.getD i 0 = s[i]'h := by
      rw [List.getD_eq_getElem?_getD, List.getElem?_eq_getElem (by simpa using h)]; rfl
    rw [e]
  have hsz : W2.heap.size = W1.heap.size + 1 := by rw [hW2, Lib.bytesWorld_size]
  have hlt : w.heap.size < W2.heap.size := by have := heap_lt hX1; omega
  have N0 := setBytes_any s W1.heap.size (grownCap W1 s.size 0 5) w.heap.size false (.slice none 0 0) W2 hcell (by omega) hX2 hs
  have hcv := Lib.run_convert_string_bytes (P := Tryz.prog) W1 9 55 5 s Tryz.underlying9 Tryz.underlying55 Tryz.underlying5
  rw [← hW2] at hcv
  have HB := hide (hB1.trans (hB2.mono hB1.size))
  have HLT := hide hlt
  have HN := hide N0
  generalize grownCap W1 s.size 0 5 = CP at *
  generalize hg1 : W1.heap.size = g1 at *
  have hcv' : ∀ v w', (convert 9 55 (.string s)).run Tryz.prog W1 = .ok v w' → True := fun _ _ _ => trivial
  clear hX1 hB1 hB2 hX2 hcell hsz hcv' N0 hW2 hg1 hlt hs
  rw [hW1] at hcv
  clear hW1
  go_enter Tryz.func55, Tryz.ntmps55
  go_wp2_with fail
  refine (unhide HN).mono ?_
  rintro e y ⟨rfl, hI, hb, _, hz⟩
  have HI := hide hI; have HBB := hide ((unhide HB).trans (hb w.heap.size (Nat.le_refl _)))
  have HZ := hide (Nat.lt_of_lt_of_le (unhide HLT) hz)
  clear hI hb hz
  go_wp2
  go_ret
  exact ⟨⟨rfl, unhide HI⟩, unhide HBB, unhide HZ⟩
end Go.Proofs.YtajkbkljonejnaaGreatDoor
