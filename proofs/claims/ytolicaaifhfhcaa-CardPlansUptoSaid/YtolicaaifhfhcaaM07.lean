/- sub of the big numbers. -/
import Derived.Test.YtolicaaifhfhcaaM06
import Derived.Test.YtolicaaifhfhcaaM02
namespace Go.Proofs.Ytolicaaifhfhcaa
open Go.RowKit
set_option linter.unusedVariables false

theorem wrap_u64_mod (n : Int) : IntKind.u64.wrap n = n % 18446744073709551616 := by simp [IntKind.wrap, IntKind.bits, IntKind.signed]
theorem u64_nat (n : Int) : ∃ s : Nat, (s : Int) = n % 18446744073709551616 ∧ IntKind.u64.wrap n = (s : Int) := by
  refine ⟨(n % 18446744073709551616).toNat, Int.toNat_of_nonneg (Int.emod_nonneg _ (by decide)), ?_⟩
  rw [wrap_u64_mod, Int.toNat_of_nonneg (Int.emod_nonneg _ (by decide))]
theorem sub_step {R xs ys : List Nat} {cn k av bv r c' : Nat} (hRv : natV R + natV (ys.take k) = natV (xs.take k) + cn * B32 ^ k) (hRl : R.length = k) (ha : xs[k]? = some av) (hb : ys[k]? = some bv ∨ (bv = 0 ∧ ys.length ≤ k)) (hs : r + bv + cn = av + c' * 4294967296) :
    natV (R ++ [r]) + natV (ys.take (k + 1)) = natV (xs.take (k + 1)) + c' * B32 ^ (k + 1) := by
  rw [natV_append, hRl, natV_take_succ xs k av ha]
  have hbt : natV (ys.take (k + 1)) = natV (ys.take k) + bv * B32 ^ k := by
    rcases hb with hb | ⟨rfl, hl⟩
    · exact natV_take_succ ys k bv hb
    · rw [List.take_of_length_le (by omega), List.take_of_length_le (by omega)]; simp
  rw [hbt, Nat.pow_succ]
  simp only [natV, Nat.mul_zero, Nat.add_zero]
  have hs' : r + bv + cn = av + c' * B32 := hs
  have h1 : r * B32 ^ k + bv * B32 ^ k + cn * B32 ^ k = av * B32 ^ k + c' * B32 * B32 ^ k := by
    rw [← Nat.add_mul, ← Nat.add_mul, ← Nat.add_mul, hs']
  have h2 : c' * B32 * B32 ^ k = c' * (B32 ^ k * B32) := by grind
  have h3 : B32 ^ k * r = r * B32 ^ k := Nat.mul_comm _ _
  omega
theorem sub_end {R xs ys : List Nat} {cn : Nat} (hRv : natV R + natV ys = natV xs + cn * B32 ^ xs.length) (hRl : R.length = xs.length) (hok : okV R) (hle : natV ys ≤ natV xs) : natV R = natV xs - natV ys := by
  have h1 := natV_lt hok
  rw [hRl] at h1
  rcases Nat.eq_zero_or_pos cn with h0 | h0
  · rw [h0, Nat.zero_mul] at hRv; omega
  · have := Nat.le_mul_of_pos_left (B32 ^ xs.length) h0
    omega
set_option maxHeartbeats 8000000 in
set_option maxRecDepth 100000 in
theorem sub_rows (xs ys : List Nat) (ao bo : Option Addr) (ca cb : Nat) (w : World) (ha : WRow w ao xs) (hb : WRow w bo ys) (oka : okV xs) (okb : okV ys) (hla : (xs.length : Int) ≤ 10000) (hle : ys.length ≤ xs.length) (hge : natV ys ≤ natV xs) (hx0 : xs ≠ []) :
    Calls Try.prog 79 #[.slice ao xs.length ca, .slice bo ys.length cb] w fun e w' => (∃ v, e = .returned v ∧ BigV w' v (natV xs - natV ys)) ∧ Below w.heap.size w w' := by
  have HA := hide ha; have HB := hide hb
  clear ha hb
  obtain ⟨i0, hi, hz0, hz1, hz2⟩ := info_partsV infoU32
  go_enter Try.func79, Try.ntmps79
  go_wp2_with (at_make; refine wpList_make_full _ rfl _ _ 66 rfl w.heap.size 79 i0 (.int .u32 0) 1 Try.underlying66 hi hz0 hz1 .i64 .i64 _ _ xs.length rfl rfl (by simp) (by simp) (by rw [hz2]; omega) (by unfold maxLen; omega) (Nat.le_refl _) ?_)
  intro w1 hown hgrow
  have hU := made_vrow hown
  have hb : Below w.heap.size w w1 := (Below.refl _ _).grown hgrow (Nat.le_refl _) (fun q hq => by cases hq)
  clear hown hgrow hi hz0 hz1 hz2
  go_wp2
  go_loopw [6, 7] (fun c i wr => ∃ (k cn : Nat) (R : List Nat), k ≤ xs.length ∧ i = .int .i64 k ∧ c = .int .u64 cn ∧ cn ≤ 1 ∧ VRow wr w.heap.size (R ++ List.replicate (xs.length - k) 0) ∧ R.length = k ∧ okV R ∧ natV R + natV (ys.take k) = natV (xs.take k) + cn * B32 ^ k ∧ Below w.heap.size w wr) (fun _ i _ => xs.length - (intOf i).toNat)
  case atStart => exact ⟨0, 0, [], Nat.zero_le _, rfl, rfl, by omega, hU, rfl, okV_nil, by simp [natV], hb⟩
  case round =>
    clear hU hb
    obtain ⟨k, cn, R, hk, rfl, rfl, hcn, hU, hRl, hRok, hRv, hbel⟩ := hrel
    by_cases hlt : k < xs.length
    · obtain ⟨av, hav⟩ : ∃ x, xs[k]? = some x := ⟨_, List.getElem?_eq_getElem hlt⟩
      have havb : av < 4294967296 := okV_get oka hav
      rcases (unhide HA) with hnil | ⟨ga, oa, rfl, hga, hca⟩
      · rw [hnil] at hlt; simp at hlt
      have d0 : wr.cell? ⟨ga, oa + k, none⟩ = some (.int .u32 (av : Nat)) := (hbel.cell (p := ⟨ga, oa + k, none⟩) hga).trans (hca k av hav)
      have hrep : List.replicate (xs.length - k) 0 = 0 :: List.replicate (xs.length - (k + 1)) 0 := by
        rw [show xs.length - k = (xs.length - (k + 1)) + 1 by omega]; rfl
      rw [hrep] at hU
      have hfr := hU.frozen k
      have hcell := hU.cell k 0 (by rw [List.getElem?_append_right (by omega)]; simp [hRl])
      have hset : ∀ x : Nat, (R ++ 0 :: List.replicate (xs.length - (k + 1)) 0).set k x = (R ++ [x]) ++ List.replicate (xs.length - (k + 1)) 0 := fun x => by
        rw [List.set_append_right _ _ (by omega)]
        simp [hRl]
      have hkA : (k : Int) < (xs.length : Int) := by omega
      have wa' : IntKind.u64.wrap (av : Int) = (av : Int) := wraps_u64 _ (by omega) (by omega)
      obtain ⟨s1, hs1, w1'⟩ := u64_nat ((av : Int) - (cn : Int))
      by_cases hltb : k < ys.length
      · obtain ⟨bv, hbv⟩ : ∃ x, ys[k]? = some x := ⟨_, List.getElem?_eq_getElem hltb⟩
        have hbvb : bv < 4294967296 := okV_get okb hbv
        rcases (unhide HB) with hnil | ⟨gb, ob, rfl, hgb, hcb⟩
        · rw [hnil] at hltb; simp at hltb
        have d1 : wr.cell? ⟨gb, ob + k, none⟩ = some (.int .u32 (bv : Nat)) := (hbel.cell (p := ⟨gb, ob + k, none⟩) hgb).trans (hcb k bv hbv)
        have hkB : (k : Int) < (ys.length : Int) := by omega
        have wb' : IntKind.u64.wrap (bv : Int) = (bv : Int) := wraps_u64 _ (by omega) (by omega)
        obtain ⟨s2, hs2, w2'⟩ := u64_nat ((s1 : Int) - (bv : Int))
        obtain ⟨r, hr⟩ : ∃ r, r = s2 % 4294967296 := ⟨_, rfl⟩
        obtain ⟨c', hc'⟩ : ∃ r, r = s2 / 9223372036854775808 := ⟨_, rfl⟩
        have hsum := sub_step hRv hRl hav (.inl hbv) (show r + bv + cn = av + c' * 4294967296 by omega)
        have w3' : (s2 : Int) % 4294967296 = (r : Int) := by omega
        have w4' : (s2 : Int) / 9223372036854775808 = (c' : Int) := by omega
        have hc1 : c' ≤ 1 := by omega
        have hrb : r < B32 := by show r < 4294967296; omega
        have HV := hide (hU.set k r); have HBE := hide (hbel.setCell (p := ⟨w.heap.size, k, none⟩) (Nat.le_refl _) (.int .u32 (r : Nat)))
        have HSET := hide (hset r); have HSUM := hide hsum; have HRO := hide (okV_snoc hRok hrb)
        clear hca hcb hav hbv havb hbvb hs1 hs2 hr hc' hsum hU hbel hset hrep hRv hrb
        go_wp2
        go_roundw
        case rel => exact ⟨k + 1, c', R ++ [r], by omega, by go_num, rfl, hc1, by rw [← unhide HSET]; exact unhide HV, by simp [hRl], unhide HRO, unhide HSUM, unhide HBE⟩
        case measure => simp [intOf]; omega
      · obtain ⟨r, hr⟩ : ∃ r, r = s1 % 4294967296 := ⟨_, rfl⟩
        obtain ⟨c', hc'⟩ : ∃ r, r = s1 / 9223372036854775808 := ⟨_, rfl⟩
        have hsum := sub_step (bv := 0) hRv hRl hav (.inr ⟨rfl, by omega⟩) (show r + 0 + cn = av + c' * 4294967296 by omega)
        have w3' : (s1 : Int) % 4294967296 = (r : Int) := by omega
        have w4' : (s1 : Int) / 9223372036854775808 = (c' : Int) := by omega
        have hkB : ¬ (k : Int) < (ys.length : Int) := by omega
        have hc1 : c' ≤ 1 := by omega
        have hrb : r < B32 := by show r < 4294967296; omega
        have HV := hide (hU.set k r); have HBE := hide (hbel.setCell (p := ⟨w.heap.size, k, none⟩) (Nat.le_refl _) (.int .u32 (r : Nat)))
        have HSET := hide (hset r); have HSUM := hide hsum; have HRO := hide (okV_snoc hRok hrb)
        clear hca hav havb hs1 hr hc' hsum hU hbel hset hrep hRv hrb
        go_wp2
        go_roundw
        case rel => exact ⟨k + 1, c', R ++ [r], by omega, by go_num, rfl, hc1, by rw [← unhide HSET]; exact unhide HV, by simp [hRl], unhide HRO, unhide HSUM, unhide HBE⟩
        case measure => simp [intOf]; omega
    · have hkx : k = xs.length := by omega
      rw [hkx, List.take_length, List.take_of_length_le hle] at hRv
      rw [hkx, Nat.sub_self, List.replicate_zero, List.append_nil] at hU
      have hnv := sub_end hRv (by omega) hRok hge
      have n1 := trim_any R w.heap.size 0 xs.length _ hU.wrow hRok (by omega) (by omega) (by omega)
      have hwd := wrow_dig hU.wrow hRok
      rw [hnv] at n1 hwd
      rw [show R.length = xs.length by omega] at n1
      have hkd : ¬ (k : Int) < (xs.length : Int) := by omega
      have N1 := hide n1; have HWD := hide hwd; have HBE := hide hbel
      clear n1 hwd hU hnv hRv hbel hkx
      go_wp2_with fail
      refine (unhide N1).mono ?_
      rintro e w2 ⟨rfl, rfl⟩
      go_wp2
      go_ret
      exact ⟨⟨_, rfl, _, _, rfl, unhide HWD⟩, unhide HBE⟩
end Go.Proofs.Ytolicaaifhfhcaa
namespace Go.Proofs.Ytolicaaifhfhcaa
open Go.RowKit
set_option linter.unusedVariables false

def ordI (a b : Nat) : Int := if a < b then -1 else if b < a then 1 else 0
theorem natV_at (l : List Nat) (j x : Nat) (h : l[j]? = some x) : natV l = natV (l.take j) + x * B32 ^ j + B32 ^ (j + 1) * natV (l.drop (j + 1)) := by
  have hj : j < l.length := (List.getElem?_eq_some_iff.1 h).1
  have e := natV_take_succ l j x h
  conv => lhs; rw [← List.take_append_drop (j + 1) l]
  rw [natV_append, e, List.length_take, Nat.min_eq_left (by omega)]
theorem lt_top {xs ys : List Nat} {j x y : Nat} (ha : okV xs) (hx : xs[j]? = some x) (hy : ys[j]? = some y) (hd : xs.drop (j + 1) = ys.drop (j + 1)) (hlt : x < y) : natV xs < natV ys := by
  have hj : j < xs.length := (List.getElem?_eq_some_iff.1 hx).1
  have h1 := natV_lt (okV_take ha j)
  rw [List.length_take, Nat.min_eq_left (by omega)] at h1
  rw [natV_at xs j x hx, natV_at ys j y hy, hd]
  have h2 : (x + 1) * B32 ^ j ≤ y * B32 ^ j := Nat.mul_le_mul_right _ hlt
  rw [Nat.add_mul, Nat.one_mul] at h2
  omega
theorem dig_ge {n : Nat} (h : n ≠ 0) : B32 ^ ((dig n).length - 1) ≤ n := by
  obtain ⟨x, hx, hx0⟩ := dig_last h
  rw [List.getLast?_eq_getElem?] at hx
  have e := natV_at (dig n) _ x hx
  rw [natV_dig] at e
  have h1 : B32 ^ ((dig n).length - 1) ≤ x * B32 ^ ((dig n).length - 1) := Nat.le_mul_of_pos_left _ (by omega)
  omega
theorem len_lt {a b : Nat} (h : (dig a).length < (dig b).length) : a < b := by
  have hb : b ≠ 0 := fun e => by subst e; rw [dig_zero] at h; simp at h
  have h1 := dig_ge hb
  have h2 := lt_dig a
  have h3 : B32 ^ (dig a).length ≤ B32 ^ ((dig b).length - 1) := Nat.pow_le_pow_right B32_pos (by omega)
  omega
theorem len_le {a b : Nat} (h : a ≤ b) : (dig a).length ≤ (dig b).length := by
  rcases Nat.lt_or_ge (dig b).length (dig a).length with h1 | h1
  · have := len_lt h1; omega
  · exact h1
set_option maxHeartbeats 4000000 in
set_option maxRecDepth 100000 in
theorem cmp_rows (xs ys : List Nat) (ao bo : Option Addr) (ca cb : Nat) (w : World) (ha : WRow w ao xs) (hb : WRow w bo ys) (oka : okV xs) (okb : okV ys) (hla : (xs.length : Int) ≤ 10000) (hlb : (ys.length : Int) ≤ 10000) (hlt0 : xs.length < ys.length → natV xs < natV ys) (hgt0 : ys.length < xs.length → natV ys < natV xs) :
    Calls Try.prog 68 #[.slice ao xs.length ca, .slice bo ys.length cb] w fun e w' => e = .returned (.int .i64 (ordI (natV xs) (natV ys))) ∧ Below w.heap.size w w' := by
  have HA := hide ha; have HB := hide hb
  clear ha hb
  by_cases hlen : xs.length = ys.length
  case neg =>
    have hne : ((xs.length : Int) != (ys.length : Int)) = true := by simp; omega
    by_cases hl : xs.length < ys.length
    · have HE : Hid (ordI (natV xs) (natV ys) = -1) := hide (by rw [ordI, if_pos (hlt0 hl)])
      have hlI : (xs.length : Int) < (ys.length : Int) := by omega
      clear hlt0 hgt0 hlen hl
      go_enter Try.func68, Try.ntmps68
      go_wp2
      go_ret
      exact ⟨ret_int (unhide HE).symm, Below.refl _ _⟩
    · have hg := hgt0 (by omega)
      have HE : Hid (ordI (natV xs) (natV ys) = 1) := hide (by rw [ordI, if_neg (by omega), if_pos hg])
      have hlI : ¬ (xs.length : Int) < (ys.length : Int) := by omega
      clear hlt0 hgt0 hlen hl hg
      go_enter Try.func68, Try.ntmps68
      go_wp2
      go_ret
      exact ⟨ret_int (unhide HE).symm, Below.refl _ _⟩
  have hne : ((xs.length : Int) != (ys.length : Int)) = false := by simp; omega
  have hw1 : IntKind.i64.wrap ((xs.length : Int) - 1) = (xs.length : Int) - 1 := by rw [IntKind.wrap_i64]; omega
  have hle : ys.length ≤ xs.length := by omega
  have hle2 : xs.length ≤ ys.length := by omega
  clear hlt0 hgt0 hlen
  go_enter Try.func68, Try.ntmps68
  go_wp2
  go_loopw [5] (fun r wr => ∃ i : Nat, i ≤ xs.length ∧ r = .int .i64 ((i : Int) - 1) ∧ Hid (xs.drop i = ys.drop i) ∧ ∃ q, wr = w.drewN q) (fun r _ => (intOf r + 1).toNat)
  case atStart => exact ⟨xs.length, Nat.le_refl _, by first | rfl | go_num, hide (by rw [List.drop_of_length_le (Nat.le_refl _), List.drop_of_length_le hle]), 0, rfl⟩
  case round =>
    obtain ⟨i, hi, rfl, HD, q, rfl⟩ := hrel
    by_cases h0 : i = 0
    · subst h0
      have HE : Hid (ordI (natV xs) (natV ys) = 0) := hide (by
        have := unhide HD
        simp only [List.drop_zero] at this
        rw [this, ordI, if_neg (Nat.lt_irrefl _), if_neg (Nat.lt_irrefl _)])
      go_wp2
      go_ret
      exact ⟨ret_int (unhide HE).symm, below_drewN (Below.refl _ _) _⟩
    · obtain ⟨j, rfl⟩ : ∃ j, i = j + 1 := ⟨i - 1, by omega⟩
      have ej : ((j + 1 : Nat) : Int) - 1 = (j : Int) := by omega
      rw [ej]
      obtain ⟨x, hx⟩ : ∃ x, xs[j]? = some x := ⟨_, List.getElem?_eq_getElem (by omega)⟩
      obtain ⟨y, hy⟩ : ∃ x, ys[j]? = some x := ⟨_, List.getElem?_eq_getElem (by omega)⟩
      rcases (unhide HA) with hnil | ⟨ga, oa, rfl, hga, hca⟩
      · rw [hnil] at hx; simp at hx
      rcases (unhide HB) with hnil | ⟨gb, ob, rfl, hgb, hcb⟩
      · rw [hnil] at hy; simp at hy
      have c0 := hca j x hx
      have c1 := hcb j y hy
      have hji : (j : Int) < (xs.length : Int) := by omega
      have hji2 : (j : Int) < (ys.length : Int) := by omega
      have hnx : IntKind.i64.wrap ((j : Int) - 1) = (j : Int) - 1 := by rw [IntKind.wrap_i64]; omega
      have hj0 : (0 : Int) ≤ (j : Int) := by omega
      by_cases hxy : x = y
      · subst hxy
        have HD2 : Hid (xs.drop j = ys.drop j) := hide (by
          obtain ⟨h1, e1⟩ := List.getElem?_eq_some_iff.1 hx
          obtain ⟨h2, e2⟩ := List.getElem?_eq_some_iff.1 hy
          rw [List.drop_eq_getElem_cons h1, List.drop_eq_getElem_cons h2, e1, e2, unhide HD])
        have hbn : ((x : Int) != (x : Int)) = false := by simp
        clear hca hcb hx hy ej h0
        go_wp2_with fail
        go_quiet (fail)
        go_wp2
        go_roundw
        case rel => exact ⟨j, by omega, by go_num, HD2, _, rfl⟩
        case measure => simp [intOf] <;> omega
      · have hbn : ((x : Int) != (y : Int)) = true := by simp; omega
        by_cases hl : x < y
        · have HE : Hid (ordI (natV xs) (natV ys) = -1) := hide (by rw [ordI, if_pos (lt_top oka hx hy (unhide HD) hl)])
          have hlI : (x : Int) < (y : Int) := by omega
          clear hca hcb hx hy ej h0 hxy
          go_wp2_with fail
          go_quiet (fail)
          go_wp2_with fail
          go_quiet (fail)
          go_wp2
          go_ret
          exact ⟨ret_int (unhide HE).symm, below_drewN (below_drewN (below_drewN (Below.refl _ _) _) _) _⟩
        · have hg := lt_top okb hy hx (unhide HD).symm (show y < x by omega)
          have HE : Hid (ordI (natV xs) (natV ys) = 1) := hide (by rw [ordI, if_neg (by omega), if_pos hg])
          have hlI : ¬ (x : Int) < (y : Int) := by omega
          clear hca hcb hx hy ej h0 hxy hg
          go_wp2_with fail
          go_quiet (fail)
          go_wp2_with fail
          go_quiet (fail)
          go_wp2
          go_ret
          exact ⟨ret_int (unhide HE).symm, below_drewN (below_drewN (below_drewN (Below.refl _ _) _) _) _⟩
end Go.Proofs.Ytolicaaifhfhcaa
namespace Go.Proofs.Ytolicaaifhfhcaa
open Go.RowKit
set_option linter.unusedVariables false

/-- a word turned to the left -/
def rl (x n : Nat) : Nat := x * 2 ^ n % 4294967296 ||| x / 2 ^ (32 - n)

theorem or_add (a b k : Nat) (h : b < 2 ^ k) : a * 2 ^ k ||| b = a * 2 ^ k + b := by
  have := Nat.shiftLeft_add_eq_or_of_lt h a
  rw [Nat.shiftLeft_eq] at this
  exact this.symm
theorem rl12 (x : Nat) (h : x < 4294967296) : rl x 12 = x % 1048576 * 4096 + x / 1048576 := by
  unfold rl
  rw [show x * 2 ^ 12 % 4294967296 = (x % 1048576) * 2 ^ 12 by omega, or_add _ _ 12 (by omega)]
theorem rl16 (x : Nat) (h : x < 4294967296) : rl x 16 = x % 65536 * 65536 + x / 65536 := by
  unfold rl
  rw [show x * 2 ^ 16 % 4294967296 = (x % 65536) * 2 ^ 16 by omega, or_add _ _ 16 (by omega)]
theorem rl20 (x : Nat) (h : x < 4294967296) : rl x 20 = x % 4096 * 1048576 + x / 4096 := by
  unfold rl
  rw [show x * 2 ^ 20 % 4294967296 = (x % 4096) * 2 ^ 20 by omega, or_add _ _ 20 (by omega)]
theorem rl12_lt (x : Nat) (h : x < 4294967296) : rl x 12 < 4294967296 := by rw [rl12 x h]; omega
theorem rl16_lt (x : Nat) (h : x < 4294967296) : rl x 16 < 4294967296 := by rw [rl16 x h]; omega
theorem rl20_lt (x : Nat) (h : x < 4294967296) : rl x 20 < 4294967296 := by rw [rl20 x h]; omega
theorem rl12_20 (x : Nat) (h : x < 4294967296) : rl (rl x 12) 20 = x := by
  rw [rl20 _ (rl12_lt x h), rl12 x h]; omega
theorem rl20_12 (x : Nat) (h : x < 4294967296) : rl (rl x 20) 12 = x := by
  rw [rl12 _ (rl20_lt x h), rl20 x h]; omega
theorem rl16_16 (x : Nat) (h : x < 4294967296) : rl (rl x 16) 16 = x := by
  rw [rl16 _ (rl16_lt x h), rl16 x h]; omega
theorem xor_lt32 {a b : Nat} (ha : a < 4294967296) (hb : b < 4294967296) : a ^^^ b < 4294967296 := Nat.xor_lt_two_pow (n := 32) ha hb
theorem xor_twice (a b : Nat) : (a ^^^ b) ^^^ b = a := by rw [Nat.xor_assoc, Nat.xor_self, Nat.xor_zero]

/-- four words -/
structure Blk where
  a : Nat
  b : Nat
  c : Nat
  d : Nat
def Blk.ok (v : Blk) : Prop := v.a < 4294967296 ∧ v.b < 4294967296 ∧ v.c < 4294967296 ∧ v.d < 4294967296
/-- the word with a number -/
def Blk.at (v : Blk) : Nat → Nat
  | 0 => v.a
  | 1 => v.b
  | 2 => v.c
  | _ => v.d
theorem Blk.at_lt {v : Blk} (h : v.ok) (i : Nat) : v.at i < 4294967296 := by
  obtain ⟨h1, h2, h3, h4⟩ := h
  match i with
  | 0 => exact h1
  | 1 => exact h2
  | 2 => exact h3
  | n + 3 => exact h4
/-- what a round adds -/
def added (k : Blk) (i : Nat) : Nat := k.at (i % 4) + i * 2654435769
def nextA (k : Blk) (i : Nat) (v : Blk) : Nat := (v.a + v.b + added k i) % 4294967296
def nextD (k : Blk) (i : Nat) (v : Blk) : Nat := rl (v.d ^^^ nextA k i v) 16
def nextC (k : Blk) (i : Nat) (v : Blk) : Nat := (v.c + nextD k i v) % 4294967296
def nextB (k : Blk) (i : Nat) (v : Blk) : Nat := rl (v.b ^^^ nextC k i v) 12
/-- a round -/
def rnd (k : Blk) (i : Nat) (v : Blk) : Blk := ⟨nextB k i v, nextC k i v, nextD k i v, nextA k i v⟩
/-- so many rounds -/
def fwd (k : Blk) : Nat → Blk → Blk
  | 0, v => v
  | n + 1, v => rnd k n (fwd k n v)
/-- the way back of a round: the words are (b, c, d, a) -/
def lastB (v : Blk) : Nat := rl v.a 20 ^^^ v.b
def lastC (v : Blk) : Nat := (v.b + (4294967296 - v.c)) % 4294967296
def lastD (v : Blk) : Nat := rl v.c 16 ^^^ v.d
def lastA (k : Blk) (i : Nat) (v : Blk) : Nat := (v.d + (4294967296 - (lastB v + added k i) % 4294967296)) % 4294967296
def unrnd (k : Blk) (i : Nat) (v : Blk) : Blk := ⟨lastA k i v, lastB v, lastC v, lastD v⟩
/-- so many of the last rounds undone -/
def bwd (k : Blk) : Nat → Blk → Blk
  | 0, v => v
  | n + 1, v => unrnd k (11 - n) (bwd k n v)

theorem nextA_lt (k : Blk) (i : Nat) (v : Blk) : nextA k i v < 4294967296 := Nat.mod_lt _ (by decide)
theorem nextD_lt (k : Blk) (i : Nat) (v : Blk) (h : v.ok) : nextD k i v < 4294967296 := rl16_lt _ (xor_lt32 h.2.2.2 (nextA_lt k i v))
theorem nextC_lt (k : Blk) (i : Nat) (v : Blk) : nextC k i v < 4294967296 := Nat.mod_lt _ (by decide)
theorem nextB_lt (k : Blk) (i : Nat) (v : Blk) (h : v.ok) : nextB k i v < 4294967296 := rl12_lt _ (xor_lt32 h.2.1 (nextC_lt k i v))
theorem rnd_ok (k : Blk) (i : Nat) (v : Blk) (h : v.ok) : (rnd k i v).ok := ⟨nextB_lt k i v h, nextC_lt k i v, nextD_lt k i v h, nextA_lt k i v⟩
theorem fwd_ok (k : Blk) (n : Nat) (v : Blk) (h : v.ok) : (fwd k n v).ok := by
  induction n with
  | zero => exact h
  | succ n ih => exact rnd_ok k n _ ih
theorem lastA_lt (k : Blk) (i : Nat) (v : Blk) : lastA k i v < 4294967296 := Nat.mod_lt _ (by decide)
theorem lastB_lt (v : Blk) (h : v.ok) : lastB v < 4294967296 := xor_lt32 (rl20_lt _ h.1) h.2.1
theorem lastC_lt (v : Blk) : lastC v < 4294967296 := Nat.mod_lt _ (by decide)
theorem lastD_lt (v : Blk) (h : v.ok) : lastD v < 4294967296 := xor_lt32 (rl16_lt _ h.2.2.1) h.2.2.2
theorem unrnd_ok (k : Blk) (i : Nat) (v : Blk) (h : v.ok) : (unrnd k i v).ok := ⟨lastA_lt k i v, lastB_lt v h, lastC_lt v, lastD_lt v h⟩
theorem bwd_ok (k : Blk) (n : Nat) (v : Blk) (h : v.ok) : (bwd k n v).ok := by
  induction n with
  | zero => exact h
  | succ n ih => exact unrnd_ok k _ _ ih

theorem unrnd_rnd (k : Blk) (i : Nat) (v : Blk) (h : v.ok) : unrnd k i (rnd k i v) = v := by
  have hb : lastB (rnd k i v) = v.b := by
    show rl (rl (v.b ^^^ nextC k i v) 12) 20 ^^^ nextC k i v = v.b
    rw [rl12_20 _ (xor_lt32 h.2.1 (nextC_lt k i v)), xor_twice]
  have hc : lastC (rnd k i v) = v.c := by
    show (nextC k i v + (4294967296 - nextD k i v)) % 4294967296 = v.c
    have h1 := nextD_lt k i v h
    have h2 := h.2.2.1
    unfold nextC
    omega
  have hd : lastD (rnd k i v) = v.d := by
    show rl (rl (v.d ^^^ nextA k i v) 16) 16 ^^^ nextA k i v = v.d
    rw [rl16_16 _ (xor_lt32 h.2.2.2 (nextA_lt k i v)), xor_twice]
  have ha : lastA k i (rnd k i v) = v.a := by
    unfold lastA
    rw [hb]
    show (nextA k i v + (4294967296 - (v.b + added k i) % 4294967296)) % 4294967296 = v.a
    have h1 := h.1
    unfold nextA
    omega
  cases v
  simp only [unrnd, hb, hc, hd, ha]
theorem rnd_unrnd (k : Blk) (i : Nat) (v : Blk) (h : v.ok) : rnd k i (unrnd k i v) = v := by
  have ha : nextA k i (unrnd k i v) = v.d := by
    show (lastA k i v + lastB v + added k i) % 4294967296 = v.d
    have h1 := h.2.2.2
    unfold lastA
    omega
  have hd : nextD k i (unrnd k i v) = v.c := by
    unfold nextD
    rw [ha]
    show rl ((rl v.c 16 ^^^ v.d) ^^^ v.d) 16 = v.c
    rw [xor_twice, rl16_16 _ h.2.2.1]
  have hc : nextC k i (unrnd k i v) = v.b := by
    unfold nextC
    rw [hd]
    show ((v.b + (4294967296 - v.c)) % 4294967296 + v.c) % 4294967296 = v.b
    have h1 := h.2.1
    have h2 := h.2.2.1
    omega
  have hb : nextB k i (unrnd k i v) = v.a := by
    unfold nextB
    rw [hc]
    show rl ((rl v.a 20 ^^^ v.b) ^^^ v.b) 12 = v.a
    rw [xor_twice, rl20_12 _ h.1]
  cases v
  simp only [rnd, hb, hc, hd, ha]
theorem fwd_bwd_step (k : Blk) (n : Nat) : ∀ v : Blk, v.ok → n ≤ 12 → bwd k n (fwd k 12 v) = fwd k (12 - n) v := by
  induction n with
  | zero => intro v h hn; rfl
  | succ n ih =>
    intro v h hn
    rw [bwd, ih v h (by omega), show 12 - n = (11 - n) + 1 by omega, fwd, unrnd_rnd _ _ _ (fwd_ok k _ v h), show 12 - (n + 1) = 11 - n by omega]
theorem bwd_fwd (k : Blk) (v : Blk) (h : v.ok) : bwd k 12 (fwd k 12 v) = v := fwd_bwd_step k 12 v h (Nat.le_refl _)
theorem bwd_fwd_step (k : Blk) (n : Nat) : ∀ v : Blk, v.ok → n ≤ 12 → fwd k n (bwd k 12 v) = bwd k (12 - n) v := by
  induction n with
  | zero => intro v h hn; rfl
  | succ n ih =>
    intro v h hn
    rw [fwd, ih v h (by omega), show 12 - n = (11 - n) + 1 by omega, bwd, show 11 - (11 - n) = n by omega, rnd_unrnd _ _ _ (bwd_ok k _ v h), show 12 - (n + 1) = 11 - n by omega]
theorem fwd_bwd (k : Blk) (v : Blk) (h : v.ok) : fwd k 12 (bwd k 12 v) = v := bwd_fwd_step k 12 v h (Nat.le_refl _)

/-- the text of a block -/
def blkL (v : Blk) : List Int := bigL v.a 4 ++ (bigL v.b 4 ++ (bigL v.c 4 ++ bigL v.d 4))
/-- four bytes of a text as a word -/
def wordAt (l : List UInt8) (j : Nat) : Nat := valN ((l.drop (4 * j)).take 4)
/-- the block of a text -/
def blkOf (l : List UInt8) : Blk := ⟨wordAt l 0, wordAt l 1, wordAt l 2, wordAt l 3⟩
def blkS (v : Blk) : ByteArray := strOfNums (blkL v)

theorem wordAt_lt (l : List UInt8) (j : Nat) : wordAt l j < 4294967296 := by
  have h := valN_lt ((l.drop (4 * j)).take 4)
  have h2 : 256 ^ ((l.drop (4 * j)).take 4).length ≤ 256 ^ 4 := Nat.pow_le_pow_right (by omega) (by simp; omega)
  unfold wordAt
  omega
theorem blkOf_ok (l : List UInt8) : (blkOf l).ok := ⟨wordAt_lt l 0, wordAt_lt l 1, wordAt_lt l 2, wordAt_lt l 3⟩
theorem blkL_length (v : Blk) : (blkL v).length = 16 := by simp [blkL, bigL_length]
theorem blkS_size (v : Blk) : (blkS v).size = 16 := by rw [blkS, strOfNums_size, blkL_length]

theorem val4 (b0 b1 b2 b3 : UInt8) : valN [b0, b1, b2, b3] = ((b0.toNat * 256 + b1.toNat) * 256 + b2.toNat) * 256 + b3.toNat := by
  simp [valN]
theorem u8_of (n : Nat) : (UInt8.ofNat (((n % 256 : Nat) : Int)).toNat).toNat = n % 256 := by
  rw [Int.toNat_natCast, UInt8.toNat_ofNat']
  omega
theorem list16 (l : List UInt8) (h : l.length = 16) : ∃ x0 x1 x2 x3 x4 x5 x6 x7 x8 x9 xa xb xc xd xe xf, l = [x0, x1, x2, x3, x4, x5, x6, x7, x8, x9, xa, xb, xc, xd, xe, xf] := by
  match l, h with
  | [x0, x1, x2, x3, x4, x5, x6, x7, x8, x9, xa, xb, xc, xd, xe, xf], _ => exact ⟨_, _, _, _, _, _, _, _, _, _, _, _, _, _, _, _, rfl⟩
theorem u8_back (b : UInt8) (n : Nat) (h : n % 256 = b.toNat) : UInt8.ofNat (((n % 256 : Nat) : Int)).toNat = b := by
  apply UInt8.toNat_inj.1
  rw [u8_of, h]
theorem val_four (v : Nat) (h : v < 4294967296) : ((v / 256 ^ 3 % 256 * 256 + v / 256 ^ 2 % 256) * 256 + v / 256 ^ 1 % 256) * 256 + v / 256 ^ 0 % 256 = v := by omega
theorem blkOf_blkS (v : Blk) (h : v.ok) : blkOf (blkS v).data.toList = v := by
  obtain ⟨h1, h2, h3, h4⟩ := h
  cases v with | mk a b c d =>
  simp only at h1 h2 h3 h4
  simp only [blkOf, blkS, blkL, strOfNums_data, wordAt, bigL, List.map_cons, List.map_nil, List.cons_append, List.nil_append, Nat.mul_zero, List.drop_zero, List.take_succ_cons, List.take_zero, Nat.reduceMul, List.drop_succ_cons, val4, u8_of]
  rw [val_four a h1, val_four b h2, val_four c h3, val_four d h4]
theorem big_four (b0 b1 b2 b3 : UInt8) : (bigL (valN [b0, b1, b2, b3]) 4).map (fun z => UInt8.ofNat z.toNat) = [b0, b1, b2, b3] := by
  rw [val4]
  have e0 := b0.toNat_lt
  have e1 := b1.toNat_lt
  have e2 := b2.toNat_lt
  have e3 := b3.toNat_lt
  simp only [bigL, List.map_cons, List.map_nil]
  rw [u8_back b0 _ (by omega), u8_back b1 _ (by omega), u8_back b2 _ (by omega), u8_back b3 _ (by omega)]
theorem blkS_blkOf (s : ByteArray) (h : s.size = 16) : blkS (blkOf s.data.toList) = s := by
  obtain ⟨x0, x1, x2, x3, x4, x5, x6, x7, x8, x9, xa, xb, xc, xd, xe, xf, hl⟩ := list16 s.data.toList (by simpa using h)
  apply ByteArray.ext
  apply Array.toList_inj.1
  rw [hl]
  simp only [blkS, blkL, strOfNums_data, List.map_append, blkOf, wordAt, Nat.mul_zero, List.drop_zero, List.take_succ_cons, List.take_zero, Nat.reduceMul, List.drop_succ_cons, big_four, List.cons_append, List.nil_append]

/-- a block stirred by a key; and the way back -/
def turnS (k s : ByteArray) : ByteArray := blkS (fwd (blkOf k.data.toList) 12 (blkOf s.data.toList))
def backS (k s : ByteArray) : ByteArray := blkS (bwd (blkOf k.data.toList) 12 (blkOf s.data.toList))
theorem turnS_size (k s : ByteArray) : (turnS k s).size = 16 := blkS_size _
theorem backS_size (k s : ByteArray) : (backS k s).size = 16 := blkS_size _
theorem turn_back (k s : ByteArray) (h : s.size = 16) : turnS k (backS k s) = s := by
  unfold turnS backS
  rw [blkOf_blkS _ (bwd_ok _ _ _ (blkOf_ok _)), fwd_bwd _ _ (blkOf_ok _), blkS_blkOf s h]
theorem back_turn (k s : ByteArray) (h : s.size = 16) : backS k (turnS k s) = s := by
  unfold turnS backS
  rw [blkOf_blkS _ (fwd_ok _ _ _ (blkOf_ok _)), bwd_fwd _ _ (blkOf_ok _), blkS_blkOf s h]
theorem turn_inj (k a b : ByteArray) (ha : a.size = 16) (hb : b.size = 16) : turnS k a = turnS k b ↔ a = b :=
  ⟨fun e => by rw [← back_turn k a ha, e, back_turn k b hb], fun e => by rw [e]⟩
end Go.Proofs.Ytolicaaifhfhcaa
namespace Go.Proofs.Ytolicaaifhfhcaa
open Go.RowKit
set_option linter.unusedVariables false

def zeroB : Blk := ⟨0, 0, 0, 0⟩
theorem zeroB_ok : zeroB.ok := by unfold zeroB Blk.ok; decide
def xorB (u v : Blk) : Blk := ⟨u.a ^^^ v.a, u.b ^^^ v.b, u.c ^^^ v.c, u.d ^^^ v.d⟩
theorem xorB_ok {u v : Blk} (h : u.ok) (k : v.ok) : (xorB u v).ok := ⟨xor_lt32 h.1 k.1, xor_lt32 h.2.1 k.2.1, xor_lt32 h.2.2.1 k.2.2.1, xor_lt32 h.2.2.2 k.2.2.2⟩
/-- h becomes Turn(piece, h) exclusive-or h -/
def foldStep (h p : Blk) : Blk := xorB (fwd p 12 h) h
theorem foldStep_ok {h : Blk} (hk : h.ok) (p : Blk) : (foldStep h p).ok := xorB_ok (fwd_ok p 12 h hk) hk
def piece (l : List UInt8) (i : Nat) : List UInt8 := (l.drop (16 * i)).take 16
/-- behind so many pieces of a text -/
def foldN (l : List UInt8) : Nat → Blk
  | 0 => zeroB
  | k + 1 => foldStep (foldN l k) (blkOf (piece l k))
theorem foldN_ok (l : List UInt8) (k : Nat) : (foldN l k).ok := by
  induction k with
  | zero => exact zeroB_ok
  | succ k ih => exact foldStep_ok ih _

/-- bytes of numbers -/
def bytesOf (xs : List Int) : List UInt8 := xs.map fun z => UInt8.ofNat z.toNat
/-- what stands behind a text of n bytes -/
def fillN (n : Nat) : Nat := 15 - n % 16
def padded (l : List UInt8) : List UInt8 := l ++ (128 :: (List.replicate (fillN l.length) 0 ++ (List.replicate 8 0 ++ bytesOf (bigL l.length 8))))
theorem padded_length (l : List UInt8) : (padded l).length = 16 * (l.length / 16 + 2) := by
  simp only [padded, List.length_append, List.length_cons, List.length_replicate, bytesOf, List.length_map, bigL_length, fillN]
  omega
/-- the fold of a text -/
def foldB (l : List UInt8) : Blk := foldN (padded l) (l.length / 16 + 2)
def foldS (s : ByteArray) : ByteArray := blkS (foldB s.data.toList)
theorem foldS_size (s : ByteArray) : (foldS s).size = 16 := blkS_size _
theorem foldB_ok (l : List UInt8) : (foldB l).ok := foldN_ok _ _

theorem piece_same (l r : List UInt8) (i : Nat) (h : 16 * (i + 1) ≤ l.length) : piece (l ++ r) i = piece l i := by
  unfold piece
  rw [List.drop_append_of_le_length (by omega), List.take_append_of_le_length (by simp; omega)]
theorem foldN_same (l r : List UInt8) (k : Nat) (h : 16 * k ≤ l.length) : foldN (l ++ r) k = foldN l k := by
  induction k with
  | zero => rfl
  | succ k ih => rw [foldN, foldN, ih (by omega), piece_same l r k (by omega)]
/-- the piece that the text ends in -/
def lastPiece (l : List UInt8) : List UInt8 := l.drop (16 * (l.length / 16)) ++ 128 :: List.replicate (fillN l.length) 0
theorem lastPiece_length (l : List UInt8) : (lastPiece l).length = 16 := by
  simp only [lastPiece, List.length_append, List.length_drop, List.length_cons, List.length_replicate, fillN]
  omega
theorem padded_split (l : List UInt8) : padded l = (l ++ 128 :: List.replicate (fillN l.length) 0) ++ (List.replicate 8 0 ++ bytesOf (bigL l.length 8)) := by
  simp [padded]
theorem piece_last (l : List UInt8) : piece (padded l) (l.length / 16) = lastPiece l := by
  rw [padded_split, piece_same _ _ _ (by simp only [List.length_append, List.length_cons, List.length_replicate, fillN]; omega)]
  unfold piece
  rw [List.drop_append_of_le_length (by omega)]
  exact List.take_of_length_le (Nat.le_of_eq (lastPiece_length l))
theorem piece_size (l : List UInt8) : piece (padded l) (l.length / 16 + 1) = List.replicate 8 0 ++ bytesOf (bigL l.length 8) := by
  rw [padded_split]
  unfold piece
  rw [List.drop_append_of_le_length (by simp only [List.length_append, List.length_cons, List.length_replicate, fillN]; omega), List.drop_of_length_le (by simp only [List.length_append, List.length_cons, List.length_replicate, fillN]; omega), List.nil_append]
  exact List.take_of_length_le (by simp [bytesOf, bigL_length])
theorem blkOf_size (n : Nat) (h : n < 18446744073709551616) : blkOf (List.replicate 8 0 ++ bytesOf (bigL n 8)) = ⟨0, 0, n / 4294967296, n % 4294967296⟩ := by
  simp only [List.replicate_succ, List.replicate_zero, blkOf, wordAt, bytesOf, bigL, List.map_cons, List.map_nil, List.cons_append, List.nil_append, Nat.mul_zero, List.drop_zero, List.take_succ_cons, List.take_zero, Nat.reduceMul, List.drop_succ_cons, val4, u8_of]
  congr 1
  · omega
  · omega
/-- the fold as the program makes it -/
theorem foldB_eq (l : List UInt8) (h : l.length < 18446744073709551616) : foldB l = foldStep (foldStep (foldN l (l.length / 16)) (blkOf (lastPiece l))) ⟨0, 0, l.length / 4294967296, l.length % 4294967296⟩ := by
  unfold foldB
  rw [show l.length / 16 + 2 = (l.length / 16 + 1) + 1 by omega, foldN, foldN, piece_last, piece_size, blkOf_size _ h]
  congr 2
  exact foldN_same _ _ _ (by omega)
end Go.Proofs.Ytolicaaifhfhcaa
