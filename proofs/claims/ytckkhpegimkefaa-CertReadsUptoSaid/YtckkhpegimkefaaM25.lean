/- sub of the big numbers. -/
import Derived.Test.YtckkhpegimkefaaM24
namespace Go.Proofs.Ytckkhpegimkefaa
open Go.RowKit
set_option linter.unusedVariables false

theorem wrap_u64_mod (n : Int) : IntKind.u64.wrap n = n % 18446744073709551616 := by simp [IntKind.wrap, IntKind.bits, IntKind.signed]
theorem u64_nat (n : Int) : ∃ s : Nat, (s : Int) = n % 18446744073709551616 ∧ IntKind.u64.wrap n = (s : Int) := by
  refine ⟨(n % 18446744073709551616).toNat, Int.toNat_of_nonneg (Int.emod_nonneg _ (by decide)), ?_⟩
  rw [wrap_u64_mod, Int.toNat_of_nonneg (Int.emod_nonneg _ (by decide))]
theorem sub_step {R xs ys : List Nat} {cn k av bv r c' : Nat} (hRv : natV R + natV (ys.take k) = natV (xs.take k) + cn * B32 ^ k) (hRl : R.length = k) (ha : xs[k]? = some av) (hb : ys[k]? = some bv ∨ (bv = 0 ∧ ys.length ≤ k)) (hs : r + bv + cn = av + c' * 4294967296) :
    natV (R ++ [r]) + natV (ys.take (k + 1)) = natV (xs.take (k + 1)) + c' * B32 ^ (k + 1) := by
  rw [natV_append, hRl, natV_take_succ xs k av ha]
  have hbt : natV (ys.take (k + 1)) = natV (ys.take k) + bv * B32 ^ k := by
    rcases hb with hb | ⟨rfl, hl⟩
    · exact natV_take_succ ys k bv hb
    · rw [List.take_of_length_le (by omega), List.take_of_length_le (by omega)]; simp
  rw [hbt, Nat.pow_succ]
  simp only [natV, Nat.mul_zero, Nat.add_zero]
  have hs' : r + bv + cn = av + c' * B32 := hs
  have h1 : r * B32 ^ k + bv * B32 ^ k + cn * B32 ^ k = av * B32 ^ k + c' * B32 * B32 ^ k := by
    rw [← Nat.add_mul, ← Nat.add_mul, ← Nat.add_mul, hs']
  have h2 : c' * B32 * B32 ^ k = c' * (B32 ^ k * B32) := by grind
  have h3 : B32 ^ k * r = r * B32 ^ k := Nat.mul_comm _ _
  omega
theorem sub_end {R xs ys : List Nat} {cn : Nat} (hRv : natV R + natV ys = natV xs + cn * B32 ^ xs.length) (hRl : R.length = xs.length) (hok : okV R) (hle : natV ys ≤ natV xs) : natV R = natV xs - natV ys := by
  have h1 := natV_lt hok
  rw [hRl] at h1
  rcases Nat.eq_zero_or_pos cn with h0 | h0
  · rw [h0, Nat.zero_mul] at hRv; omega
  · have := Nat.le_mul_of_pos_left (B32 ^ xs.length) h0
    omega
set_option maxHeartbeats 8000000 in
set_option maxRecDepth 100000 in
theorem sub_rows (xs ys : List Nat) (ao bo : Option Addr) (ca cb : Nat) (w : World) (ha : WRow w ao xs) (hb : WRow w bo ys) (oka : okV xs) (okb : okV ys) (hla : (xs.length : Int) ≤ 10000) (hle : ys.length ≤ xs.length) (hge : natV ys ≤ natV xs) (hx0 : xs ≠ []) :
    Calls Try.prog 58 #[.slice ao xs.length ca, .slice bo ys.length cb] w fun e w' => (∃ v, e = .returned v ∧ BigV w' v (natV xs - natV ys)) ∧ Below w.heap.size w w' := by
  have HA := hide ha; have HB := hide hb
  clear ha hb
  obtain ⟨i0, hi, hz0, hz1, hz2⟩ := info_partsV infoU32
  go_enter Try.func58, Try.ntmps58
  go_wp2_with (at_make; refine wpList_make_full _ rfl _ _ 58 rfl w.heap.size 83 i0 (.int .u32 0) 1 Try.underlying58 hi hz0 hz1 .i64 .i64 _ _ xs.length rfl rfl (by simp) (by simp) (by rw [hz2]; omega) (by unfold maxLen; omega) (Nat.le_refl _) ?_)
  intro w1 hown hgrow
  have hU := made_vrow hown
  have hb : Below w.heap.size w w1 := (Below.refl _ _).grown hgrow (Nat.le_refl _) (fun q hq => by cases hq)
  clear hown hgrow hi hz0 hz1 hz2
  go_wp2
  go_loopw [6, 7] (fun c i wr => ∃ (k cn : Nat) (R : List Nat), k ≤ xs.length ∧ i = .int .i64 k ∧ c = .int .u64 cn ∧ cn ≤ 1 ∧ VRow wr w.heap.size (R ++ List.replicate (xs.length - k) 0) ∧ R.length = k ∧ okV R ∧ natV R + natV (ys.take k) = natV (xs.take k) + cn * B32 ^ k ∧ Below w.heap.size w wr) (fun _ i _ => xs.length - (intOf i).toNat)
  case atStart => exact ⟨0, 0, [], Nat.zero_le _, rfl, rfl, by omega, hU, rfl, okV_nil, by simp [natV], hb⟩
  case round =>
    clear hU hb
    obtain ⟨k, cn, R, hk, rfl, rfl, hcn, hU, hRl, hRok, hRv, hbel⟩ := hrel
    by_cases hlt : k < xs.length
    · obtain ⟨av, hav⟩ : ∃ x, xs[k]? = some x := ⟨_, List.getElem?_eq_getElem hlt⟩
      have havb : av < 4294967296 := okV_get oka hav
      rcases (unhide HA) with hnil | ⟨ga, oa, rfl, hga, hca⟩
      · rw [hnil] at hlt; simp at hlt
      have d0 : wr.cell? ⟨ga, oa + k, none⟩ = some (.int .u32 (av : Nat)) := (hbel.cell (p := ⟨ga, oa + k, none⟩) hga).trans (hca k av hav)
      have hrep : List.replicate (xs.length - k) 0 = 0 :: List.replicate (xs.length - (k + 1)) 0 := by
        rw [show xs.length - k = (xs.length - (k + 1)) + 1 by omega]; rfl
      rw [hrep] at hU
      have hfr := hU.frozen k
      have hcell := hU.cell k 0 (by rw [List.getElem?_append_right (by omega)]; simp [hRl])
      have hset : ∀ x : Nat, (R ++ 0 :: List.replicate (xs.length - (k + 1)) 0).set k x = (R ++ [x]) ++ List.replicate (xs.length - (k + 1)) 0 := fun x => by
        rw [List.set_append_right _ _ (by omega)]
        simp [hRl]
      have hkA : (k : Int) < (xs.length : Int) := by omega
      have wa' : IntKind.u64.wrap (av : Int) = (av : Int) := wraps_u64 _ (by omega) (by omega)
      obtain ⟨s1, hs1, w1'⟩ := u64_nat ((av : Int) - (cn : Int))
      by_cases hltb : k < ys.length
      · obtain ⟨bv, hbv⟩ : ∃ x, ys[k]? = some x := ⟨_, List.getElem?_eq_getElem hltb⟩
        have hbvb : bv < 4294967296 := okV_get okb hbv
        rcases (unhide HB) with hnil | ⟨gb, ob, rfl, hgb, hcb⟩
        · rw [hnil] at hltb; simp at hltb
        have d1 : wr.cell? ⟨gb, ob + k, none⟩ = some (.int .u32 (bv : Nat)) := (hbel.cell (p := ⟨gb, ob + k, none⟩) hgb).trans (hcb k bv hbv)
        have hkB : (k : Int) < (ys.length : Int) := by omega
        have wb' : IntKind.u64.wrap (bv : Int) = (bv : Int) := wraps_u64 _ (by omega) (by omega)
        obtain ⟨s2, hs2, w2'⟩ := u64_nat ((s1 : Int) - (bv : Int))
        obtain ⟨r, hr⟩ : ∃ r, r = s2 % 4294967296 := ⟨_, rfl⟩
        obtain ⟨c', hc'⟩ : ∃ r, r = s2 / 9223372036854775808 := ⟨_, rfl⟩
        have hsum := sub_step hRv hRl hav (.inl hbv) (show r + bv + cn = av + c' * 4294967296 by omega)
        have w3' : (s2 : Int) % 4294967296 = (r : Int) := by omega
        have w4' : (s2 : Int) / 9223372036854775808 = (c' : Int) := by omega
        have hc1 : c' ≤ 1 := by omega
        have hrb : r < B32 := by show r < 4294967296; omega
        have HV := hide (hU.set k r); have HBE := hide (hbel.setCell (p := ⟨w.heap.size, k, none⟩) (Nat.le_refl _) (.int .u32 (r : Nat)))
        have HSET := hide (hset r); have HSUM := hide hsum; have HRO := hide (okV_snoc hRok hrb)
        clear hca hcb hav hbv havb hbvb hs1 hs2 hr hc' hsum hU hbel hset hrep hRv hrb
        go_wp2
        go_roundw
        case rel => exact ⟨k + 1, c', R ++ [r], by omega, by go_num, rfl, hc1, by rw [← unhide HSET]; exact unhide HV, by simp [hRl], unhide HRO, unhide HSUM, unhide HBE⟩
        case measure => simp [intOf]; omega
      · obtain ⟨r, hr⟩ : ∃ r, r = s1 % 4294967296 := ⟨_, rfl⟩
        obtain ⟨c', hc'⟩ : ∃ r, r = s1 / 9223372036854775808 := ⟨_, rfl⟩
        have hsum := sub_step (bv := 0) hRv hRl hav (.inr ⟨rfl, by omega⟩) (show r + 0 + cn = av + c' * 4294967296 by omega)
        have w3' : (s1 : Int) % 4294967296 = (r : Int) := by omega
        have w4' : (s1 : Int) / 9223372036854775808 = (c' : Int) := by omega
        have hkB : ¬ (k : Int) < (ys.length : Int) := by omega
        have hc1 : c' ≤ 1 := by omega
        have hrb : r < B32 := by show r < 4294967296; omega
        have HV := hide (hU.set k r); have HBE := hide (hbel.setCell (p := ⟨w.heap.size, k, none⟩) (Nat.le_refl _) (.int .u32 (r : Nat)))
        have HSET := hide (hset r); have HSUM := hide hsum; have HRO := hide (okV_snoc hRok hrb)
        clear hca hav havb hs1 hr hc' hsum hU hbel hset hrep hRv hrb
        go_wp2
        go_roundw
        case rel => exact ⟨k + 1, c', R ++ [r], by omega, by go_num, rfl, hc1, by rw [← unhide HSET]; exact unhide HV, by simp [hRl], unhide HRO, unhide HSUM, unhide HBE⟩
        case measure => simp [intOf]; omega
    · have hkx : k = xs.length := by omega
      rw [hkx, List.take_length, List.take_of_length_le hle] at hRv
      rw [hkx, Nat.sub_self, List.replicate_zero, List.append_nil] at hU
      have hnv := sub_end hRv (by omega) hRok hge
      have n1 := trim_any R w.heap.size 0 xs.length _ hU.wrow hRok (by omega) (by omega) (by omega)
      have hwd := wrow_dig hU.wrow hRok
      rw [hnv] at n1 hwd
      rw [show R.length = xs.length by omega] at n1
      have hkd : ¬ (k : Int) < (xs.length : Int) := by omega
      have N1 := hide n1; have HWD := hide hwd; have HBE := hide hbel
      clear n1 hwd hU hnv hRv hbel hkx
      go_wp2_with fail
      refine (unhide N1).mono ?_
      rintro e w2 ⟨rfl, rfl⟩
      go_wp2
      go_ret
      exact ⟨⟨_, rfl, _, _, rfl, unhide HWD⟩, unhide HBE⟩
end Go.Proofs.Ytckkhpegimkefaa
namespace Go.Proofs.Ytckkhpegimkefaa
open Go.RowKit
set_option linter.unusedVariables false

def ordI (a b : Nat) : Int := if a < b then -1 else if b < a then 1 else 0
theorem natV_at (l : List Nat) (j x : Nat) (h : l[j]? = some x) : natV l = natV (l.take j) + x * B32 ^ j + B32 ^ (j + 1) * natV (l.drop (j + 1)) := by
  have hj : j < l.length := (List.getElem?_eq_some_iff.1 h).1
  have e := natV_take_succ l j x h
  conv => lhs; rw [← List.take_append_drop (j + 1) l]
  rw [natV_append, e, List.length_take, Nat.min_eq_left (by omega)]
theorem lt_top {xs ys : List Nat} {j x y : Nat} (ha : okV xs) (hx : xs[j]? = some x) (hy : ys[j]? = some y) (hd : xs.drop (j + 1) = ys.drop (j + 1)) (hlt : x < y) : natV xs < natV ys := by
  have hj : j < xs.length := (List.getElem?_eq_some_iff.1 hx).1
  have h1 := natV_lt (okV_take ha j)
  rw [List.length_take, Nat.min_eq_left (by omega)] at h1
  rw [natV_at xs j x hx, natV_at ys j y hy, hd]
  have h2 : (x + 1) * B32 ^ j ≤ y * B32 ^ j := Nat.mul_le_mul_right _ hlt
  rw [Nat.add_mul, Nat.one_mul] at h2
  omega
theorem dig_ge {n : Nat} (h : n ≠ 0) : B32 ^ ((dig n).length - 1) ≤ n := by
  obtain ⟨x, hx, hx0⟩ := dig_last h
  rw [List.getLast?_eq_getElem?] at hx
  have e := natV_at (dig n) _ x hx
  rw [natV_dig] at e
  have h1 : B32 ^ ((dig n).length - 1) ≤ x * B32 ^ ((dig n).length - 1) := Nat.le_mul_of_pos_left _ (by omega)
  omega
theorem len_lt {a b : Nat} (h : (dig a).length < (dig b).length) : a < b := by
  have hb : b ≠ 0 := fun e => by subst e; rw [dig_zero] at h; simp at h
  have h1 := dig_ge hb
  have h2 := lt_dig a
  have h3 : B32 ^ (dig a).length ≤ B32 ^ ((dig b).length - 1) := Nat.pow_le_pow_right B32_pos (by omega)
  omega
theorem len_le {a b : Nat} (h : a ≤ b) : (dig a).length ≤ (dig b).length := by
  rcases Nat.lt_or_ge (dig b).length (dig a).length with h1 | h1
  · have := len_lt h1; omega
  · exact h1
set_option maxHeartbeats 4000000 in
set_option maxRecDepth 100000 in
theorem cmp_rows (xs ys : List Nat) (ao bo : Option Addr) (ca cb : Nat) (w : World) (ha : WRow w ao xs) (hb : WRow w bo ys) (oka : okV xs) (okb : okV ys) (hla : (xs.length : Int) ≤ 10000) (hlb : (ys.length : Int) ≤ 10000) (hlt0 : xs.length < ys.length → natV xs < natV ys) (hgt0 : ys.length < xs.length → natV ys < natV xs) :
    Calls Try.prog 52 #[.slice ao xs.length ca, .slice bo ys.length cb] w fun e w' => e = .returned (.int .i64 (ordI (natV xs) (natV ys))) ∧ Below w.heap.size w w' := by
  have HA := hide ha; have HB := hide hb
  clear ha hb
  by_cases hlen : xs.length = ys.length
  case neg =>
    have hne : ((xs.length : Int) != (ys.length : Int)) = true := by simp; omega
    by_cases hl : xs.length < ys.length
    · have HE : Hid (ordI (natV xs) (natV ys) = -1) := hide (by rw [ordI, if_pos (hlt0 hl)])
      have hlI : (xs.length : Int) < (ys.length : Int) := by omega
      clear hlt0 hgt0 hlen hl
      go_enter Try.func52, Try.ntmps52
      go_wp2
      go_ret
      exact ⟨ret_int (unhide HE).symm, Below.refl _ _⟩
    · have hg := hgt0 (by omega)
      have HE : Hid (ordI (natV xs) (natV ys) = 1) := hide (by rw [ordI, if_neg (by omega), if_pos hg])
      have hlI : ¬ (xs.length : Int) < (ys.length : Int) := by omega
      clear hlt0 hgt0 hlen hl hg
      go_enter Try.func52, Try.ntmps52
      go_wp2
      go_ret
      exact ⟨ret_int (unhide HE).symm, Below.refl _ _⟩
  have hne : ((xs.length : Int) != (ys.length : Int)) = false := by simp; omega
  have hw1 : IntKind.i64.wrap ((xs.length : Int) - 1) = (xs.length : Int) - 1 := by rw [IntKind.wrap_i64]; omega
  have hle : ys.length ≤ xs.length := by omega
  have hle2 : xs.length ≤ ys.length := by omega
  clear hlt0 hgt0 hlen
  go_enter Try.func52, Try.ntmps52
  go_wp2
  go_loopw [5] (fun r wr => ∃ i : Nat, i ≤ xs.length ∧ r = .int .i64 ((i : Int) - 1) ∧ Hid (xs.drop i = ys.drop i) ∧ ∃ q, wr = w.drewN q) (fun r _ => (intOf r + 1).toNat)
  case atStart => exact ⟨xs.length, Nat.le_refl _, by first | rfl | go_num, hide (by rw [List.drop_of_length_le (Nat.le_refl _), List.drop_of_length_le hle]), 0, rfl⟩
  case round =>
    obtain ⟨i, hi, rfl, HD, q, rfl⟩ := hrel
    by_cases h0 : i = 0
    · subst h0
      have HE : Hid (ordI (natV xs) (natV ys) = 0) := hide (by
        have := unhide HD
        simp only [List.drop_zero] at this
        rw [this, ordI, if_neg (Nat.lt_irrefl _), if_neg (Nat.lt_irrefl _)])
      go_wp2
      go_ret
      exact ⟨ret_int (unhide HE).symm, below_drewN (Below.refl _ _) _⟩
    · obtain ⟨j, rfl⟩ : ∃ j, i = j + 1 := ⟨i - 1, by omega⟩
      have ej : ((j + 1 : Nat) : Int) - 1 = (j : Int) := by omega
      rw [ej]
      obtain ⟨x, hx⟩ : ∃ x, xs[j]? = some x := ⟨_, List.getElem?_eq_getElem (by omega)⟩
      obtain ⟨y, hy⟩ : ∃ x, ys[j]? = some x := ⟨_, List.getElem?_eq_getElem (by omega)⟩
      rcases (unhide HA) with hnil | ⟨ga, oa, rfl, hga, hca⟩
      · rw [hnil] at hx; simp at hx
      rcases (unhide HB) with hnil | ⟨gb, ob, rfl, hgb, hcb⟩
      · rw [hnil] at hy; simp at hy
      have c0 := hca j x hx
      have c1 := hcb j y hy
      have hji : (j : Int) < (xs.length : Int) := by omega
      have hji2 : (j : Int) < (ys.length : Int) := by omega
      have hnx : IntKind.i64.wrap ((j : Int) - 1) = (j : Int) - 1 := by rw [IntKind.wrap_i64]; omega
      have hj0 : (0 : Int) ≤ (j : Int) := by omega
      by_cases hxy : x = y
      · subst hxy
        have HD2 : Hid (xs.drop j = ys.drop j) := hide (by
          obtain ⟨h1, e1⟩ := List.getElem?_eq_some_iff.1 hx
          obtain ⟨h2, e2⟩ := List.getElem?_eq_some_iff.1 hy
          rw [List.drop_eq_getElem_cons h1, List.drop_eq_getElem_cons h2, e1, e2, unhide HD])
        have hbn : ((x : Int) != (x : Int)) = false := by simp
        clear hca hcb hx hy ej h0
        go_wp2_with fail
        go_quiet (fail)
        go_wp2
        go_roundw
        case rel => exact ⟨j, by omega, by go_num, HD2, _, rfl⟩
        case measure => simp [intOf] <;> omega
      · have hbn : ((x : Int) != (y : Int)) = true := by simp; omega
        by_cases hl : x < y
        · have HE : Hid (ordI (natV xs) (natV ys) = -1) := hide (by rw [ordI, if_pos (lt_top oka hx hy (unhide HD) hl)])
          have hlI : (x : Int) < (y : Int) := by omega
          clear hca hcb hx hy ej h0 hxy
          go_wp2_with fail
          go_quiet (fail)
          go_wp2_with fail
          go_quiet (fail)
          go_wp2
          go_ret
          exact ⟨ret_int (unhide HE).symm, below_drewN (below_drewN (below_drewN (Below.refl _ _) _) _) _⟩
        · have hg := lt_top okb hy hx (unhide HD).symm (show y < x by omega)
          have HE : Hid (ordI (natV xs) (natV ys) = 1) := hide (by rw [ordI, if_neg (by omega), if_pos hg])
          have hlI : ¬ (x : Int) < (y : Int) := by omega
          clear hca hcb hx hy ej h0 hxy hg
          go_wp2_with fail
          go_quiet (fail)
          go_wp2_with fail
          go_quiet (fail)
          go_wp2
          go_ret
          exact ⟨ret_int (unhide HE).symm, below_drewN (below_drewN (below_drewN (Below.refl _ _) _) _) _⟩
end Go.Proofs.Ytckkhpegimkefaa
