/- sub of the big numbers. -/
import Derived.Test.YtbnpajijbdddiaaBig3
namespace Go.Proofs.Ytbnpajijbdddiaa
open Go.RowKit
set_option linter.unusedVariables false

theorem wrap_u64_mod (n : Int) : IntKind.u64.wrap n = n % 18446744073709551616 := by simp [IntKind.wrap, IntKind.bits, IntKind.signed]
theorem u64_nat (n : Int) : ∃ s : Nat, (s : Int) = n % 18446744073709551616 ∧ IntKind.u64.wrap n = (s : Int) := by
  refine ⟨(n % 18446744073709551616).toNat, Int.toNat_of_nonneg (Int.emod_nonneg _ (by decide)), ?_⟩
  rw [wrap_u64_mod, Int.toNat_of_nonneg (Int.emod_nonneg _ (by decide))]
theorem sub_step {R xs ys : List Nat} {cn k av bv r c' : Nat} (hRv : natV R + natV (ys.take k) = natV (xs.take k) + cn * B32 ^ k) (hRl : R.length = k) (ha : xs[k]? = some av) (hb : ys[k]? = some bv ∨ (bv = 0 ∧ ys.length ≤ k)) (hs : r + bv + cn = av + c' * 4294967296) :
    natV (R ++ [r]) + natV (ys.take (k + 1)) = natV (xs.take (k + 1)) + c' * B32 ^ (k + 1) := by
  rw [natV_append, hRl, natV_take_succ xs k av ha]
  have hbt : natV (ys.take (k + 1)) = natV (ys.take k) + bv * B32 ^ k := by
    rcases hb with hb | ⟨rfl, hl⟩
    · exact natV_take_succ ys k bv hb
    · rw [List.take_of_length_le (by omega), List.take_of_length_le (by omega)]; simp
  rw [hbt, Nat.pow_succ]
  simp only [natV, Nat.mul_zero, Nat.add_zero]
  have hs' : r + bv + cn = av + c' * B32 := hs
  have h1 : r * B32 ^ k + bv * B32 ^ k + cn * B32 ^ k = av * B32 ^ k + c' * B32 * B32 ^ k := by
    rw [← Nat.add_mul, ← Nat.add_mul, ← Nat.add_mul, hs']
  have h2 : c' * B32 * B32 ^ k = c' * (B32 ^ k * B32) := by grind
  have h3 : B32 ^ k * r = r * B32 ^ k := Nat.mul_comm _ _
  omega
theorem sub_end {R xs ys : List Nat} {cn : Nat} (hRv : natV R + natV ys = natV xs + cn * B32 ^ xs.length) (hRl : R.length = xs.length) (hok : okV R) (hle : natV ys ≤ natV xs) : natV R = natV xs - natV ys := by
  have h1 := natV_lt hok
  rw [hRl] at h1
  rcases Nat.eq_zero_or_pos cn with h0 | h0
  · rw [h0, Nat.zero_mul] at hRv; omega
  · have := Nat.le_mul_of_pos_left (B32 ^ xs.length) h0
    omega
set_option maxHeartbeats 8000000 in
set_option maxRecDepth 100000 in
theorem sub_rows (xs ys : List Nat) (ao bo : Option Addr) (ca cb : Nat) (w : World) (ha : WRow w ao xs) (hb : WRow w bo ys) (oka : okV xs) (okb : okV ys) (hla : (xs.length : Int) ≤ 10000) (hle : ys.length ≤ xs.length) (hge : natV ys ≤ natV xs) (hx0 : xs ≠ []) :
    Calls Try.prog 48 #[.slice ao xs.length ca, .slice bo ys.length cb] w fun e w' => (∃ v, e = .returned v ∧ BigV w' v (natV xs - natV ys)) ∧ Below w.heap.size w w' := by
  have HA := hide ha; have HB := hide hb
  clear ha hb
  obtain ⟨i0, hi, hz0, hz1, hz2⟩ := info_partsV infoU32
  go_enter Try.func48, Try.ntmps48
  go_wp2_with (at_make; refine wpList_make_full _ rfl _ _ 58 rfl w.heap.size 79 i0 (.int .u32 0) 1 Try.underlying58 hi hz0 hz1 .i64 .i64 _ _ xs.length rfl rfl (by simp) (by simp) (by rw [hz2]; omega) (by unfold maxLen; omega) (Nat.le_refl _) ?_)
  intro w1 hown hgrow
  have hU := made_vrow hown
  have hb : Below w.heap.size w w1 := (Below.refl _ _).grown hgrow (Nat.le_refl _) (fun q hq => by cases hq)
  clear hown hgrow hi hz0 hz1 hz2
  go_wp2
  go_loopw [6, 7] (fun c i wr => ∃ (k cn : Nat) (R : List Nat), k ≤ xs.length ∧ i = .int .i64 k ∧ c = .int .u64 cn ∧ cn ≤ 1 ∧ VRow wr w.heap.size (R ++ List.replicate (xs.length - k) 0) ∧ R.length = k ∧ okV R ∧ natV R + natV (ys.take k) = natV (xs.take k) + cn * B32 ^ k ∧ Below w.heap.size w wr) (fun _ i _ => xs.length - (intOf i).toNat)
  case atStart => exact ⟨0, 0, [], Nat.zero_le _, rfl, rfl, by omega, hU, rfl, okV_nil, by simp [natV], hb⟩
  case round =>
    clear hU hb
    obtain ⟨k, cn, R, hk, rfl, rfl, hcn, hU, hRl, hRok, hRv, hbel⟩ := hrel
    by_cases hlt : k < xs.length
    · obtain ⟨av, hav⟩ : ∃ x, xs[k]? = some x := ⟨_, List.getElem?_eq_getElem hlt⟩
      have havb : av < 4294967296 := okV_get oka hav
      rcases (unhide HA) with hnil | ⟨ga, oa, rfl, hga, hca⟩
      · rw [hnil] at hlt; simp at hlt
      have d0 : wr.cell? ⟨ga, oa + k, none⟩ = some (.int .u32 (av : Nat)) := (hbel.cell (p := ⟨ga, oa + k, none⟩) hga).trans (hca k av hav)
      have hrep : List.replicate (xs.length - k) 0 = 0 :: List.replicate (xs.length - (k + 1)) 0 := by
        rw [show xs.length - k = (xs.length - (k + 1)) + 1 by omega]; rfl
      rw [hrep] at hU
      have hfr := hU.frozen k
      have hcell := hU.cell k 0 (by rw [List.getElem?_append_right (by omega)]; simp [hRl])
      have hset : ∀ x : Nat, (R ++ 0 :: List.replicate (xs.length - (k + 1)) 0).set k x = (R ++ [x]) ++ List.replicate (xs.length - (k + 1)) 0 := fun x => by
        rw [List.set_append_right _ _ (by omega)]
        simp [hRl]
      have hkA : (k : Int) < (xs.length : Int) := by omega
      have wa' : IntKind.u64.wrap (av : Int) = (av : Int) := wraps_u64 _ (by omega) (by omega)
      obtain ⟨s1, hs1, w1'⟩ := u64_nat ((av : Int) - (cn : Int))
      by_cases hltb : k < ys.length
      · obtain ⟨bv, hbv⟩ : ∃ x, ys[k]? = some x := ⟨_, List.getElem?_eq_getElem hltb⟩
        have hbvb : bv < 4294967296 := okV_get okb hbv
        rcases (unhide HB) with hnil | ⟨gb, ob, rfl, hgb, hcb⟩
        · rw [hnil] at hltb; simp at hltb
        have d1 : wr.cell? ⟨gb, ob + k, none⟩ = some (.int .u32 (bv : Nat)) := (hbel.cell (p := ⟨gb, ob + k, none⟩) hgb).trans (hcb k bv hbv)
        have hkB : (k : Int) < (ys.length : Int) := by omega
        have wb' : IntKind.u64.wrap (bv : Int) = (bv : Int) := wraps_u64 _ (by omega) (by omega)
        obtain ⟨s2, hs2, w2'⟩ := u64_nat ((s1 : Int) - (bv : Int))
        obtain ⟨r, hr⟩ : ∃ r, r = s2 % 4294967296 := ⟨_, rfl⟩
        obtain ⟨c', hc'⟩ : ∃ r, r = s2 / 9223372036854775808 := ⟨_, rfl⟩
        have hsum := sub_step hRv hRl hav (.inl hbv) (show r + bv + cn = av + c' * 4294967296 by omega)
        have w3' : (s2 : Int) % 4294967296 = (r : Int) := by omega
        have w4' : (s2 : Int) / 9223372036854775808 = (c' : Int) := by omega
        have hc1 : c' ≤ 1 := by omega
        have hrb : r < B32 := by show r < 4294967296; omega
        have HV := hide (hU.set k r); have HBE := hide (hbel.setCell (p := ⟨w.heap.size, k, none⟩) (Nat.le_refl _) (.int .u32 (r : Nat)))
        have HSET := hide (hset r); have HSUM := hide hsum; have HRO := hide (okV_snoc hRok hrb)
        clear hca hcb hav hbv havb hbvb hs1 hs2 hr hc' hsum hU hbel hset hrep hRv hrb
        go_wp2
        go_roundw
        case rel => exact ⟨k + 1, c', R ++ [r], by omega, by go_num, rfl, hc1, by rw [← unhide HSET]; exact unhide HV, by simp [hRl], unhide HRO, unhide HSUM, unhide HBE⟩
        case measure => simp [intOf]; omega
      · obtain ⟨r, hr⟩ : ∃ r, r = s1 % 4294967296 := ⟨_, rfl⟩
        obtain ⟨c', hc'⟩ : ∃ r, r = s1 / 9223372036854775808 := ⟨_, rfl⟩
        have hsum := sub_step (bv := 0) hRv hRl hav (.inr ⟨rfl, by omega⟩) (show r + 0 + cn = av + c' * 4294967296 by omega)
        have w3' : (s1 : Int) % 4294967296 = (r : Int) := by omega
        have w4' : (s1 : Int) / 9223372036854775808 = (c' : Int) := by omega
        have hkB : ¬ (k : Int) < (ys.length : Int) := by omega
        have hc1 : c' ≤ 1 := by omega
        have hrb : r < B32 := by show r < 4294967296; omega
        have HV := hide (hU.set k r); have HBE := hide (hbel.setCell (p := ⟨w.heap.size, k, none⟩) (Nat.le_refl _) (.int .u32 (r : Nat)))
        have HSET := hide (hset r); have HSUM := hide hsum; have HRO := hide (okV_snoc hRok hrb)
        clear hca hav havb hs1 hr hc' hsum hU hbel hset hrep hRv hrb
        go_wp2
        go_roundw
        case rel => exact ⟨k + 1, c', R ++ [r], by omega, by go_num, rfl, hc1, by rw [← unhide HSET]; exact unhide HV, by simp [hRl], unhide HRO, unhide HSUM, unhide HBE⟩
        case measure => simp [intOf]; omega
    · have hkx : k = xs.length := by omega
      rw [hkx, List.take_length, List.take_of_length_le hle] at hRv
      rw [hkx, Nat.sub_self, List.replicate_zero, List.append_nil] at hU
      have hnv := sub_end hRv (by omega) hRok hge
      have n1 := trim_any R w.heap.size 0 xs.length _ hU.wrow hRok (by omega) (by omega) (by omega)
      have hwd := wrow_dig hU.wrow hRok
      rw [hnv] at n1 hwd
      rw [show R.length = xs.length by omega] at n1
      have hkd : ¬ (k : Int) < (xs.length : Int) := by omega
      have N1 := hide n1; have HWD := hide hwd; have HBE := hide hbel
      clear n1 hwd hU hnv hRv hbel hkx
      go_wp2_with fail
      refine (unhide N1).mono ?_
      rintro e w2 ⟨rfl, rfl⟩
      go_wp2
      go_ret
      exact ⟨⟨_, rfl, _, _, rfl, unhide HWD⟩, unhide HBE⟩
end Go.Proofs.Ytbnpajijbdddiaa
