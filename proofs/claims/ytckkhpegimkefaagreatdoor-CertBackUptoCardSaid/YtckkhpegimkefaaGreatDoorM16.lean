/- mul of the big numbers. -/
import Derived.Test.YtckkhpegimkefaaGreatDoorM15
namespace Go.Proofs.YtckkhpegimkefaaGreatDoor
open Go.RowKit
set_option linter.unusedVariables false

theorem VRow.drewN {w : World} {g : Nat} {row : List Nat} (h : VRow w g row) (q : Nat) : VRow (w.drewN q) g row := h
theorem natV_set (l : List Nat) (i x r : Nat) (h : l[i]? = some r) : natV (l.set i x) + r * B32 ^ i = natV l + x * B32 ^ i := by
  induction l generalizing i with
  | nil => simp at h
  | cons y t ih =>
    cases i with
    | zero =>
      obtain rfl : y = r := by simpa using h
      simp only [List.set_cons_zero, natV, Nat.pow_zero, Nat.mul_one]
      omega
    | succ i =>
      have := ih i (by simpa using h)
      simp only [List.set_cons_succ, natV, Nat.pow_succ]
      grind
theorem mul_inner {row : List Nat} {V p c r t a b q : Nat} (hv : natV row + c * B32 ^ p = V) (hr : row[p]? = some r) (ht : t = c + (a * b + r)) :
    natV (row.set p (t % B32)) + t / B32 * B32 ^ (p + 1) = V + a * b * B32 ^ p := by
  have h1 := natV_set row p (t % B32) r hr
  have h2 := Nat.div_add_mod t B32
  rw [Nat.pow_succ]
  have h3 : t % B32 * B32 ^ p + t / B32 * (B32 ^ p * B32) = t * B32 ^ p := by
    conv => rhs; rw [← h2]
    grind
  have h4 : t * B32 ^ p = c * B32 ^ p + a * b * B32 ^ p + r * B32 ^ p := by rw [ht]; grind
  omega
theorem mul_next {X Y a i : Nat} (T : Nat) (h : T = X * Y + a * Y * B32 ^ i) : T = (X + a * B32 ^ i) * Y := by rw [h]; grind
theorem prod_lt {a b : Nat} (ha : a < 4294967296) (hb : b < 4294967296) : a * b ≤ 18446744065119617025 := by
  have := Nat.mul_le_mul (show a ≤ 4294967295 by omega) (show b ≤ 4294967295 by omega)
  omega

set_option maxHeartbeats 8000000 in
set_option maxRecDepth 100000 in
theorem mul_rows (xs ys : List Nat) (ao bo : Option Addr) (ca cb : Nat) (w : World) (ha : WRow w ao xs) (hb : WRow w bo ys) (oka : okV xs) (okb : okV ys) (hla : (xs.length : Int) ≤ 5000) (hlb : (ys.length : Int) ≤ 5000) (hx0 : xs ≠ []) (hy0 : ys ≠ []) :
    Calls Tryz.prog 94 #[.slice ao xs.length ca, .slice bo ys.length cb] w fun e w' => (∃ v, e = .returned v ∧ BigV w' v (natV xs * natV ys)) ∧ Below w.heap.size w w' := by
  have HA := hide ha; have HB := hide hb
  have hxl : ((xs.length : Int) == 0) = false := by have := List.length_pos_iff.2 hx0; simp; exact hx0
  have hyl : ((ys.length : Int) == 0) = false := by have := List.length_pos_iff.2 hy0; simp; exact hy0
  have hx0' : ¬ xs = [] := hx0
  have hy0' : ¬ ys = [] := hy0
  clear ha hb hx0 hy0
  obtain ⟨i0, hi, hz0, hz1, hz2⟩ := info_partsV infoU32
  go_enter Tryz.func94, Tryz.ntmps94
  go_wp2_with (at_make; refine wpList_make_full _ rfl _ _ 99 rfl w.heap.size 119 i0 (.int .u32 0) 1 Tryz.underlying99 hi hz0 hz1 .i64 .i64 _ _ (xs.length + ys.length) rfl rfl (by simp) (by simp) (by rw [hz2]; omega) (by unfold maxLen; omega) (Nat.le_refl _) ?_)
  intro w1 hown hgrow
  have hU := made_vrow hown
  have hb : Below w.heap.size w w1 := (Below.refl _ _).grown hgrow (Nat.le_refl _) (fun q hq => by cases hq)
  clear hown hgrow hi hz0 hz1 hz2
  obtain ⟨N, hN⟩ : ∃ N, N = xs.length + ys.length := ⟨_, rfl⟩
  rw [← hN] at hU ⊢
  have HN := hide hN
  have hNb : (N : Int) ≤ 10000 := by omega
  clear hN
  go_wp2
  go_loopw [6] (fun i wr => ∃ (k : Nat) (row : List Nat), k ≤ xs.length ∧ i = .int .i64 k ∧ row.length = N ∧ okV row ∧ (∀ p x, k + ys.length ≤ p → row[p]? = some x → x = 0) ∧ natV row = natV (xs.take k) * natV ys ∧ VRow wr w.heap.size row ∧ Below w.heap.size w wr) (fun i _ => xs.length - (intOf i).toNat)
  case atStart => exact ⟨0, _, Nat.zero_le _, rfl, by simp, okV_zeros _, fun p x _ hx => (List.mem_replicate.1 (List.mem_of_getElem? hx)).2, by rw [natV_zeros]; simp [natV], hU, hb⟩
  case round =>
    clear hU hb
    obtain ⟨k, row, hk, rfl, hrl, hrok, hrz, hrv, hU, hbel⟩ := hrel
    by_cases hlt : k < xs.length
    · obtain ⟨av, hav⟩ : ∃ x, xs[k]? = some x := ⟨_, List.getElem?_eq_getElem hlt⟩
      have havb : av < 4294967296 := okV_get oka hav
      rcases (unhide HA) with hnil | ⟨ga, oa, rfl, hga, hca⟩
      · rw [hnil] at hlt; simp at hlt
      have hcav := hca k av hav
      have hkd : decide ((k : Int) < (xs.length : Int)) = true := decide_eq_true (by omega)
      have HRZ := hide hrz; have HRV := hide hrv; have HAV := hide hav; have HCAV := hide hcav
      have HU0 := hide hU; have HB0 := hide hbel; have HRO := hide hrok
      clear hca hav hcav hrz hrv hU hbel hrok
      go_wp2
      go_loopw [7, 8] (fun c j wx => ∃ (m cn : Nat) (rw' : List Nat), m ≤ ys.length ∧ j = .int .i64 m ∧ c = .int .u64 cn ∧ cn < 4294967296 ∧ rw'.length = N ∧ okV rw' ∧ (∀ p, k + m ≤ p → rw'[p]? = row[p]?) ∧ natV rw' + cn * B32 ^ (k + m) = natV row + av * natV (ys.take m) * B32 ^ k ∧ VRow wx w.heap.size rw' ∧ Below w.heap.size w wx) (fun _ j _ => ys.length - (intOf j).toNat)
      case atStart => exact ⟨0, 0, row, Nat.zero_le _, rfl, rfl, by decide, hrl, unhide HRO, fun p _ => rfl, by simp [natV], unhide HU0, unhide HB0⟩
      case round =>
        clear HU0 HB0
        obtain ⟨m, cn, rw', hm, rfl, rfl, hcn, hrl', hrok', hsame, hv', hU, hbel⟩ := hrel
        have c0 : wr.cell? ⟨ga, oa + k, none⟩ = some (.int .u32 (av : Nat)) := (hbel.cell (p := ⟨ga, oa + k, none⟩) hga).trans (unhide HCAV)
        by_cases hml : m < ys.length
        · obtain ⟨bv, hbv⟩ : ∃ x, ys[m]? = some x := ⟨_, List.getElem?_eq_getElem hml⟩
          have hbvb : bv < 4294967296 := okV_get okb hbv
          rcases (unhide HB) with hnil | ⟨gb, ob, rfl, hgb, hcb⟩
          · rw [hnil] at hml; simp at hml
          have c1 : wr.cell? ⟨gb, ob + m, none⟩ = some (.int .u32 (bv : Nat)) := (hbel.cell (p := ⟨gb, ob + m, none⟩) hgb).trans (hcb m bv hbv)
          have hNe := unhide HN
          obtain ⟨r, hr⟩ : ∃ x, rw'[k + m]? = some x := ⟨_, List.getElem?_eq_getElem (by omega)⟩
          have hrb : r < 4294967296 := okV_get hrok' hr
          have c2 := hU.cell (k + m) r hr
          have f2 := hU.frozen (k + m)
          have hab := prod_lt havb hbvb
          obtain ⟨t, ht⟩ : ∃ t, t = cn + (av * bv + r) := ⟨_, rfl⟩
          have hin := mul_inner (q := 0) hv' hr ht
          have hbt := natV_take_succ ys m bv hbv
          have hfin : natV (rw'.set (k + m) (t % B32)) + t / B32 * B32 ^ (k + (m + 1)) = natV row + av * natV (ys.take (m + 1)) * B32 ^ k := by
            rw [show k + (m + 1) = k + m + 1 by omega, hin, hbt, Nat.pow_add]
            grind
          obtain ⟨ab, hab'⟩ : ∃ ab, ab = av * bv := ⟨_, rfl⟩
          rw [← hab'] at ht hab
          have w1' : IntKind.u64.wrap ((av : Int) * (bv : Int)) = (ab : Int) := by
            rw [show (av : Int) * (bv : Int) = (ab : Int) by rw [hab']; exact (Int.natCast_mul _ _).symm]
            exact wraps_u64 _ (by omega) (by omega)
          obtain ⟨t1, ht1⟩ : ∃ t1, t1 = ab + r := ⟨_, rfl⟩
          have wa' : IntKind.u64.wrap (av : Int) = (av : Int) := wraps_u64 _ (by omega) (by omega)
          have wb' : IntKind.u64.wrap (bv : Int) = (bv : Int) := wraps_u64 _ (by omega) (by omega)
          have wr' : IntKind.u64.wrap (r : Int) = (r : Int) := wraps_u64 _ (by omega) (by omega)
          have w2' : IntKind.u64.wrap ((ab : Int) + (r : Int)) = (t1 : Int) := by rw [wraps_u64 _ (by omega) (by omega)]; omega
          have w3' : IntKind.u64.wrap ((cn : Int) + (t1 : Int)) = (t : Int) := by rw [wraps_u64 _ (by omega) (by omega)]; omega
          obtain ⟨rr, hrr⟩ : ∃ x, x = t % B32 := ⟨_, rfl⟩
          obtain ⟨cc, hcc⟩ : ∃ x, x = t / B32 := ⟨_, rfl⟩
          have hrr' : rr = t % 4294967296 := hrr
          have hcc' : cc = t / 4294967296 := hcc
          rw [← hrr, ← hcc] at hfin
          have w4' : (t : Int) % 4294967296 = (rr : Int) := by omega
          have w5' : (t : Int) / 4294967296 = (cc : Int) := by omega
          have w6' : IntKind.i64.wrap ((k : Int) + (m : Int)) = ((k + m : Nat) : Int) := by rw [IntKind.wrap_i64]; omega
          have hkm : ((k + m : Nat) : Int) < (N : Int) := by omega
          have hccb : cc < 4294967296 := by omega
          have hrrb : rr < B32 := by show rr < 4294967296; omega
          obtain ⟨p0, hp0⟩ : ∃ p, p = k + m := ⟨_, rfl⟩
          rw [← hp0] at hr c2 f2 hfin w6' hkm
          have HV := hide (fun q => (hU.drewN q).set p0 rr); have HBE := hide (fun q => (below_drewN hbel q).setCell (p := ⟨w.heap.size, p0, none⟩) (Nat.le_refl _) (.int .u32 (rr : Nat)))
          have HFI := hide hfin; have HOK := hide (okV_set hrok' p0 rr hrrb); have HLE := hide (show (rw'.set p0 rr).length = N by rw [List.length_set]; exact hrl')
          have HSA : Hid (∀ p, k + (m + 1) ≤ p → (rw'.set p0 rr)[p]? = row[p]?) := hide (fun p hp => by rw [List.getElem?_set_ne (by omega)]; exact hsame p (by omega))
          have hkd2 : (m : Int) < (ys.length : Int) := by omega
          clear hcb hbv hr hv' hsame hU hbel hrok' ht hin hbt hfin hab hab' ht1 hrr hcc hrr' hcc' hrrb hNe hrl' hp0
          go_wp2_with fail
          go_quiet (fail)
          go_wp2
          go_roundw
          case rel => exact ⟨m + 1, cc, rw'.set p0 rr, by omega, by go_num, rfl, hccb, unhide HLE, unhide HOK, unhide HSA, unhide HFI, unhide HV _, unhide HBE _⟩
          case measure => simp [intOf]; omega
        · have hmy : m = ys.length := by omega
          have hNe := unhide HN
          rw [hmy, List.take_length] at hv'
          rw [hmy] at hsame
          obtain ⟨z, hz⟩ : ∃ x, rw'[k + ys.length]? = some x := ⟨_, List.getElem?_eq_getElem (by omega)⟩
          have hz0 : z = 0 := unhide HRZ (k + ys.length) z (Nat.le_refl _) (by rw [← hsame _ (Nat.le_refl _)]; exact hz)
          subst hz0
          have c2 := hU.cell (k + ys.length) 0 hz
          have f2 := hU.frozen (k + ys.length)
          have hst := natV_set rw' (k + ys.length) cn 0 hz
          have hnew : natV (rw'.set (k + ys.length) cn) = natV (xs.take (k + 1)) * natV ys := by
            rw [natV_take_succ xs k av (unhide HAV)]
            refine mul_next _ ?_
            have := unhide HRV
            rw [← this]
            omega
          have hcnb : cn < B32 := hcn
          have w6' : IntKind.i64.wrap ((k : Int) + (ys.length : Int)) = ((k + ys.length : Nat) : Int) := by rw [IntKind.wrap_i64]; omega
          have hkm : ((k + ys.length : Nat) : Int) < (N : Int) := by omega
          have w4' : (cn : Int) % 4294967296 = (cn : Int) := by omega
          obtain ⟨p0, hp0⟩ : ∃ p, p = k + ys.length := ⟨_, rfl⟩
          rw [← hp0] at c2 f2 w6' hkm hnew
          have HV := hide (hU.set p0 cn); have HBE := hide (hbel.setCell (p := ⟨w.heap.size, p0, none⟩) (Nat.le_refl _) (.int .u32 (cn : Nat)))
          have HNW := hide hnew; have HOK := hide (okV_set hrok' p0 cn hcnb); have HLE := hide (show (rw'.set p0 cn).length = N by rw [List.length_set]; exact hrl')
          have HZZ : Hid (∀ p x, k + 1 + ys.length ≤ p → (rw'.set p0 cn)[p]? = some x → x = 0) := hide (fun p x hp hx => by
            rw [List.getElem?_set_ne (by omega), hsame p (by omega)] at hx
            exact unhide HRZ p x (by omega) hx)
          have hmd : ¬ (m : Int) < (ys.length : Int) := by omega
          clear hv' hsame hU hbel hrok' hst hnew hcnb hNe hrl' hp0 hz hmy
          go_wp2
          go_roundw
          case rel => exact ⟨k + 1, rw'.set p0 cn, by omega, by go_num, unhide HLE, unhide HOK, unhide HZZ, unhide HNW, unhide HV, unhide HBE⟩
          case measure => simp [intOf]; omega
    · have hkx : k = xs.length := by omega
      rw [hkx, List.take_length] at hrv
      have hNe := unhide HN
      have n1 := trim_any row w.heap.size 0 N _ hU.wrow hrok (by omega) (by omega) (by omega)
      rw [hrv, hrl] at n1
      have hwd := wrow_dig hU.wrow hrok
      rw [hrv] at hwd
      have N1 := hide n1; have HWD := hide hwd; have HBE := hide hbel
      have hkd : ¬ (k : Int) < (xs.length : Int) := by omega
      clear n1 hwd hbel hU hrz hrv hrok hNe hrl hkx
      go_wp2_with fail
      refine (unhide N1).mono ?_
      rintro e w2 ⟨rfl, rfl⟩
      go_wp2
      go_ret
      exact ⟨⟨_, rfl, _, _, rfl, unhide HWD⟩, unhide HBE⟩
end Go.Proofs.YtckkhpegimkefaaGreatDoor
namespace Go.Proofs.YtckkhpegimkefaaGreatDoor
open Go.RowKit
set_option linter.unusedVariables false

theorem wrap_u64_mod (n : Int) : IntKind.u64.wrap n = n % 18446744073709551616 := by simp [IntKind.wrap, IntKind.bits, IntKind.signed]
theorem u64_nat (n : Int) : ∃ s : Nat, (s : Int) = n % 18446744073709551616 ∧ IntKind.u64.wrap n = (s : Int) := by
  refine ⟨(n % 18446744073709551616).toNat, Int.toNat_of_nonneg (Int.emod_nonneg _ (by decide)), ?_⟩
  rw [wrap_u64_mod, Int.toNat_of_nonneg (Int.emod_nonneg _ (by decide))]
theorem sub_step {R xs ys : List Nat} {cn k av bv r c' : Nat} (hRv : natV R + natV (ys.take k) = natV (xs.take k) + cn * B32 ^ k) (hRl : R.length = k) (ha : xs[k]? = some av) (hb : ys[k]? = some bv ∨ (bv = 0 ∧ ys.length ≤ k)) (hs : r + bv + cn = av + c' * 4294967296) :
    natV (R ++ [r]) + natV (ys.take (k + 1)) = natV (xs.take (k + 1)) + c' * B32 ^ (k + 1) := by
  rw [natV_append, hRl, natV_take_succ xs k av ha]
  have hbt : natV (ys.take (k + 1)) = natV (ys.take k) + bv * B32 ^ k := by
    rcases hb with hb | ⟨rfl, hl⟩
    · exact natV_take_succ ys k bv hb
    · rw [List.take_of_length_le (by omega), List.take_of_length_le (by omega)]; simp
  rw [hbt, Nat.pow_succ]
  simp only [natV, Nat.mul_zero, Nat.add_zero]
  have hs' : r + bv + cn = av + c' * B32 := hs
  have h1 : r * B32 ^ k + bv * B32 ^ k + cn * B32 ^ k = av * B32 ^ k + c' * B32 * B32 ^ k := by
    rw [← Nat.add_mul, ← Nat.add_mul, ← Nat.add_mul, hs']
  have h2 : c' * B32 * B32 ^ k = c' * (B32 ^ k * B32) := by grind
  have h3 : B32 ^ k * r = r * B32 ^ k := Nat.mul_comm _ _
  omega
theorem sub_end {R xs ys : List Nat} {cn : Nat} (hRv : natV R + natV ys = natV xs + cn * B32 ^ xs.length) (hRl : R.length = xs.length) (hok : okV R) (hle : natV ys ≤ natV xs) : natV R = natV xs - natV ys := by
  have h1 := natV_lt hok
  rw [hRl] at h1
  rcases Nat.eq_zero_or_pos cn with h0 | h0
  · rw [h0, Nat.zero_mul] at hRv; omega
  · have := Nat.le_mul_of_pos_left (B32 ^ xs.length) h0
    omega
set_option maxHeartbeats 8000000 in
set_option maxRecDepth 100000 in
theorem sub_rows (xs ys : List Nat) (ao bo : Option Addr) (ca cb : Nat) (w : World) (ha : WRow w ao xs) (hb : WRow w bo ys) (oka : okV xs) (okb : okV ys) (hla : (xs.length : Int) ≤ 10000) (hle : ys.length ≤ xs.length) (hge : natV ys ≤ natV xs) (hx0 : xs ≠ []) :
    Calls Tryz.prog 96 #[.slice ao xs.length ca, .slice bo ys.length cb] w fun e w' => (∃ v, e = .returned v ∧ BigV w' v (natV xs - natV ys)) ∧ Below w.heap.size w w' := by
  have HA := hide ha; have HB := hide hb
  clear ha hb
  obtain ⟨i0, hi, hz0, hz1, hz2⟩ := info_partsV infoU32
  go_enter Tryz.func96, Tryz.ntmps96
  go_wp2_with (at_make; refine wpList_make_full _ rfl _ _ 99 rfl w.heap.size 119 i0 (.int .u32 0) 1 Tryz.underlying99 hi hz0 hz1 .i64 .i64 _ _ xs.length rfl rfl (by simp) (by simp) (by rw [hz2]; omega) (by unfold maxLen; omega) (Nat.le_refl _) ?_)
  intro w1 hown hgrow
  have hU := made_vrow hown
  have hb : Below w.heap.size w w1 := (Below.refl _ _).grown hgrow (Nat.le_refl _) (fun q hq => by cases hq)
  clear hown hgrow hi hz0 hz1 hz2
  go_wp2
  go_loopw [6, 7] (fun c i wr => ∃ (k cn : Nat) (R : List Nat), k ≤ xs.length ∧ i = .int .i64 k ∧ c = .int .u64 cn ∧ cn ≤ 1 ∧ VRow wr w.heap.size (R ++ List.replicate (xs.length - k) 0) ∧ R.length = k ∧ okV R ∧ natV R + natV (ys.take k) = natV (xs.take k) + cn * B32 ^ k ∧ Below w.heap.size w wr) (fun _ i _ => xs.length - (intOf i).toNat)
  case atStart => exact ⟨0, 0, [], Nat.zero_le _, rfl, rfl, by omega, hU, rfl, okV_nil, by simp [natV], hb⟩
  case round =>
    clear hU hb
    obtain ⟨k, cn, R, hk, rfl, rfl, hcn, hU, hRl, hRok, hRv, hbel⟩ := hrel
    by_cases hlt : k < xs.length
    · obtain ⟨av, hav⟩ : ∃ x, xs[k]? = some x := ⟨_, List.getElem?_eq_getElem hlt⟩
      have havb : av < 4294967296 := okV_get oka hav
      rcases (unhide HA) with hnil | ⟨ga, oa, rfl, hga, hca⟩
      · rw [hnil] at hlt; simp at hlt
      have d0 : wr.cell? ⟨ga, oa + k, none⟩ = some (.int .u32 (av : Nat)) := (hbel.cell (p := ⟨ga, oa + k, none⟩) hga).trans (hca k av hav)
      have hrep : List.replicate (xs.length - k) 0 = 0 :: List.replicate (xs.length - (k + 1)) 0 := by
        rw [show xs.length - k = (xs.length - (k + 1)) + 1 by omega]; rfl
      rw [hrep] at hU
      have hfr := hU.frozen k
      have hcell := hU.cell k 0 (by rw [List.getElem?_append_right (by omega)]; simp [hRl])
      have hset : ∀ x : Nat, (R ++ 0 :: List.replicate (xs.length - (k + 1)) 0).set k x = (R ++ [x]) ++ List.replicate (xs.length - (k + 1)) 0 := fun x => by
        rw [List.set_append_right _ _ (by omega)]
        simp [hRl]
      have hkA : (k : Int) < (xs.length : Int) := by omega
      have wa' : IntKind.u64.wrap (av : Int) = (av : Int) := wraps_u64 _ (by omega) (by omega)
      obtain ⟨s1, hs1, w1'⟩ := u64_nat ((av : Int) - (cn : Int))
      by_cases hltb : k < ys.length
      · obtain ⟨bv, hbv⟩ : ∃ x, ys[k]? = some x := ⟨_, List.getElem?_eq_getElem hltb⟩
        have hbvb : bv < 4294967296 := okV_get okb hbv
        rcases (unhide HB) with hnil | ⟨gb, ob, rfl, hgb, hcb⟩
        · rw [hnil] at hltb; simp at hltb
        have d1 : wr.cell? ⟨gb, ob + k, none⟩ = some (.int .u32 (bv : Nat)) := (hbel.cell (p := ⟨gb, ob + k, none⟩) hgb).trans (hcb k bv hbv)
        have hkB : (k : Int) < (ys.length : Int) := by omega
        have wb' : IntKind.u64.wrap (bv : Int) = (bv : Int) := wraps_u64 _ (by omega) (by omega)
        obtain ⟨s2, hs2, w2'⟩ := u64_nat ((s1 : Int) - (bv : Int))
        obtain ⟨r, hr⟩ : ∃ r, r = s2 % 4294967296 := ⟨_, rfl⟩
        obtain ⟨c', hc'⟩ : ∃ r, r = s2 / 9223372036854775808 := ⟨_, rfl⟩
        have hsum := sub_step hRv hRl hav (.inl hbv) (show r + bv + cn = av + c' * 4294967296 by omega)
        have w3' : (s2 : Int) % 4294967296 = (r : Int) := by omega
        have w4' : (s2 : Int) / 9223372036854775808 = (c' : Int) := by omega
        have hc1 : c' ≤ 1 := by omega
        have hrb : r < B32 := by show r < 4294967296; omega
        have HV := hide (hU.set k r); have HBE := hide (hbel.setCell (p := ⟨w.heap.size, k, none⟩) (Nat.le_refl _) (.int .u32 (r : Nat)))
        have HSET := hide (hset r); have HSUM := hide hsum; have HRO := hide (okV_snoc hRok hrb)
        clear hca hcb hav hbv havb hbvb hs1 hs2 hr hc' hsum hU hbel hset hrep hRv hrb
        go_wp2
        go_roundw
        case rel => exact ⟨k + 1, c', R ++ [r], by omega, by go_num, rfl, hc1, by rw [← unhide HSET]; exact unhide HV, by simp [hRl], unhide HRO, unhide HSUM, unhide HBE⟩
        case measure => simp [intOf]; omega
      · obtain ⟨r, hr⟩ : ∃ r, r = s1 % 4294967296 := ⟨_, rfl⟩
        obtain ⟨c', hc'⟩ : ∃ r, r = s1 / 9223372036854775808 := ⟨_, rfl⟩
        have hsum := sub_step (bv := 0) hRv hRl hav (.inr ⟨rfl, by omega⟩) (show r + 0 + cn = av + c' * 4294967296 by omega)
        have w3' : (s1 : Int) % 4294967296 = (r : Int) := by omega
        have w4' : (s1 : Int) / 9223372036854775808 = (c' : Int) := by omega
        have hkB : ¬ (k : Int) < (ys.length : Int) := by omega
        have hc1 : c' ≤ 1 := by omega
        have hrb : r < B32 := by show r < 4294967296; omega
        have HV := hide (hU.set k r); have HBE := hide (hbel.setCell (p := ⟨w.heap.size, k, none⟩) (Nat.le_refl _) (.int .u32 (r : Nat)))
        have HSET := hide (hset r); have HSUM := hide hsum; have HRO := hide (okV_snoc hRok hrb)
        clear hca hav havb hs1 hr hc' hsum hU hbel hset hrep hRv hrb
        go_wp2
        go_roundw
        case rel => exact ⟨k + 1, c', R ++ [r], by omega, by go_num, rfl, hc1, by rw [← unhide HSET]; exact unhide HV, by simp [hRl], unhide HRO, unhide HSUM, unhide HBE⟩
        case measure => simp [intOf]; omega
    · have hkx : k = xs.length := by omega
      rw [hkx, List.take_length, List.take_of_length_le hle] at hRv
      rw [hkx, Nat.sub_self, List.replicate_zero, List.append_nil] at hU
      have hnv := sub_end hRv (by omega) hRok hge
      have n1 := trim_any R w.heap.size 0 xs.length _ hU.wrow hRok (by omega) (by omega) (by omega)
      have hwd := wrow_dig hU.wrow hRok
      rw [hnv] at n1 hwd
      rw [show R.length = xs.length by omega] at n1
      have hkd : ¬ (k : Int) < (xs.length : Int) := by omega
      have N1 := hide n1; have HWD := hide hwd; have HBE := hide hbel
      clear n1 hwd hU hnv hRv hbel hkx
      go_wp2_with fail
      refine (unhide N1).mono ?_
      rintro e w2 ⟨rfl, rfl⟩
      go_wp2
      go_ret
      exact ⟨⟨_, rfl, _, _, rfl, unhide HWD⟩, unhide HBE⟩
end Go.Proofs.YtckkhpegimkefaaGreatDoor
