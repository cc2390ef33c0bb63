/- left by eight bits, of the big numbers. -/
import Derived.Test.YtckkhpegimkefaaM25
import Derived.Test.YtckkhpegimkefaaM01
namespace Go.Proofs.Ytckkhpegimkefaa
open Go.RowKit
set_option linter.unusedVariables false

theorem or_sum (c m : Nat) (hc : c < 256) (hm : m < 16777216) : c ||| 256 * m = c + 256 * m := by
  have := Nat.two_pow_add_eq_or_of_lt (i := 8) (b := c) hc m
  rw [show (2 : Nat) ^ 8 = 256 from rfl] at this
  rw [Nat.or_comm, ← this, Nat.add_comm]
theorem left_step {P xs : List Nat} {c k x r c' : Nat} (hv : natV P + c * B32 ^ k = natV (xs.take k) * 256) (hl : P.length = k) (hx : xs[k]? = some x) (hs : r + c' * 4294967296 = c + x * 256) :
    natV (P ++ [r]) + c' * B32 ^ (k + 1) = natV (xs.take (k + 1)) * 256 := by
  rw [natV_append, hl, natV_take_succ xs k x hx, Nat.pow_succ]
  simp only [natV, Nat.mul_zero, Nat.add_zero]
  have hs' : r + c' * B32 = c + x * 256 := hs
  have h1 : r * B32 ^ k + c' * B32 * B32 ^ k = c * B32 ^ k + x * 256 * B32 ^ k := by rw [← Nat.add_mul, ← Nat.add_mul, hs']
  grind
set_option maxHeartbeats 8000000 in
set_option maxRecDepth 100000 in
theorem left8_rows (xs : List Nat) (ao : Option Addr) (ca : Nat) (w : World) (ha : WRow w ao xs) (oka : okV xs) (hla : (xs.length : Int) ≤ 10000) :
    Calls Try.prog 76 #[.slice ao xs.length ca, .int .u64 8] w fun e w' => (∃ v, e = .returned v ∧ BigV w' v (natV xs * 256)) ∧ Below w.heap.size w w' := by
  have HA := hide ha
  clear ha
  by_cases hx0 : xs = []
  · subst hx0
    clear HA oka hla
    go_enter Try.func76, Try.ntmps76
    go_wp2
    go_ret
    exact ⟨⟨_, rfl, none, 0, by simp [natV, dig_zero], .inl (by simp [natV, dig_zero])⟩, Below.refl _ _⟩
  have hx0' : ((xs.length : Int) == 0) = false := by simp; exact hx0
  obtain ⟨i0, hi, hz0, hz1, hz2⟩ := info_partsV infoU32
  go_enter Try.func76, Try.ntmps76
  go_wp2_with (at_make; refine wpList_make_full _ rfl _ _ 58 rfl w.heap.size 83 i0 (.int .u32 0) 1 Try.underlying58 hi hz0 hz1 .i64 .i64 _ _ (xs.length + 1) rfl rfl (by simp) (by simp) (by rw [hz2]; omega) (by unfold maxLen; omega) (Nat.le_refl _) ?_)
  intro w1 hown hgrow
  have hU := made_vrow hown
  have hb : Below w.heap.size w w1 := (Below.refl _ _).grown hgrow (Nat.le_refl _) (fun q hq => by cases hq)
  clear hown hgrow hi hz0 hz1 hz2
  go_wp2
  go_loopw [8] (fun i wr => ∃ (k c : Nat) (P : List Nat), k ≤ xs.length ∧ i = .int .i64 k ∧ c < 256 ∧ VRow wr w.heap.size (P ++ c :: List.replicate (xs.length - k) 0) ∧ P.length = k ∧ okV P ∧ natV P + c * B32 ^ k = natV (xs.take k) * 256 ∧ Below w.heap.size w wr) (fun i _ => xs.length - (intOf i).toNat)
  case atStart => exact ⟨0, 0, [], Nat.zero_le _, rfl, by decide, hU, rfl, okV_nil, by simp [natV], hb⟩
  case round =>
    clear hU hb
    obtain ⟨k, c, P, hk, rfl, hc, hU, hPl, hPok, hPv, hbel⟩ := hrel
    by_cases hlt : k < xs.length
    · obtain ⟨x, hx⟩ : ∃ x, xs[k]? = some x := ⟨_, List.getElem?_eq_getElem hlt⟩
      have hxb : x < 4294967296 := okV_get oka hx
      rcases (unhide HA) with hnil | ⟨ga, oa, rfl, hga, hca⟩
      · rw [hnil] at hlt; simp at hlt
      have d0 : wr.cell? ⟨ga, oa + k, none⟩ = some (.int .u32 (x : Nat)) := (hbel.cell (p := ⟨ga, oa + k, none⟩) hga).trans (hca k x hx)
      have hrep : List.replicate (xs.length - k) 0 = 0 :: List.replicate (xs.length - (k + 1)) 0 := by
        rw [show xs.length - k = (xs.length - (k + 1)) + 1 by omega]; rfl
      rw [hrep] at hU
      have q0 := hU.cell k c (by rw [List.getElem?_append_right (by omega)]; simp [hPl])
      have f0 := hU.frozen k
      obtain ⟨v, hv⟩ : ∃ v, v = x * 256 := ⟨_, rfl⟩
      obtain ⟨lo, hlo⟩ : ∃ v', v' = v % 4294967296 := ⟨_, rfl⟩
      obtain ⟨hi, hhi⟩ : ∃ v', v' = v / 4294967296 := ⟨_, rfl⟩
      obtain ⟨r, hr⟩ : ∃ r, r = c + lo := ⟨_, rfl⟩
      have hlo256 : lo = 256 * (lo / 256) := by omega
      have hor : c ||| lo = r := by
        rw [hlo256, or_sum c (lo / 256) hc (by omega)]
        omega
      have w1' : IntKind.u64.wrap (x : Int) = (x : Int) := wraps_u64 _ (by omega) (by omega)
      have w2' : IntKind.u64.wrap ((x : Int) * 256) = (v : Int) := by rw [wraps_u64 _ (by omega) (by omega)]; omega
      have w3' : (v : Int) % 4294967296 = (lo : Int) := by omega
      have w4' : bits .or .u32 (c : Int) (lo : Int) = (r : Int) := by
        rw [or_nat .u32 32 (by decide) (fun n h0 h1 => by simp [IntKind.wrap, IntKind.bits, IntKind.signed]; omega) c lo (by omega) (by omega), hor]
      have w5' : (v : Int) / 4294967296 = (hi : Int) := by omega
      have w6' : (hi : Int) % 4294967296 = (hi : Int) := by omega
      have w7' : bits .or .u32 0 (hi : Int) = (hi : Int) := by
        have := or_nat .u32 32 (by decide) (fun n h0 h1 => by simp [IntKind.wrap, IntKind.bits, IntKind.signed]; omega) 0 hi (by omega) (by omega)
        simpa using this
      have w8' : IntKind.i64.wrap ((k : Int) + 1) = ((k + 1 : Nat) : Int) := by rw [IntKind.wrap_i64]; omega
      have hU1 := hU.set k r
      have hset1 : (P ++ c :: 0 :: List.replicate (xs.length - (k + 1)) 0).set k r = P ++ r :: 0 :: List.replicate (xs.length - (k + 1)) 0 := by
        rw [List.set_append_right _ _ (by omega)]
        simp [hPl]
      rw [hset1] at hU1
      have q1 := hU1.cell (k + 1) 0 (by rw [List.getElem?_append_right (by omega)]; simp [hPl])
      have f1 := hU1.frozen (k + 1)
      have hU2 := hU1.set (k + 1) hi
      have hset2 : (P ++ r :: 0 :: List.replicate (xs.length - (k + 1)) 0).set (k + 1) hi = (P ++ [r]) ++ hi :: List.replicate (xs.length - (k + 1)) 0 := by
        rw [List.set_append_right _ _ (by omega)]
        simp [hPl]
      rw [hset2] at hU2
      have hsum := left_step hPv hPl hx (show r + hi * 4294967296 = c + x * 256 by omega)
      have hrb : r < B32 := by show r < 4294967296; omega
      have hhb : hi < 256 := by omega
      have HU2 := hide hU2; have HBE := hide ((hbel.setCell (p := ⟨w.heap.size, k, none⟩) (Nat.le_refl _) (.int .u32 (r : Nat))).setCell (p := ⟨w.heap.size, k + 1, none⟩) (Nat.le_refl _) (.int .u32 (hi : Nat)))
      have HSUM := hide hsum; have HOK := hide (okV_snoc hPok hrb)
      have hkA : (k : Int) < (xs.length : Int) := by omega
      clear hca hx hrep hU hU1 hU2 hset1 hset2 hsum hrb hbel hPv hPok hv hlo hhi hr hlo256 hor hxb
      go_wp2
      go_roundw
      case rel => exact ⟨k + 1, hi, P ++ [r], by omega, by go_num, hhb, unhide HU2, by simp [hPl], unhide HOK, unhide HSUM, unhide HBE⟩
      case measure => simp [intOf]; omega
    · have hkx : k = xs.length := by omega
      rw [hkx, List.take_length] at hPv
      rw [hkx, Nat.sub_self, List.replicate_zero] at hU
      have hok2 := okV_snoc hPok (show c < B32 by show c < 4294967296; omega)
      have hnv : natV (P ++ [c]) = natV xs * 256 := by
        rw [natV_append, hPl, hkx]
        simp only [natV, Nat.mul_zero, Nat.add_zero]
        rw [Nat.mul_comm]
        exact hPv
      have hll : (P ++ [c]).length = xs.length + 1 := by simp [hPl, hkx]
      have n1 := trim_any (P ++ [c]) w.heap.size 0 (xs.length + 1) _ hU.wrow hok2 (by rw [hll]; omega) (by rw [hll]; omega) (by omega)
      have hwd := wrow_dig hU.wrow hok2
      rw [hnv, hll] at n1
      rw [hnv] at hwd
      have hkd : ¬ (k : Int) < (xs.length : Int) := by omega
      have N1 := hide n1; have HWD := hide hwd; have HBE := hide hbel
      clear n1 hwd hU hnv hPv hbel hkx hok2 hll
      go_wp2_with fail
      refine (unhide N1).mono ?_
      rintro e w2 ⟨rfl, rfl⟩
      go_wp2
      go_ret
      exact ⟨⟨_, rfl, _, _, rfl, unhide HWD⟩, unhide HBE⟩
end Go.Proofs.Ytckkhpegimkefaa
namespace Go.Proofs.Ytckkhpegimkefaa
open Go.RowKit
set_option linter.unusedVariables false

theorem or_sumK (c m s : Nat) (hc : c < 2 ^ s) : c ||| 2 ^ s * m = c + 2 ^ s * m := by
  have := Nat.two_pow_add_eq_or_of_lt (i := s) (b := c) hc m
  rw [Nat.or_comm, ← this, Nat.add_comm]
theorem left_stepK {P xs : List Nat} {c k x r c' E : Nat} (hv : natV P + c * B32 ^ k = natV (xs.take k) * E) (hl : P.length = k) (hx : xs[k]? = some x) (hs : r + c' * 4294967296 = c + x * E) :
    natV (P ++ [r]) + c' * B32 ^ (k + 1) = natV (xs.take (k + 1)) * E := by
  rw [natV_append, hl, natV_take_succ xs k x hx, Nat.pow_succ]
  simp only [natV, Nat.mul_zero, Nat.add_zero]
  have hs' : r + c' * B32 = c + x * E := hs
  have h1 : r * B32 ^ k + c' * B32 * B32 ^ k = c * B32 ^ k + x * E * B32 ^ k := by rw [← Nat.add_mul, ← Nat.add_mul, hs']
  grind
theorem two_dvd32 {s : Nat} (h : s < 32) : ∃ t, 4294967296 = 2 ^ s * t ∧ 0 < t := ⟨2 ^ (32 - s), by rw [← Nat.pow_add, show s + (32 - s) = 32 by omega], Nat.two_pow_pos _⟩
/-- the word that is shifted: its low part is a multiple of 2^s, its high part is below 2^s -/
theorem shl_parts {s x v lo hi c : Nat} (h : s < 32) (hx : x < 4294967296) (hv : v = x * 2 ^ s) (hlo : lo = v % 4294967296) (hhi : hi = v / 4294967296) (hc : c < 2 ^ s) : c ||| lo = c + lo ∧ c + lo < 4294967296 ∧ hi < 2 ^ s ∧ c + lo + hi * 4294967296 = c + x * 2 ^ s ∧ v < 18446744073709551616 ∧ hi < 4294967296 := by
  obtain ⟨t, ht, ht0⟩ := two_dvd32 h
  have hp : 2 ^ s < 4294967296 := by
    have := Nat.pow_lt_pow_right (a := 2) (by decide) h
    exact this
  have hp0 : 0 < 2 ^ s := Nat.two_pow_pos _
  have hor : ∀ m, c ||| 2 ^ s * m = c + 2 ^ s * m := fun m => or_sumK c m s hc
  generalize 2 ^ s = E at *
  have e1 : lo = E * (x % t) := by rw [hlo, hv, ht, Nat.mul_comm x E, Nat.mul_mod_mul_left]
  have e2 : hi = x / t := by rw [hhi, hv, ht, Nat.mul_comm x E, Nat.mul_div_mul_left _ _ hp0]
  have e3 : x % t < t := Nat.mod_lt _ ht0
  have hvb : v < 18446744073709551616 := by
    rw [hv]
    exact Nat.mul_lt_mul'' hx hp
  have e4 : E * (x % t) + E ≤ E * t := by rw [← Nat.mul_succ]; exact Nat.mul_le_mul_left _ e3
  have e5 : x / t < E := Nat.div_lt_of_lt_mul (by rw [Nat.mul_comm, ← ht]; exact hx)
  refine ⟨?_, by omega, by omega, by omega, hvb, by omega⟩
  rw [e1]; exact hor _
set_option maxHeartbeats 8000000 in
set_option maxRecDepth 100000 in
theorem leftK_rows (xs : List Nat) (s : Nat) (hs32 : s < 32) (ao : Option Addr) (ca : Nat) (w : World) (ha : WRow w ao xs) (oka : okV xs) (hla : (xs.length : Int) ≤ 10000) :
    Calls Try.prog 76 #[.slice ao xs.length ca, .int .u64 (s : Nat)] w fun e w' => (∃ v, e = .returned v ∧ BigV w' v (natV xs * 2 ^ s)) ∧ Below w.heap.size w w' := by
  have sq1 : (s : Int) / 32 = 0 := by omega
  have sq2 : (s : Int) % 32 = (s : Int) := by omega
  have HPART := hide (fun x v lo hi c hx hv hlo hhi hc => @shl_parts s x v lo hi c hs32 hx hv hlo hhi hc)
  have hE1 : 1 ≤ 2 ^ s := Nat.two_pow_pos _
  have hE2 : 2 ^ s ≤ 2147483648 := Nat.pow_le_pow_right (n := 2) (by decide) (show s ≤ 31 by omega)
  have hEi : ((2 : Int) ^ s) = ((2 ^ s : Nat) : Int) := by simp
  obtain ⟨E, hE⟩ : ∃ E, E = 2 ^ s := ⟨_, rfl⟩
  rw [← hE] at HPART hE1 hE2 hEi ⊢
  have HE := hide hE
  clear hE
  have HA := hide ha
  clear ha
  by_cases hx0 : xs = []
  · subst hx0
    clear HA oka hla
    go_enter Try.func76, Try.ntmps76
    go_wp2
    go_ret
    exact ⟨⟨_, rfl, none, 0, by simp [natV, dig_zero], .inl (by simp [natV, dig_zero])⟩, Below.refl _ _⟩
  have hx0' : ((xs.length : Int) == 0) = false := by simp; exact hx0
  obtain ⟨i0, hi, hz0, hz1, hz2⟩ := info_partsV infoU32
  go_enter Try.func76, Try.ntmps76
  go_wp2_with (at_make; refine wpList_make_full _ rfl _ _ 58 rfl w.heap.size 83 i0 (.int .u32 0) 1 Try.underlying58 hi hz0 hz1 .i64 .i64 _ _ (xs.length + 1) rfl rfl (by simp) (by simp) (by rw [hz2]; omega) (by unfold maxLen; omega) (Nat.le_refl _) ?_)
  intro w1 hown hgrow
  have hU := made_vrow hown
  have hb : Below w.heap.size w w1 := (Below.refl _ _).grown hgrow (Nat.le_refl _) (fun q hq => by cases hq)
  clear hown hgrow hi hz0 hz1 hz2
  go_wp2
  go_loopw [8] (fun i wr => ∃ (k c : Nat) (P : List Nat), k ≤ xs.length ∧ i = .int .i64 k ∧ c < E ∧ VRow wr w.heap.size (P ++ c :: List.replicate (xs.length - k) 0) ∧ P.length = k ∧ okV P ∧ natV P + c * B32 ^ k = natV (xs.take k) * E ∧ Below w.heap.size w wr) (fun i _ => xs.length - (intOf i).toNat)
  case atStart => exact ⟨0, 0, [], Nat.zero_le _, rfl, hE1, hU, rfl, okV_nil, by simp [natV], hb⟩
  case round =>
    clear hU hb
    obtain ⟨k, c, P, hk, rfl, hc, hU, hPl, hPok, hPv, hbel⟩ := hrel
    by_cases hlt : k < xs.length
    · obtain ⟨x, hx⟩ : ∃ x, xs[k]? = some x := ⟨_, List.getElem?_eq_getElem hlt⟩
      have hxb : x < 4294967296 := okV_get oka hx
      rcases (unhide HA) with hnil | ⟨ga, oa, rfl, hga, hca⟩
      · rw [hnil] at hlt; simp at hlt
      have d0 : wr.cell? ⟨ga, oa + k, none⟩ = some (.int .u32 (x : Nat)) := (hbel.cell (p := ⟨ga, oa + k, none⟩) hga).trans (hca k x hx)
      have hrep : List.replicate (xs.length - k) 0 = 0 :: List.replicate (xs.length - (k + 1)) 0 := by
        rw [show xs.length - k = (xs.length - (k + 1)) + 1 by omega]; rfl
      rw [hrep] at hU
      have q0 := hU.cell k c (by rw [List.getElem?_append_right (by omega)]; simp [hPl])
      have f0 := hU.frozen k
      obtain ⟨v, hv⟩ : ∃ v, v = x * E := ⟨_, rfl⟩
      obtain ⟨lo, hlo⟩ : ∃ v', v' = v % 4294967296 := ⟨_, rfl⟩
      obtain ⟨hi, hhi⟩ : ∃ v', v' = v / 4294967296 := ⟨_, rfl⟩
      obtain ⟨hor', hrb', hhb, hsm, hvb, hhb4⟩ := unhide HPART x v lo hi c hxb hv hlo hhi hc
      obtain ⟨r, hr⟩ : ∃ r, r = c + lo := ⟨_, rfl⟩
      rw [← hr] at hor' hrb' hsm
      have hor : c ||| lo = r := hor'
      have hvi : (x : Int) * (E : Int) = (v : Int) := by rw [hv]; simp
      have w1' : IntKind.u64.wrap (x : Int) = (x : Int) := wraps_u64 _ (by omega) (by omega)
      have w2' : IntKind.u64.wrap ((x : Int) * (E : Int)) = (v : Int) := by rw [hvi, wraps_u64 _ (by omega) (by omega)]
      have w2'' : IntKind.u64.wrap ((x : Int) * 2 ^ s) = (v : Int) := by rw [hEi]; exact w2'
      have w3' : (v : Int) % 4294967296 = (lo : Int) := by omega
      have w4' : bits .or .u32 (c : Int) (lo : Int) = (r : Int) := by
        rw [or_nat .u32 32 (by decide) (fun n h0 h1 => by simp [IntKind.wrap, IntKind.bits, IntKind.signed]; omega) c lo (by omega) (by omega), hor]
      have w5' : (v : Int) / 4294967296 = (hi : Int) := by omega
      have w6' : (hi : Int) % 4294967296 = (hi : Int) := by omega
      have w7' : bits .or .u32 0 (hi : Int) = (hi : Int) := by
        have := or_nat .u32 32 (by decide) (fun n h0 h1 => by simp [IntKind.wrap, IntKind.bits, IntKind.signed]; omega) 0 hi (by omega) (by omega)
        simpa using this
      have w8' : IntKind.i64.wrap ((k : Int) + 1) = ((k + 1 : Nat) : Int) := by rw [IntKind.wrap_i64]; omega
      have hU1 := hU.set k r
      have hset1 : (P ++ c :: 0 :: List.replicate (xs.length - (k + 1)) 0).set k r = P ++ r :: 0 :: List.replicate (xs.length - (k + 1)) 0 := by
        rw [List.set_append_right _ _ (by omega)]
        simp [hPl]
      rw [hset1] at hU1
      have q1 := hU1.cell (k + 1) 0 (by rw [List.getElem?_append_right (by omega)]; simp [hPl])
      have f1 := hU1.frozen (k + 1)
      have hU2 := hU1.set (k + 1) hi
      have hset2 : (P ++ r :: 0 :: List.replicate (xs.length - (k + 1)) 0).set (k + 1) hi = (P ++ [r]) ++ hi :: List.replicate (xs.length - (k + 1)) 0 := by
        rw [List.set_append_right _ _ (by omega)]
        simp [hPl]
      rw [hset2] at hU2
      have hsum := left_stepK hPv hPl hx hsm
      have hrb : r < B32 := by show r < 4294967296; omega
      have HU2 := hide hU2; have HBE := hide ((hbel.setCell (p := ⟨w.heap.size, k, none⟩) (Nat.le_refl _) (.int .u32 (r : Nat))).setCell (p := ⟨w.heap.size, k + 1, none⟩) (Nat.le_refl _) (.int .u32 (hi : Nat)))
      have HSUM := hide hsum; have HOK := hide (okV_snoc hPok hrb)
      have hkA : (k : Int) < (xs.length : Int) := by omega
      clear hca hx hrep hU hU1 hU2 hset1 hset2 hsum hrb hbel hPv hPok hv hlo hhi hr hor hxb hor' hsm hvi hvb hrb' hEi
      go_wp2
      go_roundw
      case rel => exact ⟨k + 1, hi, P ++ [r], by omega, by go_num, hhb, unhide HU2, by simp [hPl], unhide HOK, unhide HSUM, unhide HBE⟩
      case measure => simp [intOf]; omega
    · have hkx : k = xs.length := by omega
      rw [hkx, List.take_length] at hPv
      rw [hkx, Nat.sub_self, List.replicate_zero] at hU
      have hok2 := okV_snoc hPok (show c < B32 by show c < 4294967296; omega)
      have hnv : natV (P ++ [c]) = natV xs * E := by
        rw [natV_append, hPl, hkx]
        simp only [natV, Nat.mul_zero, Nat.add_zero]
        rw [Nat.mul_comm]
        exact hPv
      have hll : (P ++ [c]).length = xs.length + 1 := by simp [hPl, hkx]
      have n1 := trim_any (P ++ [c]) w.heap.size 0 (xs.length + 1) _ hU.wrow hok2 (by rw [hll]; omega) (by rw [hll]; omega) (by omega)
      have hwd := wrow_dig hU.wrow hok2
      rw [hnv, hll] at n1
      rw [hnv] at hwd
      have hkd : ¬ (k : Int) < (xs.length : Int) := by omega
      have N1 := hide n1; have HWD := hide hwd; have HBE := hide hbel
      clear n1 hwd hU hnv hPv hbel hkx hok2 hll
      go_wp2_with fail
      refine (unhide N1).mono ?_
      rintro e w2 ⟨rfl, rfl⟩
      go_wp2
      go_ret
      exact ⟨⟨_, rfl, _, _, rfl, unhide HWD⟩, unhide HBE⟩
end Go.Proofs.Ytckkhpegimkefaa
