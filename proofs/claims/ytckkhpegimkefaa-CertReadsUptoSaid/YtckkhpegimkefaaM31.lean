/- plain, twin; div by a number of one word. -/
import Derived.Test.YtckkhpegimkefaaM30
import Derived.Laws.AppendOwnNone
import Derived.Laws.AppendOwn
namespace Go.Proofs.Ytckkhpegimkefaa
open Go.RowKit
set_option linter.unusedVariables false

theorem dig_one (n : Nat) (h0 : n ≠ 0) (h : n < 4294967296) : dig n = [n] := by
  have e : n / B32 = 0 := Nat.div_eq_of_lt h
  rw [dig_pos h0, e, dig_zero, Nat.mod_eq_of_lt (show n < B32 from h)]
theorem dig_two (n : Nat) (h0 : 4294967296 ≤ n) (h : n < 18446744073709551616) : dig n = [n % 4294967296, n / 4294967296] := by
  have e1 : n / B32 = n / 4294967296 := rfl
  have e2 : n % B32 = n % 4294967296 := rfl
  rw [dig_pos (by omega), e1, e2, dig_one (n / 4294967296) (by omega) (by omega)]
set_option maxHeartbeats 1000000 in
theorem plain_any (n : Nat) (v : Value) (w : World) (hv : BigV w v n) (h : (n : Int) < 18446744073709551616) :
    Calls Try.prog 93 #[v] w fun e w' => e = .returned (.int .u64 n) ∧ w' = w := by
  obtain ⟨ao, cap, rfl, hr⟩ := hv
  by_cases h0 : n = 0
  · subst h0
    rw [dig_zero]
    clear hr
    go_enter Try.func93, Try.ntmps93
    go_wp2
    go_ret
    exact ⟨rfl, rfl⟩
  by_cases h1 : n < 4294967296
  · rw [dig_one n h0 h1] at hr ⊢
    rcases hr with h2 | ⟨g, off, rfl, hg, hc⟩
    · cases h2
    have c0 : w.cell? ⟨g, off, none⟩ = some (.int .u32 (n : Int)) := hc 0 n rfl
    have wx : IntKind.u64.wrap (n : Int) = (n : Int) := wraps_u64 _ (by omega) (by omega)
    clear hc h0 h h1
    go_enter Try.func93, Try.ntmps93
    go_wp2
    go_ret
    exact ⟨rfl, rfl⟩
  · obtain ⟨lo, hlo⟩ : ∃ lo, lo = n % 4294967296 := ⟨_, rfl⟩
    obtain ⟨hi, hhi⟩ : ∃ hi, hi = n / 4294967296 := ⟨_, rfl⟩
    rw [dig_two n (by omega) (by omega), ← hlo, ← hhi] at hr
    rw [dig_two n (by omega) (by omega)]
    rcases hr with h2 | ⟨g, off, rfl, hg, hc⟩
    · cases h2
    have c0 : w.cell? ⟨g, off, none⟩ = some (.int .u32 (lo : Int)) := hc 0 lo rfl
    have c1 := hc 1 hi rfl
    have wx : IntKind.u64.wrap (lo : Int) = (lo : Int) := wraps_u64 _ (by omega) (by omega)
    have wy : IntKind.u64.wrap (hi : Int) = (hi : Int) := wraps_u64 _ (by omega) (by omega)
    obtain ⟨hs, hhs⟩ : ∃ hs, hs = hi * 4294967296 := ⟨_, rfl⟩
    have wz : IntKind.u64.wrap ((hi : Int) * 4294967296) = (hs : Int) := by rw [wraps_u64 _ (by omega) (by omega)]; omega
    have wo : bits .or .u64 (lo : Int) (hs : Int) = (n : Int) := by
      rw [or_nat .u64 64 (by decide) (fun n h0 h1 => wraps_u64 n h0 h1) lo hs (by omega) (by omega), Nat.or_comm, hhs, or_words hi lo (by omega)]
      omega
    clear hc hlo hhi hhs h0 h1 h
    go_enter Try.func93, Try.ntmps93
    go_wp2
    go_ret
    exact ⟨rfl, rfl⟩
set_option maxHeartbeats 1000000 in
theorem twin_any (n : Nat) (v : Value) (w : World) (hv : BigV w v n) (hl : n < B32 ^ 10000) :
    Calls Try.prog 88 #[v] w fun e w' => (∃ v', e = .returned v' ∧ BigV w' v' n) ∧ Below w.heap.size w w' := by
  obtain ⟨i0, hi, hz0, hz1, hz2⟩ := info_partsV infoU32
  have hlen := dig_len 10000 n hl
  clear hl
  obtain ⟨ao, cap, rfl, hr⟩ := hv
  cases ao with
  | none =>
    have hd : dig n = [] := by
      rcases hr with h | ⟨g, off, h, _⟩
      · exact h
      · cases h
    have HD := hide hd
    rw [hd]
    clear hr hd hlen
    go_enter Try.func88, Try.ntmps88
    go_wp2
    go_ret
    exact ⟨⟨_, rfl, none, 0, by rw [unhide HD]; rfl, .inl (unhide HD)⟩, Below.refl _ _⟩
  | some a =>
    have hnews : ∀ j u, ((dig n).map fun x : Nat => Value.int .u32 (x : Int))[j]? = some u → w.cell? (a.add j) = some u := by
      intro j u hj
      rcases hr with h | ⟨g, off, h, hg, hc⟩
      · rw [h] at hj; simp at hj
      · obtain rfl : a = ⟨g, off, none⟩ := by simpa using h
        rw [List.getElem?_map] at hj
        cases hx : (dig n)[j]? with
        | none => rw [hx] at hj; cases hj
        | some x =>
          rw [hx] at hj
          obtain rfl : Value.int .u32 (x : Int) = u := by simpa using hj
          have ha : (⟨g, off, none⟩ : Addr).add j = ⟨g, off + j, none⟩ := by simp [Addr.add]
          rw [ha]
          exact hc j x hx
    have HN := hide hnews
    generalize hdn : dig n = L at *
    have HDN := hide hdn
    clear hnews hr hdn
    go_enter Try.func88, Try.ntmps88
    go_wp2_with (at_builtin; refine wpList_append_own _ rfl _ _ 58 rfl w.heap.size 83 i0 (.int .u32 0) 1 4 Try.underlying58 hi hz0 hz1 hz2 rfl (by decide) _ _ _ rfl (World.ownsRow_nil w _ _ _) a L.length cap (L.map fun x : Nat => Value.int .u32 (x : Int)) rfl ?qc1 ?qc2 ?qc3 ?qc4 ?qc5 ?qc6 ?_)
    case qc1 => simp
    case qc2 => exact unhide HN
    case qc3 => intro u hu; obtain ⟨x, _, rfl⟩ := List.mem_map.1 hu; rfl
    case qc4 => unfold maxLen; omega
    case qc5 => omega
    case qc6 => exact Nat.le_refl _
    intro v' w1 hown hgrow hnil
    have hb1 : Below w.heap.size w w1 := (Below.refl _ w).grown hgrow (Nat.le_refl _) (by intro k hk; simp [Value.ownBlock] at hk)
    have hbv : BigV w1 v' n := by
      rcases hown.2 with ⟨h1, h2⟩ | ⟨g, cp, cur, h1, h2, h3, h4, h5, h6, h7⟩
      · have hL : L = [] := List.length_eq_zero_iff.1 h2
        exact ⟨none, 0, by rw [unhide HDN, hL, h1]; rfl, .inl (by rw [unhide HDN]; exact hL)⟩
      · refine ⟨_, cp, by rw [unhide HDN, h1], ?_⟩
        rw [unhide HDN]
        refine .inr ⟨g, 0, rfl, heap_lt h3, fun i x hi => ?_⟩
        have e1 : (L.map fun x : Nat => Value.int .u32 (x : Int))[i]? = some (.int .u32 (x : Int)) := by rw [List.getElem?_map, hi]; rfl
        have hil : i < L.length := (List.getElem?_eq_some_iff.1 hi).1
        rw [← h7, List.getElem?_take_of_lt (by omega)] at e1
        rw [Nat.zero_add, cell_of_row _ _ _ _ _ _ h3]
        simpa using e1
    have HB := hide hb1; have HV := hide hbv
    clear hown hgrow hnil hb1 hbv
    go_wp2
    go_ret
    exact ⟨⟨_, rfl, unhide HV⟩, unhide HB⟩
theorem bigv_nil (w : World) (n : Nat) (h : n = 0) : BigV w (.slice none 0 0) n := by subst h; exact ⟨none, 0, by rw [dig_zero]; rfl, .inl dig_zero⟩
theorem ordI_lt {a b : Nat} (h : a < b) : ordI a b < 0 := by unfold ordI; rw [if_pos h]; decide
theorem ordI_ge {a b : Nat} (h : b ≤ a) : ¬ ordI a b < 0 := by unfold ordI; rw [if_neg (by omega)]; split <;> omega
set_option maxRecDepth 100000 in
set_option maxHeartbeats 4000000 in
theorem div_one (a b : Nat) (va vb : Value) (w : World) (ha : BigV w va a) (hb : BigV w vb b) (hla : a < B32 ^ 10000) (hb0 : b ≠ 0) (hbB : b < 4294967296) :
    Calls Try.prog 89 #[va, vb] w fun e w' => (∃ q t, e = .returned (.tuple #[q, t]) ∧ BigV w' q (a / b) ∧ BigV w' t (a % b)) ∧ Below w.heap.size w w' := by
  have hlb : b < B32 ^ 10000 := small_lt b hbB 10000 (by decide)
  have N0 := hide (cmp_any a b va vb w ha hb hla hlb)
  have hdb := dig_one b hb0 hbB
  by_cases hab : a < b
  · have N1 := hide (fun w' (k : Below w.heap.size w w') => twin_any a va w' (ha.below k) hla)
    have hol := ordI_lt hab
    have hq : a / b = 0 := Nat.div_eq_of_lt hab
    have hm : a % b = a := Nat.mod_eq_of_lt hab
    rw [hq, hm]
    obtain ⟨x1, x2, x3, hx⟩ := slice_of ha
    obtain ⟨bo, cb, hvb, _⟩ := hb
    rw [hdb] at hvb
    subst hx hvb
    generalize ordI a b = od at *
    clear ha hla hlb hab hq hm hb0 hbB hdb
    go_enter Try.func89, Try.ntmps89
    go_wp2_with fail
    refine (unhide N0).mono ?_
    rintro e w1 ⟨rfl, k1⟩
    go_wp2_with fail
    refine (unhide N1 _ k1).mono ?_
    rintro e w2 ⟨⟨v2, rfl, h2⟩, k2⟩
    have HV := hide h2; have HK := hide (ext_callB k1 k2)
    clear h2 k1 k2
    go_wp2
    go_ret2
    exact ⟨⟨_, _, rfl, bigv_nil _ _ rfl, unhide HV⟩, unhide HK⟩
  have hge := ordI_ge (show b ≤ a by omega)
  by_cases h64 : a < 18446744073709551616
  · have N1 := hide (fun w' (k : Below w.heap.size w w') => plain_any a va w' (ha.below k) (by omega))
    have N2 := hide (fun w' (k : Below w.heap.size w w') => plain_any b vb w' (hb.below k) (by omega))
    have hda : ((dig a).length : Int) ≤ 2 := by
      by_cases h1 : a < 4294967296
      · rw [dig_one a (by omega) h1]; simp
      · rw [dig_two a (by omega) h64]; simp
    obtain ⟨q, hq⟩ : ∃ q, q = a / b := ⟨_, rfl⟩
    obtain ⟨r, hr⟩ : ∃ r, r = a % b := ⟨_, rfl⟩
    have hqb : q ≤ a := by rw [hq]; exact Nat.div_le_self _ _
    have hrb : r ≤ a := by rw [hr]; exact Nat.mod_le _ _
    have N3 := hide (fun w' => words_any q (by omega) w')
    have N4 := hide (fun w' => words_any r (by omega) w')
    have w1' : IntKind.u64.wrap ((a : Int) / (b : Int)) = (q : Int) := by
      have : (a : Int) / (b : Int) = (q : Int) := by rw [hq]; exact (Int.natCast_ediv a b).symm
      rw [this, wraps_u64 _ (by omega) (by omega)]
    have w2' : (a : Int) % (b : Int) = (r : Int) := by rw [hr]; exact (Int.natCast_emod a b).symm
    have w3' : IntKind.u64.wrap (r : Int) = (r : Int) := wraps_u64 _ (by omega) (by omega)
    have w2t : (a : Int).tmod (b : Int) = (r : Int) := by rw [Int.tmod_eq_emod_of_nonneg (by omega)]; exact w2'
    have hbz : (0 : Int) < (b : Int) := by omega
    have hbz2 : ((b : Int) == 0) = false := by rw [beq_eq_false_iff_ne]; omega
    have hbz3 : ¬ (b : Int) = 0 := by omega
    rw [← hq, ← hr]
    obtain ⟨ao, ca, hva, _⟩ := ha
    obtain ⟨bo, cb, hvb, _⟩ := hb
    rw [hdb] at hvb
    subst hva hvb
    generalize (dig a).length = la at *
    generalize ordI a b = od at *
    have hb0' : 0 < b := by omega
    clear hla hlb hab hbB hdb h64 hq hr hqb hrb
    go_enter Try.func89, Try.ntmps89
    go_wp2_with fail
    refine (unhide N0).mono ?_
    rintro e w1 ⟨rfl, k1⟩
    go_wp2_with fail
    refine (unhide N1 _ k1).mono ?_
    rintro e w2 ⟨rfl, hw2⟩
    subst hw2
    go_wp2_with fail
    refine (unhide N2 _ k1).mono ?_
    rintro e w3 ⟨rfl, hw3⟩
    subst hw3
    have K1 := hide k1
    clear N0 N1 N2 k1
    go_wp2_with fail
    go_region_held3 (fun w' => True)
      (trivial)
      ((first
        | (have hqq := kk1; go_at_call 61; refine (unhide N4 _).mono ?_; rintro e y2 ⟨⟨v2, rfl, h2⟩, kk2⟩)
        | (go_at_call 61; refine (unhide N3 _).mono ?_; rintro e y1 ⟨⟨v1, rfl, h1⟩, kk1⟩)))
    all_goals
      have R1 := hide (h1.below kk2); have R2 := hide h2; have RK := hide (ext_callB (unhide K1) ((below_drewN (Below.refl _ _) 1).trans (kk1.trans (kk2.mono kk1.size))))
      go_wp2
      go_ret2
      exact ⟨⟨_, _, rfl, unhide R1, unhide R2⟩, unhide RK⟩
  · have hdl : 2 < (dig a).length := by
      rcases Nat.lt_or_ge 2 (dig a).length with h | h
      · exact h
      · exfalso
        have h1 := lt_dig a
        have h2 := B32_mono h
        have h3 : B32 ^ 2 = 18446744073709551616 := by decide
        omega
    have hlen := dig_len 10000 a hla
    obtain ⟨ao, ca, hva, hra⟩ := ha
    obtain ⟨bo, cb, hvb, hrb⟩ := hb
    rw [hdb] at hvb hrb
    have N1 := hide (fun w' (k : Below w.heap.size w w') => by
      have := small_rows b (by omega) hbB (dig a) ao ca w' (hra.below k) (okV_dig a) (by omega) (by intro e; rw [e] at hdl; simp at hdl)
      rw [natV_dig] at this
      exact this)
    obtain ⟨r, hr⟩ : ∃ r, r = a % b := ⟨_, rfl⟩
    have hrB : r < 4294967296 := by rw [hr]; exact Nat.lt_trans (Nat.mod_lt _ (by omega)) hbB
    have hok : okV [r] := by
      intro y hy
      obtain rfl : y = r := by simpa using hy
      exact hrB
    have hnr : natV [r] = r := by show r + B32 * 0 = r; omega
    have N2 := hide (fun w' (g : Nat) (h : WRow w' (some ⟨g, 0, none⟩) [r]) => by
      have := trim_any [r] g 0 1 w' h hok (by simp) (by simp) (by simp)
      rw [hnr] at this
      exact this)
    have HWD := hide (fun (w' : World) (g : Nat) (h : WRow w' (some ⟨g, 0, none⟩) [r]) => by
      have := wrow_dig h hok
      rw [hnr] at this
      exact this)
    rcases hrb with h2 | ⟨gb, offb, rfl, hgb, hcb⟩
    · cases h2
    have c0 : w.cell? ⟨gb, offb, none⟩ = some (.int .u32 (b : Int)) := hcb 0 b rfl
    have C0 := hide (fun w' (k : Below w.heap.size w w') => (k.cell (p := ⟨gb, offb, none⟩) hgb).trans c0)
    rw [← hr] at N1 ⊢
    obtain ⟨q, hq⟩ : ∃ q, q = a / b := ⟨_, rfl⟩
    rw [← hq] at N1 ⊢
    subst hva hvb
    have hla2 : ¬ ((dig a).length : Int) ≤ 2 := by omega
    generalize (dig a).length = la at *
    generalize ordI a b = od at *
    clear hla hlb hab hbB hdb h64 hq hr hrB hok hnr hra hcb c0 hdl hlen
    go_enter Try.func89, Try.ntmps89
    go_wp2_with fail
    refine (unhide N0).mono ?_
    rintro e w1 ⟨rfl, k1⟩
    have c1 := unhide C0 _ k1
    go_wp2_with fail
    refine (unhide N1 _ k1).mono ?_
    rintro e w2 ⟨⟨v2, rfl, h2⟩, k2⟩
    have hwr : WRow (w2.alloc (.cells #[.int .u32 (r : Int)] 83)) (some ⟨w2.heap.size, 0, none⟩) [r] := .inr ⟨w2.heap.size, 0, rfl, by simp, fun i x hi => by
      have hi0 : i = 0 := by
        have := (List.getElem?_eq_some_iff.1 hi).1
        simpa using this
      subst hi0
      obtain rfl : r = x := by simpa using hi
      simp⟩
    have k3 := (Below.refl w2.heap.size w2).alloc (Nat.le_refl _) (.cells #[.int .u32 (r : Int)] 83)
    have N3 := hide (unhide N2 _ _ hwr)
    have R1 := hide (h2.below k3); have R2 := hide (unhide HWD _ _ hwr); have RK := hide (ext_callB (ext_callB k1 k2) k3)
    clear h2 k1 k2 k3 hwr N2 c1
    go_wp2_with fail
    refine (unhide N3).mono ?_
    rintro e w3 ⟨rfl, hw3⟩
    subst hw3
    go_wp2
    go_ret2
    exact ⟨⟨_, _, rfl, unhide R1, _, _, rfl, unhide R2⟩, unhide RK⟩
end Go.Proofs.Ytckkhpegimkefaa
