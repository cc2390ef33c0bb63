/- A big number divided by one word. -/
import Derived.Test.YtckkhpegimkefaaGreatDoorM19
import Derived.Laws.AppendOwnNone
import Derived.Laws.AppendOwn
import Derived.Test.YtckkhpegimkefaaGreatDoorM17
namespace Go.Proofs.YtckkhpegimkefaaGreatDoor
open Go.RowKit
set_option linter.unusedVariables false

theorem small_stepD {d : Nat} {Q D : List Nat} {x r r1 q : Nat} (hv : natV D = natV Q * d + r) (h1 : r1 = r * 4294967296 + x) (hq : q = r1 / d) : natV (x :: D) = natV (q :: Q) * d + r1 % d := by
  simp only [natV]
  rw [hv]
  have h2 : r1 = r * B32 + x := h1
  have h3 := Nat.div_add_mod r1 d
  rw [← hq] at h3
  have h4 : B32 * (natV Q * d + r) = B32 * natV Q * d + r * B32 := by grind
  have h5 : (q + B32 * natV Q) * d = d * q + B32 * natV Q * d := by grind
  omega
set_option maxHeartbeats 8000000 in
set_option maxRecDepth 100000 in
theorem small_rows (d : Nat) (hd0 : 0 < d) (hdB : d < 4294967296) (xs : List Nat) (ao : Option Addr) (ca : Nat) (w : World) (ha : WRow w ao xs) (oka : okV xs) (hla : (xs.length : Int) ≤ 10000) (hx0 : xs ≠ []) :
    Calls Tryz.prog 137 #[.slice ao xs.length ca, .int .u32 d] w fun e w' => (∃ v, e = .returned (.tuple #[v, .int .u32 ((natV xs % d : Nat) : Int)]) ∧ BigV w' v (natV xs / d)) ∧ Below w.heap.size w w' := by
  have HA := hide ha
  have hlp : 1 ≤ xs.length := List.length_pos_iff.2 hx0
  clear ha
  have hw1 : IntKind.i64.wrap ((xs.length : Int) - 1) = (xs.length : Int) - 1 := by rw [IntKind.wrap_i64]; omega
  obtain ⟨i0, hi, hz0, hz1, hz2⟩ := info_partsV infoU32
  go_enter Tryz.func137, Tryz.ntmps137
  go_wp2_with (at_make; refine wpList_make_full _ rfl _ _ 99 rfl w.heap.size 119 i0 (.int .u32 0) 1 Tryz.underlying99 hi hz0 hz1 .i64 .i64 _ _ xs.length rfl rfl (by simp) (by simp) (by rw [hz2]; omega) (by unfold maxLen; omega) (Nat.le_refl _) ?_)
  intro w1 hown hgrow
  have hU := made_vrow hown
  have hb : Below w.heap.size w w1 := (Below.refl _ _).grown hgrow (Nat.le_refl _) (fun q hq => by cases hq)
  clear hown hgrow hi hz0 hz1 hz2
  go_wp2
  go_loopw [7, 8] (fun rv iv wr => ∃ (i r : Nat) (Q : List Nat), i ≤ xs.length ∧ iv = .int .i64 ((i : Int) - 1) ∧ rv = .int .u64 r ∧ r < d ∧ VRow wr w.heap.size (List.replicate i 0 ++ Q) ∧ Q.length = xs.length - i ∧ okV Q ∧ natV (xs.drop i) = natV Q * d + r ∧ Below w.heap.size w wr) (fun _ iv _ => (intOf iv + 1).toNat)
  case atStart => exact ⟨xs.length, 0, [], Nat.le_refl _, by first | rfl | go_num, rfl, hd0, by simpa using hU, by simp, okV_nil, by simp [natV], hb⟩
  case round =>
    clear hU hb
    obtain ⟨i, r, Q, hi, rfl, rfl, hrd, hU, hQl, hQok, hQv, hbel⟩ := hrel
    by_cases h0 : i = 0
    · subst h0
      rw [List.replicate_zero, List.nil_append] at hU
      rw [List.drop_zero] at hQv
      have hq : natV Q = natV xs / d := by
        rw [hQv, Nat.add_comm, Nat.add_mul_div_right _ _ hd0, Nat.div_eq_of_lt hrd, Nat.zero_add]
      have hrr : r = natV xs % d := by
        rw [hQv, Nat.add_comm, Nat.add_mul_mod_self_right, Nat.mod_eq_of_lt hrd]
      have n1 := trim_any Q w.heap.size 0 xs.length _ hU.wrow hQok (by omega) (by omega) (by omega)
      have hwd := wrow_dig hU.wrow hQok
      rw [hq] at n1 hwd
      rw [show Q.length = xs.length by omega] at n1
      have wr3 : (r : Int) % 4294967296 = (r : Int) := by omega
      have N1 := hide n1; have HWD := hide hwd; have HBE := hide hbel; have HRR := hide hrr
      clear n1 hwd hU hq hrr hQv hbel
      go_wp2_with fail
      refine (unhide N1).mono ?_
      rintro e w2 ⟨rfl, rfl⟩
      go_wp2
      go_ret2
      exact ⟨⟨_, by rw [← unhide HRR]; rfl, _, _, rfl, unhide HWD⟩, unhide HBE⟩
    · obtain ⟨j, rfl⟩ : ∃ j, i = j + 1 := ⟨i - 1, by omega⟩
      have ej : ((j + 1 : Nat) : Int) - 1 = (j : Int) := by omega
      rw [ej]
      obtain ⟨x, hx⟩ : ∃ x, xs[j]? = some x := ⟨_, List.getElem?_eq_getElem (by omega)⟩
      have hxb : x < 4294967296 := okV_get oka hx
      rcases (unhide HA) with hnil | ⟨ga, oa, rfl, hga, hca⟩
      · rw [hnil] at hx; simp at hx
      have d0 : wr.cell? ⟨ga, oa + j, none⟩ = some (.int .u32 (x : Nat)) := (hbel.cell (p := ⟨ga, oa + j, none⟩) hga).trans (hca j x hx)
      have hrep : List.replicate (j + 1) 0 ++ Q = List.replicate j 0 ++ 0 :: Q := by rw [List.replicate_succ']; simp
      rw [hrep] at hU
      have q0 := hU.cell j 0 (by rw [List.getElem?_append_right (by simp)]; simp)
      have f0 := hU.frozen j
      obtain ⟨rs, hrs⟩ : ∃ v, v = r * 4294967296 := ⟨_, rfl⟩
      obtain ⟨r1, hr1⟩ : ∃ v, v = r * 4294967296 + x := ⟨_, rfl⟩
      obtain ⟨q, hq⟩ : ∃ v, v = r1 / d := ⟨_, rfl⟩
      obtain ⟨r2, hr2⟩ : ∃ v, v = r1 % d := ⟨_, rfl⟩
      have hdr : xs.drop j = x :: xs.drop (j + 1) := by
        obtain ⟨h1, e1⟩ := List.getElem?_eq_some_iff.1 hx
        rw [List.drop_eq_getElem_cons h1, e1]
      have hst := small_stepD (d := d) (Q := Q) hQv hr1 hq
      rw [← hdr, ← hr2] at hst
      have wx : IntKind.u64.wrap (x : Int) = (x : Int) := wraps_u64 _ (by omega) (by omega)
      have w1' : IntKind.u64.wrap ((r : Int) * 4294967296) = (rs : Int) := by rw [wraps_u64 _ (by omega) (by omega)]; omega
      have w2' : bits .or .u64 (rs : Int) (x : Int) = (r1 : Int) := by
        rw [or_nat .u64 64 (by decide) (fun n h0 h1 => wraps_u64 n h0 h1) rs x (by omega) (by omega), hrs, or_words r x hxb, hr1]
      have hr1d : r1 < d * 4294967296 := by
        have h1 : (r + 1) * 4294967296 ≤ d * 4294967296 := Nat.mul_le_mul_right _ hrd
        omega
      have hqb0 : q < 4294967296 := by rw [hq]; exact Nat.div_lt_of_lt_mul hr1d
      have hr2d : r2 < d := by rw [hr2]; exact Nat.mod_lt _ hd0
      have wd : IntKind.u64.wrap (d : Int) = (d : Int) := wraps_u64 _ (by omega) (by omega)
      have w30 : ((r1 : Int) / (d : Int)) = (q : Int) := by rw [hq]; exact (Int.natCast_ediv r1 d).symm
      have w3' : IntKind.u64.wrap ((r1 : Int) / (d : Int)) = (q : Int) := by rw [w30, wraps_u64 _ (by omega) (by omega)]
      have hdz : ((d : Int) == 0) = false := by rw [beq_eq_false_iff_ne]; omega
      have hdp : (0 : Int) < (d : Int) := by omega
      have w4' : (q : Int) % 4294967296 = (q : Int) := by omega
      have w5' : (r1 : Int) % (d : Int) = (r2 : Int) := by rw [hr2]; exact (Int.natCast_emod r1 d).symm
      have w6' : IntKind.u64.wrap (r2 : Int) = (r2 : Int) := wraps_u64 _ (by omega) (by omega)
      have hnx : IntKind.i64.wrap ((j : Int) - 1) = (j : Int) - 1 := by rw [IntKind.wrap_i64]; omega
      have hj0 : (0 : Int) ≤ (j : Int) := by omega
      have hji : (j : Int) < (xs.length : Int) := by omega
      have hr23 : r2 < d := hr2d
      have hqb : q < B32 := hqb0
      have hset : (List.replicate j 0 ++ 0 :: Q).set j q = List.replicate j 0 ++ q :: Q := by
        rw [List.set_append_right _ _ (by simp)]
        simp
      have hU1 := hU.set j q
      rw [hset] at hU1
      have HU1 := hide hU1; have HBE := hide (hbel.setCell (p := ⟨w.heap.size, j, none⟩) (Nat.le_refl _) (.int .u32 (q : Nat)))
      have HOK : Hid (okV (q :: Q)) := hide (fun y hy => by
        rcases List.mem_cons.1 hy with rfl | hy
        · exact hqb
        · exact hQok y hy)
      have HST := hide hst
      have HQL : Hid ((q :: Q).length = xs.length - j) := hide (by rw [List.length_cons]; omega)
      clear hca hx hrep hU hU1 hset hst hdr hbel hQv hQok hrs hr1 hq hr2 hqb ej h0 hxb hr1d hqb0 hr2d
      go_wp2
      go_roundw
      case rel => exact ⟨j, r2, q :: Q, by omega, by go_num, by first | rfl | rw [w5'], hr23, unhide HU1, unhide HQL, unhide HOK, unhide HST, unhide HBE⟩
      case measure => simp [intOf] <;> omega
end Go.Proofs.YtckkhpegimkefaaGreatDoor
namespace Go.Proofs.YtckkhpegimkefaaGreatDoor
open Go.RowKit
set_option linter.unusedVariables false

theorem dig_one (n : Nat) (h0 : n ≠ 0) (h : n < 4294967296) : dig n = [n] := by
  have e : n / B32 = 0 := Nat.div_eq_of_lt h
  rw [dig_pos h0, e, dig_zero, Nat.mod_eq_of_lt (show n < B32 from h)]
theorem dig_two (n : Nat) (h0 : 4294967296 ≤ n) (h : n < 18446744073709551616) : dig n = [n % 4294967296, n / 4294967296] := by
  have e1 : n / B32 = n / 4294967296 := rfl
  have e2 : n % B32 = n % 4294967296 := rfl
  rw [dig_pos (by omega), e1, e2, dig_one (n / 4294967296) (by omega) (by omega)]
set_option maxHeartbeats 1000000 in
theorem plain_any (n : Nat) (v : Value) (w : World) (hv : BigV w v n) (h : (n : Int) < 18446744073709551616) :
    Calls Tryz.prog 136 #[v] w fun e w' => e = .returned (.int .u64 n) ∧ w' = w := by
  obtain ⟨ao, cap, rfl, hr⟩ := hv
  by_cases h0 : n = 0
  · subst h0
    rw [dig_zero]
    clear hr
    go_enter Tryz.func136, Tryz.ntmps136
    go_wp2
    go_ret
    exact ⟨rfl, rfl⟩
  by_cases h1 : n < 4294967296
  · rw [dig_one n h0 h1] at hr ⊢
    rcases hr with h2 | ⟨g, off, rfl, hg, hc⟩
    · cases h2
    have c0 : w.cell? ⟨g, off, none⟩ = some (.int .u32 (n : Int)) := hc 0 n rfl
    have wx : IntKind.u64.wrap (n : Int) = (n : Int) := wraps_u64 _ (by omega) (by omega)
    clear hc h0 h h1
    go_enter Tryz.func136, Tryz.ntmps136
    go_wp2
    go_ret
    exact ⟨rfl, rfl⟩
  · obtain ⟨lo, hlo⟩ : ∃ lo, lo = n % 4294967296 := ⟨_, rfl⟩
    obtain ⟨hi, hhi⟩ : ∃ hi, hi = n / 4294967296 := ⟨_, rfl⟩
    rw [dig_two n (by omega) (by omega), ← hlo, ← hhi] at hr
    rw [dig_two n (by omega) (by omega)]
    rcases hr with h2 | ⟨g, off, rfl, hg, hc⟩
    · cases h2
    have c0 : w.cell? ⟨g, off, none⟩ = some (.int .u32 (lo : Int)) := hc 0 lo rfl
    have c1 := hc 1 hi rfl
    have wx : IntKind.u64.wrap (lo : Int) = (lo : Int) := wraps_u64 _ (by omega) (by omega)
    have wy : IntKind.u64.wrap (hi : Int) = (hi : Int) := wraps_u64 _ (by omega) (by omega)
    obtain ⟨hs, hhs⟩ : ∃ hs, hs = hi * 4294967296 := ⟨_, rfl⟩
    have wz : IntKind.u64.wrap ((hi : Int) * 4294967296) = (hs : Int) := by rw [wraps_u64 _ (by omega) (by omega)]; omega
    have wo : bits .or .u64 (lo : Int) (hs : Int) = (n : Int) := by
      rw [or_nat .u64 64 (by decide) (fun n h0 h1 => wraps_u64 n h0 h1) lo hs (by omega) (by omega), Nat.or_comm, hhs, or_words hi lo (by omega)]
      omega
    clear hc hlo hhi hhs h0 h1 h
    go_enter Tryz.func136, Tryz.ntmps136
    go_wp2
    go_ret
    exact ⟨rfl, rfl⟩
set_option maxHeartbeats 1000000 in
theorem twin_any (n : Nat) (v : Value) (w : World) (hv : BigV w v n) (hl : n < B32 ^ 10000) :
    Calls Tryz.prog 130 #[v] w fun e w' => (∃ v', e = .returned v' ∧ BigV w' v' n) ∧ Below w.heap.size w w' := by
  obtain ⟨i0, hi, hz0, hz1, hz2⟩ := info_partsV infoU32
  have hlen := dig_len 10000 n hl
  clear hl
  obtain ⟨ao, cap, rfl, hr⟩ := hv
  cases ao with
  | none =>
    have hd : dig n = [] := by
      rcases hr with h | ⟨g, off, h, _⟩
      · exact h
      · cases h
    have HD := hide hd
    rw [hd]
    clear hr hd hlen
    go_enter Tryz.func130, Tryz.ntmps130
    go_wp2
    go_ret
    exact ⟨⟨_, rfl, none, 0, by rw [unhide HD]; rfl, .inl (unhide HD)⟩, Below.refl _ _⟩
  | some a =>
    have hnews : ∀ j u, ((dig n).map fun x : Nat => Value.int .u32 (x : Int))[j]? = some u → w.cell? (a.add j) = some u := by
      intro j u hj
      rcases hr with h | ⟨g, off, h, hg, hc⟩
      · rw [h] at hj; simp at hj
      · obtain rfl : a = ⟨g, off, none⟩ := by simpa using h
        rw [List.getElem?_map] at hj
        cases hx : (dig n)[j]? with
        | none => rw [hx] at hj; cases hj
        | some x =>
          rw [hx] at hj
          obtain rfl : Value.int .u32 (x : Int) = u := by simpa using hj
          have ha : (⟨g, off, none⟩ : Addr).add j = ⟨g, off + j, none⟩ := by simp [Addr.add]
          rw [ha]
          exact hc j x hx
    have HN := hide hnews
    generalize hdn : dig n = L at *
    have HDN := hide hdn
    clear hnews hr hdn
    go_enter Tryz.func130, Tryz.ntmps130
    go_wp2_with (at_builtin; refine wpList_append_own _ rfl _ _ 99 rfl w.heap.size 119 i0 (.int .u32 0) 1 4 Tryz.underlying99 hi hz0 hz1 hz2 rfl (by decide) _ _ _ rfl (World.ownsRow_nil w _ _ _) a L.length cap (L.map fun x : Nat => Value.int .u32 (x : Int)) rfl ?qc1 ?qc2 ?qc3 ?qc4 ?qc5 ?qc6 ?_)
    case qc1 => simp
    case qc2 => exact unhide HN
    case qc3 => intro u hu; obtain ⟨x, _, rfl⟩ := List.mem_map.1 hu; rfl
    case qc4 => unfold maxLen; omega
    case qc5 => omega
    case qc6 => exact Nat.le_refl _
    intro v' w1 hown hgrow hnil
    have hb1 : Below w.heap.size w w1 := (Below.refl _ w).grown hgrow (Nat.le_refl _) (by intro k hk; simp [Value.ownBlock] at hk)
    have hbv : BigV w1 v' n := by
      rcases hown.2 with ⟨h1, h2⟩ | ⟨g, cp, cur, h1, h2, h3, h4, h5, h6, h7⟩
      · have hL : L = [] := List.length_eq_zero_iff.1 h2
        exact ⟨none, 0, by rw [unhide HDN, hL, h1]; rfl, .inl (by rw [unhide HDN]; exact hL)⟩
      · refine ⟨_, cp, by rw [unhide HDN, h1], ?_⟩
        rw [unhide HDN]
        refine .inr ⟨g, 0, rfl, heap_lt h3, fun i x hi => ?_⟩
        have e1 : (L.map fun x : Nat => Value.int .u32 (x : Int))[i]? = some (.int .u32 (x : Int)) := by rw [List.getElem?_map, hi]; rfl
        have hil : i < L.length := (List.getElem?_eq_some_iff.1 hi).1
        rw [← h7, List.getElem?_take_of_lt (by omega)] at e1
        rw [Nat.zero_add, cell_of_row _ _ _ _ _ _ h3]
        simpa using e1
    have HB := hide hb1; have HV := hide hbv
    clear hown hgrow hnil hb1 hbv
    go_wp2
    go_ret
    exact ⟨⟨_, rfl, unhide HV⟩, unhide HB⟩
theorem bigv_nil (w : World) (n : Nat) (h : n = 0) : BigV w (.slice none 0 0) n := by subst h; exact ⟨none, 0, by rw [dig_zero]; rfl, .inl dig_zero⟩
theorem ordI_lt {a b : Nat} (h : a < b) : ordI a b < 0 := by unfold ordI; rw [if_pos h]; decide
theorem ordI_ge {a b : Nat} (h : b ≤ a) : ¬ ordI a b < 0 := by unfold ordI; rw [if_neg (by omega)]; split <;> omega
set_option maxRecDepth 100000 in
set_option maxHeartbeats 4000000 in
theorem div_one (a b : Nat) (va vb : Value) (w : World) (ha : BigV w va a) (hb : BigV w vb b) (hla : a < B32 ^ 10000) (hb0 : b ≠ 0) (hbB : b < 4294967296) :
    Calls Tryz.prog 131 #[va, vb] w fun e w' => (∃ q t, e = .returned (.tuple #[q, t]) ∧ BigV w' q (a / b) ∧ BigV w' t (a % b)) ∧ Below w.heap.size w w' := by
  have hlb : b < B32 ^ 10000 := small_lt b hbB 10000 (by decide)
  have N0 := hide (cmp_any a b va vb w ha hb hla hlb)
  have hdb := dig_one b hb0 hbB
  by_cases hab : a < b
  · have N1 := hide (fun w' (k : Below w.heap.size w w') => twin_any a va w' (ha.below k) hla)
    have hol := ordI_lt hab
    have hq : a / b = 0 := Nat.div_eq_of_lt hab
    have hm : a % b = a := Nat.mod_eq_of_lt hab
    rw [hq, hm]
    obtain ⟨x1, x2, x3, hx⟩ := slice_of ha
    obtain ⟨bo, cb, hvb, _⟩ := hb
    rw [hdb] at hvb
    subst hx hvb
    generalize ordI a b = od at *
    clear ha hla hlb hab hq hm hb0 hbB hdb
    go_enter Tryz.func131, Tryz.ntmps131
    go_wp2_with fail
    refine (unhide N0).mono ?_
    rintro e w1 ⟨rfl, k1⟩
    go_wp2_with fail
    refine (unhide N1 _ k1).mono ?_
    rintro e w2 ⟨⟨v2, rfl, h2⟩, k2⟩
    have HV := hide h2; have HK := hide (ext_callB k1 k2)
    clear h2 k1 k2
    go_wp2
    go_ret2
    exact ⟨⟨_, _, rfl, bigv_nil _ _ rfl, unhide HV⟩, unhide HK⟩
  have hge := ordI_ge (show b ≤ a by omega)
  by_cases h64 : a < 18446744073709551616
  · have N1 := hide (fun w' (k : Below w.heap.size w w') => plain_any a va w' (ha.below k) (by omega))
    have N2 := hide (fun w' (k : Below w.heap.size w w') => plain_any b vb w' (hb.below k) (by omega))
    have hda : ((dig a).length : Int) ≤ 2 := by
      by_cases h1 : a < 4294967296
      · rw [dig_one a (by omega) h1]; simp
      · rw [dig_two a (by omega) h64]; simp
    obtain ⟨q, hq⟩ : ∃ q, q = a / b := ⟨_, rfl⟩
    obtain ⟨r, hr⟩ : ∃ r, r = a % b := ⟨_, rfl⟩
    have hqb : q ≤ a := by rw [hq]; exact Nat.div_le_self _ _
    have hrb : r ≤ a := by rw [hr]; exact Nat.mod_le _ _
    have N3 := hide (fun w' => words_any q (by omega) w')
    have N4 := hide (fun w' => words_any r (by omega) w')
    have w1' : IntKind.u64.wrap ((a : Int) / (b : Int)) = (q : Int) := by
      have : (a : Int) / (b : Int) = (q : Int) := by rw [hq]; exact (Int.natCast_ediv a b).symm
      rw [this, wraps_u64 _ (by omega) (by omega)]
    have w2' : (a : Int) % (b : Int) = (r : Int) := by rw [hr]; exact (Int.natCast_emod a b).symm
    have w3' : IntKind.u64.wrap (r : Int) = (r : Int) := wraps_u64 _ (by omega) (by omega)
    have w2t : (a : Int).tmod (b : Int) = (r : Int) := by rw [Int.tmod_eq_emod_of_nonneg (by omega)]; exact w2'
    have hbz : (0 : Int) < (b : Int) := by omega
    have hbz2 : ((b : Int) == 0) = false := by rw [beq_eq_false_iff_ne]; omega
    have hbz3 : ¬ (b : Int) = 0 := by omega
    rw [← hq, ← hr]
    obtain ⟨ao, ca, hva, _⟩ := ha
    obtain ⟨bo, cb, hvb, _⟩ := hb
    rw [hdb] at hvb
    subst hva hvb
    generalize (dig a).length = la at *
    generalize ordI a b = od at *
    have hb0' : 0 < b := by omega
    clear hla hlb hab hbB hdb h64 hq hr hqb hrb
    go_enter Tryz.func131, Tryz.ntmps131
    go_wp2_with fail
    refine (unhide N0).mono ?_
    rintro e w1 ⟨rfl, k1⟩
    go_wp2_with fail
    refine (unhide N1 _ k1).mono ?_
    rintro e w2 ⟨rfl, hw2⟩
    subst hw2
    go_wp2_with fail
    refine (unhide N2 _ k1).mono ?_
    rintro e w3 ⟨rfl, hw3⟩
    subst hw3
    have K1 := hide k1
    clear N0 N1 N2 k1
    go_wp2_with fail
    go_region_held3 (fun w' => True)
      (trivial)
      ((first
        | (have hqq := kk1; go_at_call 98; refine (unhide N4 _).mono ?_; rintro e y2 ⟨⟨v2, rfl, h2⟩, kk2⟩)
        | (go_at_call 98; refine (unhide N3 _).mono ?_; rintro e y1 ⟨⟨v1, rfl, h1⟩, kk1⟩)))
    all_goals
      have R1 := hide (h1.below kk2); have R2 := hide h2; have RK := hide (ext_callB (unhide K1) ((below_drewN (Below.refl _ _) 1).trans (kk1.trans (kk2.mono kk1.size))))
      go_wp2
      go_ret2
      exact ⟨⟨_, _, rfl, unhide R1, unhide R2⟩, unhide RK⟩
  · have hdl : 2 < (dig a).length := by
      rcases Nat.lt_or_ge 2 (dig a).length with h | h
      · exact h
      · exfalso
        have h1 := lt_dig a
        have h2 := B32_mono h
        have h3 : B32 ^ 2 = 18446744073709551616 := by decide
        omega
    have hlen := dig_len 10000 a hla
    obtain ⟨ao, ca, hva, hra⟩ := ha
    obtain ⟨bo, cb, hvb, hrb⟩ := hb
    rw [hdb] at hvb hrb
    have N1 := hide (fun w' (k : Below w.heap.size w w') => by
      have := small_rows b (by omega) hbB (dig a) ao ca w' (hra.below k) (okV_dig a) (by omega) (by intro e; rw [e] at hdl; simp at hdl)
      rw [natV_dig] at this
      exact this)
    obtain ⟨r, hr⟩ : ∃ r, r = a % b := ⟨_, rfl⟩
    have hrB : r < 4294967296 := by rw [hr]; exact Nat.lt_trans (Nat.mod_lt _ (by omega)) hbB
    have hok : okV [r] := by
      intro y hy
      obtain rfl : y = r := by simpa using hy
      exact hrB
    have hnr : natV [r] = r := by show r + B32 * 0 = r; omega
    have N2 := hide (fun w' (g : Nat) (h : WRow w' (some ⟨g, 0, none⟩) [r]) => by
      have := trim_any [r] g 0 1 w' h hok (by simp) (by simp) (by simp)
      rw [hnr] at this
      exact this)
    have HWD := hide (fun (w' : World) (g : Nat) (h : WRow w' (some ⟨g, 0, none⟩) [r]) => by
      have := wrow_dig h hok
      rw [hnr] at this
      exact this)
    rcases hrb with h2 | ⟨gb, offb, rfl, hgb, hcb⟩
    · cases h2
    have c0 : w.cell? ⟨gb, offb, none⟩ = some (.int .u32 (b : Int)) := hcb 0 b rfl
    have C0 := hide (fun w' (k : Below w.heap.size w w') => (k.cell (p := ⟨gb, offb, none⟩) hgb).trans c0)
    rw [← hr] at N1 ⊢
    obtain ⟨q, hq⟩ : ∃ q, q = a / b := ⟨_, rfl⟩
    rw [← hq] at N1 ⊢
    subst hva hvb
    have hla2 : ¬ ((dig a).length : Int) ≤ 2 := by omega
    generalize (dig a).length = la at *
    generalize ordI a b = od at *
    clear hla hlb hab hbB hdb h64 hq hr hrB hok hnr hra hcb c0 hdl hlen
    go_enter Tryz.func131, Tryz.ntmps131
    go_wp2_with fail
    refine (unhide N0).mono ?_
    rintro e w1 ⟨rfl, k1⟩
    have c1 := unhide C0 _ k1
    go_wp2_with fail
    refine (unhide N1 _ k1).mono ?_
    rintro e w2 ⟨⟨v2, rfl, h2⟩, k2⟩
    have hwr : WRow (w2.alloc (.cells #[.int .u32 (r : Int)] 119)) (some ⟨w2.heap.size, 0, none⟩) [r] := .inr ⟨w2.heap.size, 0, rfl, by simp, fun i x hi => by
      have hi0 : i = 0 := by
        have := (List.getElem?_eq_some_iff.1 hi).1
        simpa using this
      subst hi0
      obtain rfl : r = x := by simpa using hi
      simp⟩
    have k3 := (Below.refl w2.heap.size w2).alloc (Nat.le_refl _) (.cells #[.int .u32 (r : Int)] 119)
    have N3 := hide (unhide N2 _ _ hwr)
    have R1 := hide (h2.below k3); have R2 := hide (unhide HWD _ _ hwr); have RK := hide (ext_callB (ext_callB k1 k2) k3)
    clear h2 k1 k2 k3 hwr N2 c1
    go_wp2_with fail
    refine (unhide N3).mono ?_
    rintro e w3 ⟨rfl, hw3⟩
    subst hw3
    go_wp2
    go_ret2
    exact ⟨⟨_, _, rfl, unhide R1, _, _, rfl, unhide R2⟩, unhide RK⟩
end Go.Proofs.YtckkhpegimkefaaGreatDoor
namespace Go.Proofs.YtckkhpegimkefaaGreatDoor
open Go.RowKit
set_option linter.unusedVariables false

theorem natV_drop (xs : List Nat) (k x : Nat) (h : xs[k]? = some x) : natV (xs.drop k) = x + B32 * natV (xs.drop (k + 1)) := by
  have hk : k < xs.length := (List.getElem?_eq_some_iff.1 h).1
  rw [List.drop_eq_getElem_cons hk]
  have : xs[k] = x := (List.getElem?_eq_some_iff.1 h).2
  rw [this]; rfl
/-- one word of a number that is divided by a power of two -/
theorem right_word {E D x y z D1 : Nat} (hE : ∃ t, 4294967296 = E * t ∧ 0 < t) (hE0 : 0 < E) (hx : x < 4294967296) (hD : D = x + B32 * D1) (h1 : D1 = y + B32 * z) (hy : y < 4294967296) :
    D / E = (x + 4294967296 * y) / E % 4294967296 + B32 * (D1 / E) := by
  obtain ⟨t, ht, ht0⟩ := hE
  unfold B32 at hD h1 ⊢
  have e1 : D / E / 4294967296 = D1 / E := by
    rw [Nat.div_div_eq_div_mul, Nat.mul_comm, ← Nat.div_div_eq_div_mul]
    congr 1
    omega
  have e2 : D / E = (x + 4294967296 * y) / E + 4294967296 * (t * z) := by
    have : D = x + 4294967296 * y + E * (4294967296 * (t * z)) := by
      rw [hD, h1]
      have : 4294967296 * (4294967296 * z) = E * (4294967296 * (t * z)) := by
        have h9 : E * (4294967296 * (t * z)) = (E * t) * (4294967296 * z) := by grind
        rw [h9, ← ht]
      rw [← this, Nat.mul_add]
      omega
    rw [this, Nat.add_mul_div_left _ _ hE0]
  have e3 : D / E % 4294967296 = (x + 4294967296 * y) / E % 4294967296 := by
    rw [e2, Nat.add_mul_mod_self_left]
  have := Nat.div_add_mod (D / E) 4294967296
  rw [e1, e3] at this
  omega
set_option maxHeartbeats 8000000 in
set_option maxRecDepth 100000 in
theorem rightK_rows (xs : List Nat) (s : Nat) (hs32 : s < 32) (ao : Option Addr) (ca : Nat) (w : World) (ha : WRow w ao xs) (oka : okV xs) (hla : (xs.length : Int) ≤ 100000) :
    Calls Tryz.prog 138 #[.slice ao xs.length ca, .int .u64 (s : Nat)] w fun e w' => (∃ v, e = .returned v ∧ BigV w' v (natV xs / 2 ^ s)) ∧ Below w.heap.size w w' := by
  have sq1 : (s : Int) / 32 = 0 := by omega
  have sq2 : (s : Int) % 32 = (s : Int) := by omega
  have hE1 : 0 < 2 ^ s := Nat.two_pow_pos _
  have hT := two_dvd32 hs32
  have hEi : ((2 : Int) ^ s) = ((2 ^ s : Nat) : Int) := by simp
  have HA := hide ha
  clear ha
  by_cases hx0 : xs = []
  · subst hx0
    clear HA oka hla
    go_enter Tryz.func138, Tryz.ntmps138
    go_wp2
    go_ret
    exact ⟨⟨_, rfl, none, 0, by simp [natV, dig_zero], .inl (by simp [natV, dig_zero])⟩, Below.refl _ _⟩
  have hxl : 0 < xs.length := List.length_pos_iff.2 hx0
  have hx0' : ¬ (xs.length : Int) ≤ 0 := by omega
  obtain ⟨E, hE⟩ : ∃ E, E = 2 ^ s := ⟨_, rfl⟩
  rw [← hE] at hE1 hT hEi ⊢
  have HE := hide hE
  have HT := hide hT
  clear hE hT
  obtain ⟨i0, hi, hz0, hz1, hz2⟩ := info_partsV infoU32
  go_enter Tryz.func138, Tryz.ntmps138
  go_wp2_with (at_make; refine wpList_make_full _ rfl _ _ 99 rfl w.heap.size 119 i0 (.int .u32 0) 1 Tryz.underlying99 hi hz0 hz1 .i64 .i64 _ _ xs.length rfl rfl (by simp) (by simp) (by rw [hz2]; omega) (by unfold maxLen; omega) (Nat.le_refl _) ?_)
  intro w1 hown hgrow
  have hU := made_vrow hown
  have hb : Below w.heap.size w w1 := (Below.refl _ _).grown hgrow (Nat.le_refl _) (fun q hq => by cases hq)
  clear hown hgrow hi hz0 hz1 hz2
  go_wp2
  go_loopw [8] (fun i wr => ∃ (k : Nat) (P : List Nat), k ≤ xs.length ∧ i = .int .i64 k ∧ VRow wr w.heap.size (P ++ List.replicate (xs.length - k) 0) ∧ P.length = k ∧ okV P ∧ Hid (natV P + B32 ^ k * (natV (xs.drop k) / E) = natV xs / E) ∧ Below w.heap.size w wr) (fun i _ => xs.length - (intOf i).toNat)
  case atStart => exact ⟨0, [], Nat.zero_le _, rfl, hU, rfl, okV_nil, hide (by simp [natV]), hb⟩
  case round =>
    clear hU hb
    obtain ⟨k, P, hk, rfl, hU, hPl, hPok, hPv, hbel⟩ := hrel
    by_cases hlt : k < xs.length
    · obtain ⟨x, hx⟩ : ∃ x, xs[k]? = some x := ⟨_, List.getElem?_eq_getElem hlt⟩
      have hxb : x < 4294967296 := okV_get oka hx
      rcases (unhide HA) with hnil | ⟨ga, oa, rfl, hga, hca⟩
      · rw [hnil] at hlt; simp at hlt
      have d0 : wr.cell? ⟨ga, oa + k, none⟩ = some (.int .u32 (x : Nat)) := (hbel.cell (p := ⟨ga, oa + k, none⟩) hga).trans (hca k x hx)
      have hrep : List.replicate (xs.length - k) 0 = 0 :: List.replicate (xs.length - (k + 1)) 0 := by
        rw [show xs.length - k = (xs.length - (k + 1)) + 1 by omega]; rfl
      rw [hrep] at hU
      have hfr := hU.frozen k
      have hcell := hU.cell k 0 (by rw [List.getElem?_append_right (by omega)]; simp [hPl])
      have hset : ∀ x : Nat, (P ++ 0 :: List.replicate (xs.length - (k + 1)) 0).set k x = (P ++ [x]) ++ List.replicate (xs.length - (k + 1)) 0 := fun x => by
        rw [List.set_append_right _ _ (by omega)]
        simp [hPl]
      have w1' : IntKind.u64.wrap (x : Int) = (x : Int) := wraps_u64 _ (by omega) (by omega)
      have w8' : IntKind.i64.wrap ((k : Int) + 1) = ((k + 1 : Nat) : Int) := by rw [IntKind.wrap_i64]; omega
      have hkA : (k : Int) < (xs.length : Int) := by omega
      have hD := natV_drop xs k x hx
      by_cases hl2 : k + 1 < xs.length
      · obtain ⟨y, hy⟩ : ∃ y, xs[k + 1]? = some y := ⟨_, List.getElem?_eq_getElem hl2⟩
        have hyb : y < 4294967296 := okV_get oka hy
        have d1 : wr.cell? ⟨ga, oa + (k + 1), none⟩ = some (.int .u32 (y : Nat)) := (hbel.cell (p := ⟨ga, oa + (k + 1), none⟩) hga).trans (hca (k + 1) y hy)
        have hD1 := natV_drop xs (k + 1) y hy
        obtain ⟨v, hv⟩ : ∃ v, v = x + 4294967296 * y := ⟨_, rfl⟩
        obtain ⟨vs, hvs⟩ : ∃ vs, vs = y * 4294967296 := ⟨_, rfl⟩
        obtain ⟨q, hq⟩ : ∃ q, q = v / E := ⟨_, rfl⟩
        obtain ⟨r, hr⟩ : ∃ r, r = q % 4294967296 := ⟨_, rfl⟩
        have hw := right_word (unhide HT) hE1 hxb hD hD1 hyb
        rw [← hv, ← hq, ← hr] at hw
        have hsum : natV (P ++ [r]) + B32 ^ (k + 1) * (natV (xs.drop (k + 1)) / E) = natV xs / E := by
          have h0 := unhide hPv
          rw [hw] at h0
          rw [natV_append, hPl, Nat.pow_succ]
          simp only [natV, Nat.mul_zero, Nat.add_zero]
          rw [← h0]
          grind
        have w2' : IntKind.u64.wrap (y : Int) = (y : Int) := wraps_u64 _ (by omega) (by omega)
        have w3' : IntKind.u64.wrap ((y : Int) * 4294967296) = (vs : Int) := by rw [wraps_u64 _ (by omega) (by omega)]; omega
        have w4' : bits .or .u64 (x : Int) (vs : Int) = (v : Int) := by
          rw [or_nat .u64 64 (by decide) (fun n h0 h1 => wraps_u64 n h0 h1) x vs (by omega) (by omega), Nat.or_comm, hvs, or_words y x (by omega)]
          omega
        have w5' : (v : Int) / (E : Int) = (q : Int) := by rw [hq]; simp
        have w5'' : (v : Int) / 2 ^ s = (q : Int) := by rw [hEi]; exact w5'
        have w6' : (q : Int) % 4294967296 = (r : Int) := by omega
        have hrb : r < B32 := by show r < 4294967296; omega
        have hkB : (k : Int) + 1 < (xs.length : Int) := by omega
        have hkC : ((k + 1 : Nat) : Int) < (xs.length : Int) := by omega
        have HV := hide (hU.set k r); have HBE := hide (hbel.setCell (p := ⟨w.heap.size, k, none⟩) (Nat.le_refl _) (.int .u32 (r : Nat)))
        have HSET := hide (hset r); have HSUM := hide hsum; have HRO := hide (okV_snoc hPok hrb)
        clear hca hx hy hxb hyb hv hvs hq hr hw hsum hU hbel hset hrep hrb hD hD1 hEi hPv
        go_wp2
        go_roundw
        case rel => exact ⟨k + 1, P ++ [r], by omega, by go_num, by rw [← unhide HSET]; exact unhide HV, by simp [hPl], unhide HRO, HSUM, unhide HBE⟩
        case measure => simp [intOf]; omega
      · have hD1 : natV (xs.drop (k + 1)) = 0 + B32 * 0 := by rw [List.drop_of_length_le (by omega)]; rfl
        obtain ⟨q, hq⟩ : ∃ q, q = x / E := ⟨_, rfl⟩
        obtain ⟨r, hr⟩ : ∃ r, r = q % 4294967296 := ⟨_, rfl⟩
        have hw := right_word (unhide HT) hE1 hxb hD hD1 (by decide)
        rw [Nat.mul_zero, Nat.add_zero, ← hq, ← hr] at hw
        have hsum : natV (P ++ [r]) + B32 ^ (k + 1) * (natV (xs.drop (k + 1)) / E) = natV xs / E := by
          have h0 := unhide hPv
          rw [hw] at h0
          rw [natV_append, hPl, Nat.pow_succ]
          simp only [natV, Nat.mul_zero, Nat.add_zero]
          rw [← h0]
          grind
        have w5' : (x : Int) / (E : Int) = (q : Int) := by rw [hq]; simp
        have w5'' : (x : Int) / 2 ^ s = (q : Int) := by rw [hEi]; exact w5'
        have w6' : (q : Int) % 4294967296 = (r : Int) := by omega
        have hrb : r < B32 := by show r < 4294967296; omega
        have hkB : ¬ (k : Int) + 1 < (xs.length : Int) := by omega
        have hkC : ¬ ((k + 1 : Nat) : Int) < (xs.length : Int) := by omega
        have HV := hide (hU.set k r); have HBE := hide (hbel.setCell (p := ⟨w.heap.size, k, none⟩) (Nat.le_refl _) (.int .u32 (r : Nat)))
        have HSET := hide (hset r); have HSUM := hide hsum; have HRO := hide (okV_snoc hPok hrb)
        clear hca hx hxb hq hr hw hsum hU hbel hset hrep hrb hD hD1 hEi hPv
        go_wp2
        go_roundw
        case rel => exact ⟨k + 1, P ++ [r], by omega, by go_num, by rw [← unhide HSET]; exact unhide HV, by simp [hPl], unhide HRO, HSUM, unhide HBE⟩
        case measure => simp [intOf]; omega
    · have hkx : k = xs.length := by omega
      have hnv : natV P = natV xs / E := by
        have h0 := unhide hPv
        rw [hkx, List.drop_length] at h0
        simpa [natV] using h0
      rw [hkx, Nat.sub_self, List.replicate_zero, List.append_nil] at hU
      have hll : P.length = xs.length := by rw [hPl, hkx]
      have n1 := trim_any P w.heap.size 0 xs.length _ hU.wrow hPok (by rw [hll]; omega) (by rw [hll]; omega) (by omega)
      have hwd := wrow_dig hU.wrow hPok
      rw [hnv, hll] at n1
      rw [hnv] at hwd
      have hkd : ¬ (k : Int) < (xs.length : Int) := by omega
      have N1 := hide n1; have HWD := hide hwd; have HBE := hide hbel
      clear n1 hwd hU hnv hPv hbel hkx hll
      go_wp2_with fail
      refine (unhide N1).mono ?_
      rintro e w2 ⟨rfl, rfl⟩
      go_wp2
      go_ret
      exact ⟨⟨_, rfl, _, _, rfl, unhide HWD⟩, unhide HBE⟩
end Go.Proofs.YtckkhpegimkefaaGreatDoor
