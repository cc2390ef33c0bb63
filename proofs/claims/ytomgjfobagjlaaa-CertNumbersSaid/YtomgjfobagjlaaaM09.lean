/- The big numbers' sums, by the numbers themselves; a number divided by 3. -/
import Derived.Test.YtomgjfobagjlaaaM08
namespace Go.Proofs.Ytomgjfobagjlaaa
open Go.RowKit
set_option linter.unusedVariables false

theorem mul_any (a b : Nat) (va vb : Value) (w : World) (ha : BigV w va a) (hb : BigV w vb b) (hla : a < B32 ^ 5000) (hlb : b < B32 ^ 5000) :
    Calls Try.prog 43 #[va, vb] w fun e w' => (∃ v, e = .returned v ∧ BigV w' v (a * b)) ∧ Below w.heap.size w w' := by
  obtain ⟨ao, ca, rfl, hra⟩ := ha
  obtain ⟨bo, cb, rfl, hrb⟩ := hb
  have h1 := dig_len 5000 a hla
  have h2 := dig_len 5000 b hlb
  by_cases h0 : dig a = []
  · have ha0 : a = 0 := by have := natV_dig a; rw [h0] at this; exact this.symm
    subst ha0
    rw [dig_zero, Nat.zero_mul]
    clear hra hrb h1 h2 hla hlb h0
    go_enter Try.func43, Try.ntmps43
    go_wp2
    go_ret
    exact ⟨⟨_, rfl, none, 0, by rw [dig_zero]; rfl, .inl dig_zero⟩, Below.refl _ _⟩
  by_cases h0' : dig b = []
  · have hb0 : b = 0 := by have := natV_dig b; rw [h0'] at this; exact this.symm
    subst hb0
    rw [dig_zero, Nat.mul_zero]
    have hne : ¬ dig a = [] := h0
    have hneI : (((dig a).length : Int) == 0) = false := by simp; exact h0
    clear hra hrb h1 h2 hla hlb h0 h0'
    generalize dig a = l at *
    go_enter Try.func43, Try.ntmps43
    go_wp2
    go_ret
    exact ⟨⟨_, rfl, none, 0, by rw [dig_zero]; rfl, .inl dig_zero⟩, Below.refl _ _⟩
  have := mul_rows (dig a) (dig b) ao bo ca cb w hra hrb (okV_dig a) (okV_dig b) (by omega) (by omega) h0 h0'
  rw [natV_dig, natV_dig] at this
  exact this
theorem sub_any (a b : Nat) (va vb : Value) (w : World) (ha : BigV w va a) (hb : BigV w vb b) (hla : a < B32 ^ 10000) (hle : b ≤ a) (ha0 : a ≠ 0) :
    Calls Try.prog 53 #[va, vb] w fun e w' => (∃ v, e = .returned v ∧ BigV w' v (a - b)) ∧ Below w.heap.size w w' := by
  obtain ⟨ao, ca, rfl, hra⟩ := ha
  obtain ⟨bo, cb, rfl, hrb⟩ := hb
  have h1 := dig_len 10000 a hla
  have h0 : dig a ≠ [] := fun e => ha0 (by have := natV_dig a; rw [e] at this; exact this.symm)
  have := sub_rows (dig a) (dig b) ao bo ca cb w hra hrb (okV_dig a) (okV_dig b) (by omega) (len_le hle) (by rw [natV_dig, natV_dig]; exact hle) h0
  rw [natV_dig, natV_dig] at this
  exact this
theorem cmp_any (a b : Nat) (va vb : Value) (w : World) (ha : BigV w va a) (hb : BigV w vb b) (hla : a < B32 ^ 10000) (hlb : b < B32 ^ 10000) :
    Calls Try.prog 47 #[va, vb] w fun e w' => e = .returned (.int .i64 (ordI a b)) ∧ Below w.heap.size w w' := by
  obtain ⟨ao, ca, rfl, hra⟩ := ha
  obtain ⟨bo, cb, rfl, hrb⟩ := hb
  have h1 := dig_len 10000 a hla
  have h2 := dig_len 10000 b hlb
  have := cmp_rows (dig a) (dig b) ao bo ca cb w hra hrb (okV_dig a) (okV_dig b) (by omega) (by omega) (fun h => by rw [natV_dig, natV_dig]; exact len_lt h) (fun h => by rw [natV_dig, natV_dig]; exact len_lt h)
  rw [natV_dig, natV_dig] at this
  exact this
theorem left8_any (a : Nat) (va : Value) (w : World) (ha : BigV w va a) (hla : a < B32 ^ 10000) :
    Calls Try.prog 69 #[va, .int .u64 8] w fun e w' => (∃ v, e = .returned v ∧ BigV w' v (a * 256)) ∧ Below w.heap.size w w' := by
  obtain ⟨ao, ca, rfl, hra⟩ := ha
  have h1 := dig_len 10000 a hla
  have := left8_rows (dig a) ao ca w hra (okV_dig a) (by omega)
  rw [natV_dig] at this
  exact this
end Go.Proofs.Ytomgjfobagjlaaa
namespace Go.Proofs.Ytomgjfobagjlaaa
open Go.RowKit
set_option linter.unusedVariables false

theorem or_words (r x : Nat) (hx : x < 4294967296) : r * 4294967296 ||| x = r * 4294967296 + x := by
  have := Nat.two_pow_add_eq_or_of_lt (i := 32) (b := x) hx r
  rw [show (2 : Nat) ^ 32 = 4294967296 from rfl] at this
  rw [Nat.mul_comm, ← this]
theorem small_step {Q D : List Nat} {x r r1 q : Nat} (hv : natV D = natV Q * 3 + r) (h1 : r1 = r * 4294967296 + x) (hq : q = r1 / 3) : natV (x :: D) = natV (q :: Q) * 3 + r1 % 3 := by
  simp only [natV]
  rw [hv]
  have h2 : r1 = r * B32 + x := h1
  have h3 := Nat.div_add_mod r1 3
  rw [← hq] at h3
  have h4 : B32 * (natV Q * 3 + r) = B32 * natV Q * 3 + r * B32 := by grind
  have h5 : (q + B32 * natV Q) * 3 = 3 * q + B32 * natV Q * 3 := by grind
  omega
set_option maxHeartbeats 8000000 in
set_option maxRecDepth 100000 in
theorem small3_rows (xs : List Nat) (ao : Option Addr) (ca : Nat) (w : World) (ha : WRow w ao xs) (oka : okV xs) (hla : (xs.length : Int) ≤ 10000) (hx0 : xs ≠ []) :
    Calls Try.prog 74 #[.slice ao xs.length ca, .int .u32 3] w fun e w' => (∃ v, e = .returned (.tuple #[v, .int .u32 ((natV xs % 3 : Nat) : Int)]) ∧ BigV w' v (natV xs / 3)) ∧ Below w.heap.size w w' := by
  have HA := hide ha
  have hlp : 1 ≤ xs.length := List.length_pos_iff.2 hx0
  clear ha
  have hw1 : IntKind.i64.wrap ((xs.length : Int) - 1) = (xs.length : Int) - 1 := by rw [IntKind.wrap_i64]; omega
  obtain ⟨i0, hi, hz0, hz1, hz2⟩ := info_partsV infoU32
  go_enter Try.func74, Try.ntmps74
  go_wp2_with (at_make; refine wpList_make_full _ rfl _ _ 46 rfl w.heap.size 77 i0 (.int .u32 0) 1 Try.underlying46 hi hz0 hz1 .i64 .i64 _ _ xs.length rfl rfl (by simp) (by simp) (by rw [hz2]; omega) (by unfold maxLen; omega) (Nat.le_refl _) ?_)
  intro w1 hown hgrow
  have hU := made_vrow hown
  have hb : Below w.heap.size w w1 := (Below.refl _ _).grown hgrow (Nat.le_refl _) (fun q hq => by cases hq)
  clear hown hgrow hi hz0 hz1 hz2
  go_wp2
  go_loopw [7, 8] (fun rv iv wr => ∃ (i r : Nat) (Q : List Nat), i ≤ xs.length ∧ iv = .int .i64 ((i : Int) - 1) ∧ rv = .int .u64 r ∧ r < 3 ∧ VRow wr w.heap.size (List.replicate i 0 ++ Q) ∧ Q.length = xs.length - i ∧ okV Q ∧ natV (xs.drop i) = natV Q * 3 + r ∧ Below w.heap.size w wr) (fun _ iv _ => (intOf iv + 1).toNat)
  case atStart => exact ⟨xs.length, 0, [], Nat.le_refl _, by first | rfl | go_num, rfl, by decide, by simpa using hU, by simp, okV_nil, by simp [natV], hb⟩
  case round =>
    clear hU hb
    obtain ⟨i, r, Q, hi, rfl, rfl, hr3, hU, hQl, hQok, hQv, hbel⟩ := hrel
    by_cases h0 : i = 0
    · subst h0
      rw [List.replicate_zero, List.nil_append] at hU
      rw [List.drop_zero] at hQv
      have hq : natV Q = natV xs / 3 := by omega
      have hrr : r = natV xs % 3 := by omega
      have n1 := trim_any Q w.heap.size 0 xs.length _ hU.wrow hQok (by omega) (by omega) (by omega)
      have hwd := wrow_dig hU.wrow hQok
      rw [hq] at n1 hwd
      rw [show Q.length = xs.length by omega] at n1
      have wr3 : (r : Int) % 4294967296 = (r : Int) := by omega
      have N1 := hide n1; have HWD := hide hwd; have HBE := hide hbel; have HRR := hide hrr
      clear n1 hwd hU hq hrr hQv hbel
      go_wp2_with fail
      refine (unhide N1).mono ?_
      rintro e w2 ⟨rfl, rfl⟩
      go_wp2
      go_ret2
      exact ⟨⟨_, by rw [← unhide HRR]; rfl, _, _, rfl, unhide HWD⟩, unhide HBE⟩
    · obtain ⟨j, rfl⟩ : ∃ j, i = j + 1 := ⟨i - 1, by omega⟩
      have ej : ((j + 1 : Nat) : Int) - 1 = (j : Int) := by omega
      rw [ej]
      obtain ⟨x, hx⟩ : ∃ x, xs[j]? = some x := ⟨_, List.getElem?_eq_getElem (by omega)⟩
      have hxb : x < 4294967296 := okV_get oka hx
      rcases (unhide HA) with hnil | ⟨ga, oa, rfl, hga, hca⟩
      · rw [hnil] at hx; simp at hx
      have d0 : wr.cell? ⟨ga, oa + j, none⟩ = some (.int .u32 (x : Nat)) := (hbel.cell (p := ⟨ga, oa + j, none⟩) hga).trans (hca j x hx)
      have hrep : List.replicate (j + 1) 0 ++ Q = List.replicate j 0 ++ 0 :: Q := by rw [List.replicate_succ']; simp
      rw [hrep] at hU
      have q0 := hU.cell j 0 (by rw [List.getElem?_append_right (by simp)]; simp)
      have f0 := hU.frozen j
      obtain ⟨rs, hrs⟩ : ∃ v, v = r * 4294967296 := ⟨_, rfl⟩
      obtain ⟨r1, hr1⟩ : ∃ v, v = r * 4294967296 + x := ⟨_, rfl⟩
      obtain ⟨q, hq⟩ : ∃ v, v = r1 / 3 := ⟨_, rfl⟩
      obtain ⟨r2, hr2⟩ : ∃ v, v = r1 % 3 := ⟨_, rfl⟩
      have hdr : xs.drop j = x :: xs.drop (j + 1) := by
        obtain ⟨h1, e1⟩ := List.getElem?_eq_some_iff.1 hx
        rw [List.drop_eq_getElem_cons h1, e1]
      have hst := small_step (Q := Q) hQv hr1 hq
      rw [← hdr, ← hr2] at hst
      have wx : IntKind.u64.wrap (x : Int) = (x : Int) := wraps_u64 _ (by omega) (by omega)
      have w1' : IntKind.u64.wrap ((r : Int) * 4294967296) = (rs : Int) := by rw [wraps_u64 _ (by omega) (by omega)]; omega
      have w2' : bits .or .u64 (rs : Int) (x : Int) = (r1 : Int) := by
        rw [or_nat .u64 64 (by decide) (fun n h0 h1 => wraps_u64 n h0 h1) rs x (by omega) (by omega), hrs, or_words r x hxb, hr1]
      have w3' : IntKind.u64.wrap ((r1 : Int) / 3) = (q : Int) := by rw [wraps_u64 _ (by omega) (by omega)]; omega
      have w4' : (q : Int) % 4294967296 = (q : Int) := by omega
      have w5' : (r1 : Int) % 3 = (r2 : Int) := by omega
      have w6' : IntKind.u64.wrap (r2 : Int) = (r2 : Int) := wraps_u64 _ (by omega) (by omega)
      have hnx : IntKind.i64.wrap ((j : Int) - 1) = (j : Int) - 1 := by rw [IntKind.wrap_i64]; omega
      have hj0 : (0 : Int) ≤ (j : Int) := by omega
      have hji : (j : Int) < (xs.length : Int) := by omega
      have hr23 : r2 < 3 := by omega
      have hqb : q < B32 := by show q < 4294967296; omega
      have hset : (List.replicate j 0 ++ 0 :: Q).set j q = List.replicate j 0 ++ q :: Q := by
        rw [List.set_append_right _ _ (by simp)]
        simp
      have hU1 := hU.set j q
      rw [hset] at hU1
      have HU1 := hide hU1; have HBE := hide (hbel.setCell (p := ⟨w.heap.size, j, none⟩) (Nat.le_refl _) (.int .u32 (q : Nat)))
      have HOK : Hid (okV (q :: Q)) := hide (fun y hy => by
        rcases List.mem_cons.1 hy with rfl | hy
        · exact hqb
        · exact hQok y hy)
      have HST := hide hst
      have HQL : Hid ((q :: Q).length = xs.length - j) := hide (by rw [List.length_cons]; omega)
      clear hca hx hrep hU hU1 hset hst hdr hbel hQv hQok hrs hr1 hq hr2 hqb ej h0 hxb
      go_wp2
      go_roundw
      case rel => exact ⟨j, r2, q :: Q, by omega, by go_num, by first | rfl | rw [w5'], hr23, unhide HU1, unhide HQL, unhide HOK, unhide HST, unhide HBE⟩
      case measure => simp [intOf] <;> omega
end Go.Proofs.Ytomgjfobagjlaaa
