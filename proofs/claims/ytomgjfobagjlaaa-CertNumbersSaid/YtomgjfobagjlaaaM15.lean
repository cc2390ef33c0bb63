/- right by any number of bits below 32, of the big numbers. -/
import Derived.Test.YtomgjfobagjlaaaM08
import Derived.Test.YtomgjfobagjlaaaM14
namespace Go.Proofs.Ytomgjfobagjlaaa
open Go.RowKit
set_option linter.unusedVariables false

theorem natV_drop (xs : List Nat) (k x : Nat) (h : xs[k]? = some x) : natV (xs.drop k) = x + B32 * natV (xs.drop (k + 1)) := by
  have hk : k < xs.length := (List.getElem?_eq_some_iff.1 h).1
  rw [List.drop_eq_getElem_cons hk]
  have : xs[k] = x := (List.getElem?_eq_some_iff.1 h).2
  rw [this]; rfl
/-- one word of a number that is divided by a power of two -/
theorem right_word {E D x y z D1 : Nat} (hE : ∃ t, 4294967296 = E * t ∧ 0 < t) (hE0 : 0 < E) (hx : x < 4294967296) (hD : D = x + B32 * D1) (h1 : D1 = y + B32 * z) (hy : y < 4294967296) :
    D / E = (x + 4294967296 * y) / E % 4294967296 + B32 * (D1 / E) := by
  obtain ⟨t, ht, ht0⟩ := hE
  unfold B32 at hD h1 ⊢
  have e1 : D / E / 4294967296 = D1 / E := by
    rw [Nat.div_div_eq_div_mul, Nat.mul_comm, ← Nat.div_div_eq_div_mul]
    congr 1
    omega
  have e2 : D / E = (x + 4294967296 * y) / E + 4294967296 * (t * z) := by
    have : D = x + 4294967296 * y + E * (4294967296 * (t * z)) := by
      rw [hD, h1]
      have : 4294967296 * (4294967296 * z) = E * (4294967296 * (t * z)) := by
        have h9 : E * (4294967296 * (t * z)) = (E * t) * (4294967296 * z) := by grind
        rw [h9, ← ht]
      rw [← this, Nat.mul_add]
      omega
    rw [this, Nat.add_mul_div_left _ _ hE0]
  have e3 : D / E % 4294967296 = (x + 4294967296 * y) / E % 4294967296 := by
    rw [e2, Nat.add_mul_mod_self_left]
  have := Nat.div_add_mod (D / E) 4294967296
  rw [e1, e3] at this
  omega
set_option maxHeartbeats 8000000 in
set_option maxRecDepth 100000 in
theorem rightK_rows (xs : List Nat) (s : Nat) (hs32 : s < 32) (ao : Option Addr) (ca : Nat) (w : World) (ha : WRow w ao xs) (oka : okV xs) (hla : (xs.length : Int) ≤ 100000) :
    Calls Try.prog 75 #[.slice ao xs.length ca, .int .u64 (s : Nat)] w fun e w' => (∃ v, e = .returned v ∧ BigV w' v (natV xs / 2 ^ s)) ∧ Below w.heap.size w w' := by
  have sq1 : (s : Int) / 32 = 0 := by omega
  have sq2 : (s : Int) % 32 = (s : Int) := by omega
  have hE1 : 0 < 2 ^ s := Nat.two_pow_pos _
  have hT := two_dvd32 hs32
  have hEi : ((2 : Int) ^ s) = ((2 ^ s : Nat) : Int) := by simp
  have HA := hide ha
  clear ha
  by_cases hx0 : xs = []
  · subst hx0
    clear HA oka hla
    go_enter Try.func75, Try.ntmps75
    go_wp2
    go_ret
    exact ⟨⟨_, rfl, none, 0, by simp [natV, dig_zero], .inl (by simp [natV, dig_zero])⟩, Below.refl _ _⟩
  have hxl : 0 < xs.length := List.length_pos_iff.2 hx0
  have hx0' : ¬ (xs.length : Int) ≤ 0 := by omega
  obtain ⟨E, hE⟩ : ∃ E, E = 2 ^ s := ⟨_, rfl⟩
  rw [← hE] at hE1 hT hEi ⊢
  have HE := hide hE
  have HT := hide hT
  clear hE hT
  obtain ⟨i0, hi, hz0, hz1, hz2⟩ := info_partsV infoU32
  go_enter Try.func75, Try.ntmps75
  go_wp2_with (at_make; refine wpList_make_full _ rfl _ _ 46 rfl w.heap.size 77 i0 (.int .u32 0) 1 Try.underlying46 hi hz0 hz1 .i64 .i64 _ _ xs.length rfl rfl (by simp) (by simp) (by rw [hz2]; omega) (by unfold maxLen; omega) (Nat.le_refl _) ?_)
  intro w1 hown hgrow
  have hU := made_vrow hown
  have hb : Below w.heap.size w w1 := (Below.refl _ _).grown hgrow (Nat.le_refl _) (fun q hq => by cases hq)
  clear hown hgrow hi hz0 hz1 hz2
  go_wp2
  go_loopw [8] (fun i wr => ∃ (k : Nat) (P : List Nat), k ≤ xs.length ∧ i = .int .i64 k ∧ VRow wr w.heap.size (P ++ List.replicate (xs.length - k) 0) ∧ P.length = k ∧ okV P ∧ Hid (natV P + B32 ^ k * (natV (xs.drop k) / E) = natV xs / E) ∧ Below w.heap.size w wr) (fun i _ => xs.length - (intOf i).toNat)
  case atStart => exact ⟨0, [], Nat.zero_le _, rfl, hU, rfl, okV_nil, hide (by simp [natV]), hb⟩
  case round =>
    clear hU hb
    obtain ⟨k, P, hk, rfl, hU, hPl, hPok, hPv, hbel⟩ := hrel
    by_cases hlt : k < xs.length
    · obtain ⟨x, hx⟩ : ∃ x, xs[k]? = some x := ⟨_, List.getElem?_eq_getElem hlt⟩
      have hxb : x < 4294967296 := okV_get oka hx
      rcases (unhide HA) with hnil | ⟨ga, oa, rfl, hga, hca⟩
      · rw [hnil] at hlt; simp at hlt
      have d0 : wr.cell? ⟨ga, oa + k, none⟩ = some (.int .u32 (x : Nat)) := (hbel.cell (p := ⟨ga, oa + k, none⟩) hga).trans (hca k x hx)
      have hrep : List.replicate (xs.length - k) 0 = 0 :: List.replicate (xs.length - (k + 1)) 0 := by
        rw [show xs.length - k = (xs.length - (k + 1)) + 1 by omega]; rfl
      rw [hrep] at hU
      have hfr := hU.frozen k
      have hcell := hU.cell k 0 (by rw [List.getElem?_append_right (by omega)]; simp [hPl])
      have hset : ∀ x : Nat, (P ++ 0 :: List.replicate (xs.length - (k + 1)) 0).set k x = (P ++ [x]) ++ List.replicate (xs.length - (k + 1)) 0 := fun x => by
        rw [List.set_append_right _ _ (by omega)]
        simp [hPl]
      have w1' : IntKind.u64.wrap (x : Int) = (x : Int) := wraps_u64 _ (by omega) (by omega)
      have w8' : IntKind.i64.wrap ((k : Int) + 1) = ((k + 1 : Nat) : Int) := by rw [IntKind.wrap_i64]; omega
      have hkA : (k : Int) < (xs.length : Int) := by omega
      have hD := natV_drop xs k x hx
      by_cases hl2 : k + 1 < xs.length
      · obtain ⟨y, hy⟩ : ∃ y, xs[k + 1]? = some y := ⟨_, List.getElem?_eq_getElem hl2⟩
        have hyb : y < 4294967296 := okV_get oka hy
        have d1 : wr.cell? ⟨ga, oa + (k + 1), none⟩ = some (.int .u32 (y : Nat)) := (hbel.cell (p := ⟨ga, oa + (k + 1), none⟩) hga).trans (hca (k + 1) y hy)
        have hD1 := natV_drop xs (k + 1) y hy
        obtain ⟨v, hv⟩ : ∃ v, v = x + 4294967296 * y := ⟨_, rfl⟩
        obtain ⟨vs, hvs⟩ : ∃ vs, vs = y * 4294967296 := ⟨_, rfl⟩
        obtain ⟨q, hq⟩ : ∃ q, q = v / E := ⟨_, rfl⟩
        obtain ⟨r, hr⟩ : ∃ r, r = q % 4294967296 := ⟨_, rfl⟩
        have hw := right_word (unhide HT) hE1 hxb hD hD1 hyb
        rw [← hv, ← hq, ← hr] at hw
        have hsum : natV (P ++ [r]) + B32 ^ (k + 1) * (natV (xs.drop (k + 1)) / E) = natV xs / E := by
          have h0 := unhide hPv
          rw [hw] at h0
          rw [natV_append, hPl, Nat.pow_succ]
          simp only [natV, Nat.mul_zero, Nat.add_zero]
          rw [← h0]
          grind
        have w2' : IntKind.u64.wrap (y : Int) = (y : Int) := wraps_u64 _ (by omega) (by omega)
        have w3' : IntKind.u64.wrap ((y : Int) * 4294967296) = (vs : Int) := by rw [wraps_u64 _ (by omega) (by omega)]; omega
        have w4' : bits .or .u64 (x : Int) (vs : Int) = (v : Int) := by
          rw [or_nat .u64 64 (by decide) (fun n h0 h1 => wraps_u64 n h0 h1) x vs (by omega) (by omega), Nat.or_comm, hvs, or_words y x (by omega)]
          omega
        have w5' : (v : Int) / (E : Int) = (q : Int) := by rw [hq]; simp
        have w5'' : (v : Int) / 2 ^ s = (q : Int) := by rw [hEi]; exact w5'
        have w6' : (q : Int) % 4294967296 = (r : Int) := by omega
        have hrb : r < B32 := by show r < 4294967296; omega
        have hkB : (k : Int) + 1 < (xs.length : Int) := by omega
        have hkC : ((k + 1 : Nat) : Int) < (xs.length : Int) := by omega
        have HV := hide (hU.set k r); have HBE := hide (hbel.setCell (p := ⟨w.heap.size, k, none⟩) (Nat.le_refl _) (.int .u32 (r : Nat)))
        have HSET := hide (hset r); have HSUM := hide hsum; have HRO := hide (okV_snoc hPok hrb)
        clear hca hx hy hxb hyb hv hvs hq hr hw hsum hU hbel hset hrep hrb hD hD1 hEi hPv
        go_wp2
        go_roundw
        case rel => exact ⟨k + 1, P ++ [r], by omega, by go_num, by rw [← unhide HSET]; exact unhide HV, by simp [hPl], unhide HRO, HSUM, unhide HBE⟩
        case measure => simp [intOf]; omega
      · have hD1 : natV (xs.drop (k + 1)) = 0 + B32 * 0 := by rw [List.drop_of_length_le (by omega)]; rfl
        obtain ⟨q, hq⟩ : ∃ q, q = x / E := ⟨_, rfl⟩
        obtain ⟨r, hr⟩ : ∃ r, r = q % 4294967296 := ⟨_, rfl⟩
        have hw := right_word (unhide HT) hE1 hxb hD hD1 (by decide)
        rw [Nat.mul_zero, Nat.add_zero, ← hq, ← hr] at hw
        have hsum : natV (P ++ [r]) + B32 ^ (k + 1) * (natV (xs.drop (k + 1)) / E) = natV xs / E := by
          have h0 := unhide hPv
          rw [hw] at h0
          rw [natV_append, hPl, Nat.pow_succ]
          simp only [natV, Nat.mul_zero, Nat.add_zero]
          rw [← h0]
          grind
        have w5' : (x : Int) / (E : Int) = (q : Int) := by rw [hq]; simp
        have w5'' : (x : Int) / 2 ^ s = (q : Int) := by rw [hEi]; exact w5'
        have w6' : (q : Int) % 4294967296 = (r : Int) := by omega
        have hrb : r < B32 := by show r < 4294967296; omega
        have hkB : ¬ (k : Int) + 1 < (xs.length : Int) := by omega
        have hkC : ¬ ((k + 1 : Nat) : Int) < (xs.length : Int) := by omega
        have HV := hide (hU.set k r); have HBE := hide (hbel.setCell (p := ⟨w.heap.size, k, none⟩) (Nat.le_refl _) (.int .u32 (r : Nat)))
        have HSET := hide (hset r); have HSUM := hide hsum; have HRO := hide (okV_snoc hPok hrb)
        clear hca hx hxb hq hr hw hsum hU hbel hset hrep hrb hD hD1 hEi hPv
        go_wp2
        go_roundw
        case rel => exact ⟨k + 1, P ++ [r], by omega, by go_num, by rw [← unhide HSET]; exact unhide HV, by simp [hPl], unhide HRO, HSUM, unhide HBE⟩
        case measure => simp [intOf]; omega
    · have hkx : k = xs.length := by omega
      have hnv : natV P = natV xs / E := by
        have h0 := unhide hPv
        rw [hkx, List.drop_length] at h0
        simpa [natV] using h0
      rw [hkx, Nat.sub_self, List.replicate_zero, List.append_nil] at hU
      have hll : P.length = xs.length := by rw [hPl, hkx]
      have n1 := trim_any P w.heap.size 0 xs.length _ hU.wrow hPok (by rw [hll]; omega) (by rw [hll]; omega) (by omega)
      have hwd := wrow_dig hU.wrow hPok
      rw [hnv, hll] at n1
      rw [hnv] at hwd
      have hkd : ¬ (k : Int) < (xs.length : Int) := by omega
      have N1 := hide n1; have HWD := hide hwd; have HBE := hide hbel
      clear n1 hwd hU hnv hPv hbel hkx hll
      go_wp2_with fail
      refine (unhide N1).mono ?_
      rintro e w2 ⟨rfl, rfl⟩
      go_wp2
      go_ret
      exact ⟨⟨_, rfl, _, _, rfl, unhide HWD⟩, unhide HBE⟩
end Go.Proofs.Ytomgjfobagjlaaa
namespace Go.Proofs.Ytomgjfobagjlaaa
set_option linter.unusedVariables false

/-- what is known of a round: the window is Uw, its three upper words h and u2, what divides is V, its two upper words top and next -/
structure RoundK (Uw V h u2 top next P : Nat) : Prop where
  u : ∃ u', Uw = (h * B32 + u2) * P + u' ∧ u' < P
  v : ∃ v', V = (top * B32 + next) * P + v' ∧ v' < P
  lt : Uw < V * B32
  big : 2147483648 ≤ top
  tl : top < B32
  nl : next < B32
  ul : u2 < B32
  hle : h ≤ top * B32 + (B32 - 1)
  pos : 0 < P
/-- the guess: not too small, not far too great -/
structure GuessK (Uw V h top g r : Nat) : Prop where
  sum : g * top + r = h
  ge : Uw / V ≤ g
  le : g ≤ B32 + 1
theorem RoundK.vpos {Uw V h u2 top next P : Nat} (R : RoundK Uw V h u2 top next P) : 0 < V := by
  have h1 := R.lt
  rcases Nat.eq_zero_or_pos V with h0 | h0
  · rw [h0] at h1; omega
  · exact h0
theorem RoundK.qlt {Uw V h u2 top next P : Nat} (R : RoundK Uw V h u2 top next P) : Uw / V < B32 := Nat.div_lt_of_lt_mul R.lt
theorem guess_first {Uw V h u2 top next P : Nat} (R : RoundK Uw V h u2 top next P) : GuessK Uw V h top (h / top) (h % top) := by
  have ht : 0 < top := by have := R.big; omega
  obtain ⟨u', hu, hu'⟩ := R.u
  obtain ⟨v', hv, hv'⟩ := R.v
  have hd := Nat.div_add_mod h top
  refine ⟨by rw [Nat.mul_comm]; exact hd, ?_, ?_⟩
  · -- Uw / V ≤ h / top
    refine Nat.le_of_lt_succ (Nat.div_lt_of_lt_mul ?_)
    have hm := Nat.mod_lt h ht
    have h1 : h + 1 ≤ top * (h / top + 1) := by rw [Nat.mul_add, Nat.mul_one]; omega
    have h2 : (h + 1) * B32 ≤ top * (h / top + 1) * B32 := Nat.mul_le_mul_right _ h1
    have h3 : h * B32 + u2 + 1 ≤ top * (h / top + 1) * B32 := by have := R.ul; rw [Nat.add_mul, Nat.one_mul] at h2; omega
    have h4 : (h * B32 + u2 + 1) * P ≤ top * (h / top + 1) * B32 * P := Nat.mul_le_mul_right _ h3
    have h5 : top * (h / top + 1) * B32 * P ≤ V * (h / top + 1) := by
      have e : top * (h / top + 1) * B32 * P = (top * B32 * P) * (h / top + 1) := by grind
      rw [e]
      refine Nat.mul_le_mul_right _ ?_
      rw [hv]
      have : top * B32 * P ≤ (top * B32 + next) * P := Nat.mul_le_mul_right _ (by omega)
      omega
    have h6 : Uw < (h * B32 + u2 + 1) * P := by rw [hu, Nat.add_mul (h * B32 + u2) 1 P, Nat.one_mul]; omega
    exact Nat.lt_of_lt_of_le h6 (Nat.le_trans h4 h5)
  · -- h / top ≤ B32 + 1
    refine Nat.le_of_lt_succ (Nat.div_lt_of_lt_mul ?_)
    have h1 := R.hle
    have h2 := R.big
    have h3 : top * (B32 + 1 + 1) = top * B32 + top + top := by grind
    rw [h3]
    have : B32 = 4294967296 := rfl
    omega
/-- too great: one less is not too small -/
theorem guess_less {Uw V h u2 top next P g r : Nat} (R : RoundK Uw V h u2 top next P) (G : GuessK Uw V h top g r) (hC : B32 - 1 < g ∨ r * B32 + u2 < g * next) : 1 ≤ g ∧ GuessK Uw V h top (g - 1) (r + top) := by
  have hlt : Uw / V < g := by
    rcases hC with hC | hC
    · have := R.qlt
      omega
    · obtain ⟨u', hu, hu'⟩ := R.u
      obtain ⟨v', hv, hv'⟩ := R.v
      refine Nat.div_lt_of_lt_mul ?_
      have e1 : h * B32 + u2 + 1 ≤ g * (top * B32 + next) := by
        have := G.sum
        have e : g * (top * B32 + next) = g * top * B32 + g * next := by grind
        have e2 : h * B32 = g * top * B32 + r * B32 := by rw [← this, Nat.add_mul]
        omega
      have e2 : (h * B32 + u2 + 1) * P ≤ g * (top * B32 + next) * P := Nat.mul_le_mul_right _ e1
      have e3 : g * (top * B32 + next) * P ≤ V * g := by
        have e : g * (top * B32 + next) * P = (top * B32 + next) * P * g := by grind
        rw [e]
        exact Nat.mul_le_mul_right _ (by omega)
      have h6 : Uw < (h * B32 + u2 + 1) * P := by rw [hu, Nat.add_mul (h * B32 + u2) 1 P, Nat.one_mul]; omega
      omega
  have g1 : 1 ≤ g := Nat.lt_of_le_of_lt (Nat.zero_le _) hlt
  refine ⟨g1, ?_, by omega, by have := G.le; omega⟩
  have := G.sum
  have e : g * top = (g - 1) * top + top := by
    conv => lhs; rw [show g = (g - 1) + 1 by omega, Nat.add_mul, Nat.one_mul]
  omega
/-- the guess that is taken -/
structure TakenK (Uw V g : Nat) : Prop where
  ge : Uw / V ≤ g
  lt : g < B32
  le : g * V < Uw + V
theorem guess_taken {Uw V h u2 top next P g r : Nat} (R : RoundK Uw V h u2 top next P) (G : GuessK Uw V h top g r) (h1 : g ≤ B32 - 1) (h2 : g * next ≤ r * B32 + u2) : TakenK Uw V g := by
  have hB : 0 < B32 := B32_pos
  refine ⟨G.ge, by omega, ?_⟩
  obtain ⟨u', hu, hu'⟩ := R.u
  obtain ⟨v', hv, hv'⟩ := R.v
  have e1 : g * (top * B32 + next) ≤ h * B32 + u2 := by
    have := G.sum
    have e : g * (top * B32 + next) = g * top * B32 + g * next := by grind
    have e2 : h * B32 = g * top * B32 + r * B32 := by rw [← this, Nat.add_mul]
    omega
  have e2 : g * (top * B32 + next) * P ≤ (h * B32 + u2) * P := Nat.mul_le_mul_right _ e1
  have e3 : g * V = g * (top * B32 + next) * P + g * v' := by rw [hv]; grind
  have e4 : g * v' ≤ B32 * P := Nat.mul_le_mul (by omega) (by omega)
  have e5 : B32 * P + P ≤ V ∨ B32 * P ≤ V := by
    right
    rw [hv]
    have h9 := R.big
    have : B32 * P ≤ (top * B32 + next) * P := Nat.mul_le_mul_right _ (by
      have : 1 * B32 ≤ top * B32 := Nat.mul_le_mul_right _ (by omega)
      omega)
    omega
  have e6 : B32 * P ≤ V := by omega
  have e7 : g * v' < B32 * P ∨ P = 0 := by
    rcases Nat.eq_zero_or_pos g with h0 | h0
    · left; rw [h0, Nat.zero_mul]; exact Nat.mul_pos hB R.pos
    · left
      have : g * v' ≤ g * P := Nat.mul_le_mul_left _ (by omega)
      have : g * P ≤ (B32 - 1) * P := Nat.mul_le_mul_right _ h1
      have : (B32 - 1) * P < B32 * P := Nat.mul_lt_mul_of_pos_right (by omega) R.pos
      omega
  have e8 := R.pos
  omega
/-- where r has no room any more: the guess is taken -/
theorem guess_broken {Uw V h u2 top next P g r : Nat} (R : RoundK Uw V h u2 top next P) (G : GuessK Uw V h top g r) (hr : B32 - 1 < r) : TakenK Uw V g := by
  have hg : g ≤ B32 - 1 := by
    rcases Nat.lt_or_ge g B32 with h' | h'
    · omega
    · have h1 := R.hle
      have h2 := G.sum
      have h3 : B32 * top ≤ g * top := Nat.mul_le_mul_right _ h'
      have h4 : B32 * top = top * B32 := Nat.mul_comm _ _
      have : B32 = 4294967296 := rfl
      omega
  refine guess_taken R G hg ?_
  have h1 : g * next ≤ B32 * B32 := Nat.mul_le_mul (by omega) (Nat.le_of_lt R.nl)
  have h2 : B32 * B32 ≤ r * B32 := Nat.mul_le_mul_right _ (by omega)
  omega
theorem take_ring {B P Rn r g vn v wn u c d c' d' low : Nat} (hv : Rn + g * vn = wn + (c + d) * P) (h1 : c + g * v = low + c' * B) (h2 : r + low + d = u + d' * B) : Rn + P * r + g * (vn + v * P) = wn + u * P + (c' + d') * (P * B) := by
  have e : (c + g * v + r + d) * P = (u + d' * B + c' * B) * P := by
    congr 1
    omega
  grind
theorem add_ring {B P An c rn vn u v x c' : Nat} (hv : An + c * P = rn + vn) (h1 : c + u + v = x + c' * B) : An + P * x + c' * (P * B) = rn + u * P + (vn + v * P) := by
  have e : (c + u + v) * P = (x + c' * B) * P := by rw [h1]
  grind
/-- words taken away, one step -/
theorem take_step {R ws vs : List Nat} {g c d i u v low r c' d' : Nat} (hv : natV R + g * natV (vs.take i) = natV (ws.take i) + (c + d) * B32 ^ i) (hl : R.length = i) (hu : ws[i]? = some u) (hvv : vs[i]? = some v)
    (h1 : c + g * v = low + c' * B32) (h2 : r + low + d = u + d' * B32) : natV (R ++ [r]) + g * natV (vs.take (i + 1)) = natV (ws.take (i + 1)) + (c' + d') * B32 ^ (i + 1) := by
  rw [natV_append, hl, natV_take_succ vs i v hvv, natV_take_succ ws i u hu, Nat.pow_succ]
  simp only [natV, Nat.mul_zero, Nat.add_zero]
  exact take_ring hv h1 h2
theorem add_stepK {A rs vs : List Nat} {c i u v x c' : Nat} (hv : natV A + c * B32 ^ i = natV (rs.take i) + natV (vs.take i)) (hl : A.length = i) (hu : rs[i]? = some u) (hvv : vs[i]? = some v)
    (h1 : c + u + v = x + c' * B32) : natV (A ++ [x]) + c' * B32 ^ (i + 1) = natV (rs.take (i + 1)) + natV (vs.take (i + 1)) := by
  rw [natV_append, hl, natV_take_succ vs i v hvv, natV_take_succ rs i u hu, Nat.pow_succ]
  simp only [natV, Nat.mul_zero, Nat.add_zero]
  exact add_ring hv h1
/-- no word is wanted back: the guess was right -/
theorem taken_right {Uw V g Rn wn un c d P : Nat} (T : TakenK Uw V g) (hV : 0 < V) (hU : Uw = wn + un * P) (hR : Rn + g * V = wn + (c + d) * P) (hRl : Rn < P) (hVP : V ≤ P) (hle : c + d ≤ un) : g = Uw / V ∧ Rn = Uw % V ∧ un = c + d := by
  have e1 : (c + d) * P ≤ un * P := Nat.mul_le_mul_right _ hle
  have h1 : g * V ≤ Uw := by omega
  have hg : g = Uw / V := Nat.le_antisymm ((Nat.le_div_iff_mul_le hV).2 h1) T.ge
  have hm := Nat.div_add_mod Uw V
  have hm2 := Nat.mod_lt Uw hV
  rw [← hg, Nat.mul_comm] at hm
  have e2 : Rn + (un - (c + d)) * P = Uw % V := by
    have : un * P = (un - (c + d)) * P + (c + d) * P := by rw [← Nat.add_mul, Nat.sub_add_cancel hle]
    omega
  have e3 : un - (c + d) = 0 := by
    rcases Nat.eq_zero_or_pos (un - (c + d)) with h0 | h0
    · exact h0
    · have := Nat.le_mul_of_pos_left P h0
      omega
  rw [e3, Nat.zero_mul, Nat.add_zero] at e2
  exact ⟨hg, e2, by omega⟩
/-- words are wanted back: the guess was one too great -/
theorem taken_back {Uw V g Rn wn un c d P An c2 : Nat} (T : TakenK Uw V g) (hV : 0 < V) (hU : Uw = wn + un * P) (hR : Rn + g * V = wn + (c + d) * P) (hRl : Rn < P) (hVP : V ≤ P) (hlt : un < c + d) (hA : An + c2 * P = Rn + V) (hAl : An < P) :
    1 ≤ g ∧ g - 1 = Uw / V ∧ An = Uw % V ∧ un + c2 = c + d ∧ c2 = 1 := by
  have e1 : (un + 1) * P ≤ (c + d) * P := Nat.mul_le_mul_right _ hlt
  rw [Nat.add_mul, Nat.one_mul] at e1
  have h1 : Uw < g * V := by omega
  have h2 : Uw / V < g := Nat.div_lt_of_lt_mul (by rw [Nat.mul_comm]; exact h1)
  have hm := Nat.div_add_mod Uw V
  have hm2 := Nat.mod_lt Uw hV
  have g1 : 1 ≤ g := Nat.lt_of_le_of_lt (Nat.zero_le _) h2
  have h3 : (g - 1) * V ≤ Uw := by
    have := T.le
    have e : g * V = (g - 1) * V + V := by
      conv => lhs; rw [show g = (g - 1) + 1 by omega, Nat.add_mul, Nat.one_mul]
    omega
  have hg : g - 1 = Uw / V := Nat.le_antisymm ((Nat.le_div_iff_mul_le hV).2 h3) (by omega)
  have e : g * V = (g - 1) * V + V := by
    conv => lhs; rw [show g = (g - 1) + 1 by omega, Nat.add_mul, Nat.one_mul]
  rw [← hg, Nat.mul_comm] at hm
  have e4 : (c + d) * P = un * P + (c + d - un) * P := by rw [← Nat.add_mul]; congr 1; omega
  have e5 : An + c2 * P = Uw % V + (c + d - un) * P := by omega
  have e6 : An % P = Uw % V % P := by
    have := congrArg (· % P) e5
    simpa [Nat.add_mul_mod_self_right] using this
  rw [Nat.mod_eq_of_lt hAl, Nat.mod_eq_of_lt (show Uw % V < P by omega)] at e6
  have e7 : c2 * P = (c + d - un) * P := by omega
  have hP : 0 < P := by omega
  have e8 : c2 = c + d - un := Nat.eq_of_mul_eq_mul_right hP e7
  have e9 : c2 ≤ 1 := by
    rcases Nat.lt_or_ge 1 c2 with h' | h'
    · have : 2 * P ≤ c2 * P := Nat.mul_le_mul_right _ h'
      omega
    · exact h'
  exact ⟨g1, hg, e6, by omega, by omega⟩
/-- one round more -/
theorem round_more {B D D1 x Qn Y V : Nat} (hD : D = x + B * D1) (h1 : D1 = Qn * V + Y) : D = ((x + B * Y) / V + B * Qn) * V + (x + B * Y) % V := by
  have := Nat.div_add_mod (x + B * Y) V
  generalize (x + B * Y) / V = q at *
  generalize (x + B * Y) % V = r at *
  rw [hD, h1]
  grind
end Go.Proofs.Ytomgjfobagjlaaa
