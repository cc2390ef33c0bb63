/- once of the program: a number below twice the modulus, modulo it. -/
import Derived.Test.YtmdcaljccegiiaaGreatDoorM31
import Derived.Deep.RegionWith
namespace Go.Proofs.YtmdcaljccegiiaaGreatDoor
open Go.RowKit Go.Shelf
set_option linter.unusedVariables false

def sub64E : Array Value → Sem Value := fun args => do
  let (x, y, b) ← Extern.MathBitsCarry.three "Sub64" args
  pure (Extern.MathBitsCarry.pair ((x + Extern.MathBitsCarry.m64 - y - b) % Extern.MathBitsCarry.m64) (if x < y + b then 1 else 0))
theorem run_sub64E {P : Program} (x y b : Nat) (hb : b ≤ 1) (w : World) :
    (sub64E #[.int .u64 x, .int .u64 y, .int .u64 b]).run P w =
      .ok (.tuple #[.int .u64 (((x + 18446744073709551616 - y - b) % 18446744073709551616 : Nat) : Int), .int .u64 ((if x < y + b then 1 else 0 : Nat) : Int)]) w := by
  have : b = 0 ∨ b = 1 := by omega
  rcases this with rfl | rfl <;> rfl
theorem sub64_run0 (x y b : Nat) (hb : b ≤ 1) (w : World) :
    (callFunc 128 #[.int .u64 x, .int .u64 y, .int .u64 b]).run Tryz.prog w = .ok (.value (.tuple #[.int .u64 (((x + B64 - y - b) % B64 : Nat) : Int), .int .u64 ((if x < y + b then 1 else 0 : Nat) : Int)])) w := by
  unfold B64
  rw [run_callFunc_extern Tryz.func128 (by kernel_rfl) (by kernel_rfl) (by kernel_rfl) (e := sub64E) (by kernel_rfl), run_sub64E x y b hb]
  rfl

theorem sub_key (B x y b : Nat) (hx : x < B) (hy : y < B) (hb : b ≤ 1) : (x + B - y - b) % B + y + b = x + (if x < y + b then 1 else 0) * B := by
  split
  · rename_i h
    rw [Nat.mod_eq_of_lt (by omega), Nat.one_mul]
    omega
  · rename_i h
    have e : x + B - y - b = (x - y - b) + B := by omega
    rw [e, Nat.add_mod_right, Nat.mod_eq_of_lt (by omega), Nat.zero_mul]
    omega
/-- a difference, and what is borrowed -/
def subD (x y b : Nat) : Nat := (x + B64 - y - b) % B64
def subC (x y b : Nat) : Nat := if x < y + b then 1 else 0
theorem subD_lt (x y b : Nat) : subD x y b < B64 := Nat.mod_lt _ B64_pos
theorem subC_le (x y b : Nat) : subC x y b ≤ 1 := by unfold subC; split <;> omega
theorem subD_key (x y b : Nat) (hx : x < B64) (hy : y < B64) (hb : b ≤ 1) : subD x y b + y + b = x + subC x y b * B64 := by
  unfold subD subC
  generalize B64 = B at *
  exact sub_key B x y b hx hy hb
theorem sub_ring (a m t x y b d c P B : Nat) (hs : a + m = t + b * P) (key : d + y + b = x + c * B) : a + P * d + (m + y * P) = t + x * P + c * (P * B) := by grind
theorem sub_sum (a m t x y b d c P : Nat) (hs : a + m = t + b * P) (key : d + y + b = x + c * B64) : a + P * natW [d] + (m + y * P) = t + x * P + c * (P * B64) := by
  have e : natW [d] = d := by simp [natW]
  rw [e]
  exact sub_ring a m t x y b d c P B64 hs key
/-- behind i words -/
structure SubAt (ts ms : List Nat) (i : Nat) (u : List Nat) (b : Nat) : Prop where
  ok : okW u
  sum : natW (u.take i) + natW (ms.take i) = natW (ts.take i) + b * B64 ^ i
  le : b ≤ 1
theorem SubAt.step {ts ms : List Nat} {i b x y : Nat} {u : List Nat} (h : SubAt ts ms i u b) (hx : ts[i]? = some x) (hy : ms[i]? = some y) (hi : i < u.length) (hxb : x < B64) (hyb : y < B64) :
    SubAt ts ms (i + 1) (u.set i (subD x y b)) (subC x y b) := by
  refine ⟨okW_set h.ok _ _ (subD_lt x y b), ?_, subC_le x y b⟩
  rw [take_set u i _ hi, natW_append, natW_take_succ ts i x hx, natW_take_succ ms i y hy, List.length_take, Nat.min_eq_left (Nat.le_of_lt hi), Nat.pow_succ]
  exact sub_sum (natW (u.take i)) (natW (ms.take i)) (natW (ts.take i)) x y b (subD x y b) (subC x y b) (B64 ^ i) h.sum (subD_key x y b hxb hyb h.le)
theorem sub64_run (x y b : Nat) (hb : b ≤ 1) (w : World) :
    (callFunc 128 #[.int .u64 x, .int .u64 y, .int .u64 b]).run Tryz.prog w = .ok (.value (.tuple #[.int .u64 (subD x y b : Nat), .int .u64 (subC x y b : Nat)])) w := sub64_run0 x y b hb w
/-- the modulus as a value -/
def modV (gm om mn mc : Nat) (inv : Nat) (sq : Value) : Value := .agg #[.slice (some ⟨gm, om, none⟩) mn mc, .int .u64 (inv : Nat), sq]

theorem once_low {ts ms u : List Nat} {b top : Nat} (hm : okW ms) (hts : okW ts) (hl : ts.length = ms.length + 1) (hu : u.length = ms.length) (h : SubAt ts ms ms.length u b) (htop : ts[ms.length]? = some top) (hT : natW ts < 2 * natW ms) :
    (top < b → natW (ts.take ms.length) = natW ts % natW ms) ∧ (¬ top < b → natW u = natW ts % natW ms) := by
  have hs := h.sum
  rw [List.take_of_length_le (Nat.le_of_eq hu), List.take_of_length_le (Nat.le_refl ms.length)] at hs
  have e : natW ts = natW (ts.take ms.length) + top * B64 ^ ms.length := by
    rw [← natW_take_succ ts ms.length top htop, List.take_of_length_le (by omega)]
  have hml := natW_lt hm
  have hul := natW_lt h.ok
  rw [hu] at hul
  have htl := natW_lt (okW_take hts ms.length)
  rw [List.length_take, hl, Nat.min_eq_left (by omega)] at htl
  have hb := h.le
  generalize B64 ^ ms.length = P at *
  generalize natW (ts.take ms.length) = tl at *
  generalize natW u = un at *
  generalize natW ms = m at *
  rw [e] at hT ⊢
  have hm0 : 0 < m := by omega
  constructor
  · intro hlt
    have hb1 : b = 1 := by omega
    have ht0 : top = 0 := by omega
    subst hb1 ht0
    rw [Nat.zero_mul, Nat.add_zero, Nat.mod_eq_of_lt (by omega)]
  · intro hge
    have htop1 : top ≤ 1 := by
      rcases Nat.lt_or_ge 1 top with h2 | h2
      · have : 2 * P ≤ top * P := Nat.mul_le_mul_right _ h2
        omega
      · exact h2
    have hbt : b = top := by
      rcases Nat.lt_or_ge b top with h2 | h2
      · have hb0 : b = 0 := by omega
        have ht1 : top = 1 := by omega
        subst hb0 ht1
        omega
      · omega
    subst hbt
    have hge2 : m ≤ tl + b * P := by omega
    rw [Nat.mod_eq_sub_mod hge2, Nat.mod_eq_of_lt (by omega)]
    omega

set_option maxHeartbeats 4000000 in
set_option maxRecDepth 100000 in
theorem once_any (ts ms : List Nat) (g o tc gm om mc inv : Nat) (sq : Value) (w : World) (hT : NumAt w g o ts) (hM : NumAt w gm om ms) (hts : okW ts) (hms : okW ms) (hl : ts.length = ms.length + 1) (h2 : natW ts < 2 * natW ms) (hml : (ms.length : Int) ≤ 1000) (hcap : ts.length ≤ tc) (hsq : ∃ a n c, sq = .slice a n c) :
    Calls Tryz.prog 120 #[modV gm om ms.length mc inv sq, .slice (some ⟨g, o, none⟩) ts.length tc] w fun e w' => ∃ zg zo zc zs, e = .returned (.slice (some ⟨zg, zo, none⟩) zs.length zc) ∧ NumAt w' zg zo zs ∧ zs.length = ms.length ∧ okW zs ∧ natW zs = natW ts % natW ms ∧ zs.length ≤ zc ∧ Below w.heap.size w w' := by
  obtain ⟨sa, sn, sc, rfl⟩ := hsq
  obtain ⟨i0, hi, hz0, hz1, hz2⟩ := info_partsN infoU64
  unfold modV
  obtain ⟨n, hn⟩ : ∃ n, n = ms.length := ⟨_, rfl⟩
  rw [← hn] at hml ⊢
  have HN := hide hn
  have HT := hide hT
  have HM := hide hM
  have HTS := hide hts
  have HMS := hide hms
  have HL := hide hl
  have H2 := hide h2
  have hgl := hT.1
  have hgl' := hM.1
  have hcap2 : (n : Int) + 1 ≤ (tc : Int) := by have := unhide HN; omega
  clear hn hT hM hts hms hl h2 hcap
  go_enter Tryz.func120, Tryz.ntmps120
  go_wp2_with (at_make; refine wpList_make_full _ rfl _ _ 57 rfl (w.heap.size + 1) 54 i0 (.int .u64 0) 1 Tryz.underlying57 hi hz0 hz1 .i64 .i64 _ _ n rfl rfl rfl rfl (by rw [hz2]; omega) (by unfold maxLen; omega) (by simp) ?_)
  intro w1 hown hgrow
  have hb1 : Below (w.heap.size + 1) (w.alloc (.cells #[.slice (some ⟨gm, om, none⟩) n mc, .int .u64 (inv : Nat), .slice sa sn sc] 94)) w1 := by
    have := (Below.refl (w.heap.size + 1) (w.alloc (.cells #[.slice (some ⟨gm, om, none⟩) n mc, .int .u64 (inv : Nat), .slice sa sn sc] 94))).grown hgrow (by simp) (fun q hq => by cases hq)
    exact this
  have hb0 : Below w.heap.size w (w.alloc (.cells #[.slice (some ⟨gm, om, none⟩) n mc, .int .u64 (inv : Nat), .slice sa sn sc] 94)) := (Below.refl _ _).alloc (Nat.le_refl _) _
  have hq : w1.heap[w.heap.size]? = some (.cells #[.slice (some ⟨gm, om, none⟩) n mc, .int .u64 (inv : Nat), .slice sa sn sc] 94 (0, 0)) := by
    rw [hb1.block _ (by omega)]
    exact heap_alloc_new w _
  have hbel : Below w.heap.size w w1 := hb0.trans (hb1.mono (by omega))
  have hU : URow w1 (w.heap.size + 1) (List.replicate n 0) := by
    have := own_wholeN hown
    rw [made_words] at this
    exact this
  clear hown hgrow hb1 hb0 hi hz0 hz1 hz2
  go_wp2
  go_loopw [7, 15] (fun bv i wr => ∃ (k b : Nat) (u : List Nat), k ≤ n ∧ i = .int .i64 k ∧ bv = .int .u64 (b : Nat) ∧ u.length = n ∧ SubAt ts ms k u b ∧ URow wr (w.heap.size + 1) u ∧ wr.heap[w.heap.size]? = some (.cells #[.slice (some ⟨gm, om, none⟩) n mc, .int .u64 (inv : Nat), .slice sa sn sc] 94 (0, 0)) ∧ Below w.heap.size w wr) (fun _ i _ => n - (intOf i).toNat)
  case atStart => exact ⟨0, 0, _, Nat.zero_le _, rfl, rfl, by simp, ⟨okW_zeros _, by simp [natW], by omega⟩, hU, hq, hbel⟩
  case round =>
    clear hU hq hbel
    obtain ⟨k, b, u, hk, rfl, rfl, hul, hS, hU, hq, hbel⟩ := hrel
    by_cases hlt : k < n
    · have hN := unhide HN
      obtain ⟨x, hx⟩ : ∃ x, ts[k]? = some x := ⟨ts[k]'(by have := unhide HL; omega), List.getElem?_eq_getElem (by have := unhide HL; omega)⟩
      obtain ⟨y, hy⟩ : ∃ x, ms[k]? = some x := ⟨ms[k]'(by omega), List.getElem?_eq_getElem (by omega)⟩
      have hxb := okW_get (unhide HTS) hx
      have hyb := okW_get (unhide HMS) hy
      have hst := hS.step hx hy (by omega) hxb hyb
      have cx : wr.cell? ⟨g, o + k, none⟩ = some (.int .u64 (x : Nat)) := (hbel.cell (p := ⟨g, o + k, none⟩) hgl).trans ((unhide HT).2 k x hx)
      have cy : wr.cell? ⟨gm, om + k, none⟩ = some (.int .u64 (y : Nat)) := (hbel.cell (p := ⟨gm, om + k, none⟩) hgl').trans ((unhide HM).2 k y hy)
      have cm : wr.cell? ⟨w.heap.size, 0, none⟩ = some (.slice (some ⟨gm, om, none⟩) n mc) := (cell_of_row _ _ 0 _ _ _ hq).trans rfl
      obtain ⟨v, hv⟩ : ∃ v, u[k]? = some v := ⟨u[k]'(by omega), List.getElem?_eq_getElem (by omega)⟩
      have cu := hU.cell k v hv
      have fu := hU.frozen k
      have hset := hU.set k (subD x y b)
      have a1 := fun w => sub64_run x y b hS.le w
      have HQ2 := hide (show (wr.setCell ⟨w.heap.size + 1, k, none⟩ (.int .u64 (subD x y b : Nat))).heap[w.heap.size]? = some (.cells #[.slice (some ⟨gm, om, none⟩) n mc, .int .u64 (inv : Nat), .slice sa sn sc] 94 (0, 0)) by
        rw [← hq]; simp [World.setCell, Array.getElem?_modify])
      have HB := hide (hbel.setCell (p := ⟨w.heap.size + 1, k, none⟩) (Nat.le_succ _) (.int .u64 (subD x y b : Nat)))
      generalize subD x y b = d at *
      generalize subC x y b = c at *
      have HST := hide hst
      have HSE := hide hset
      have hki : (k : Int) < (n : Int) := by omega
      have hki2 : (k : Int) < (ts.length : Int) := by have := unhide HL; omega
      have hul2 : (u.set k d).length = n := by rw [List.length_set]; exact hul
      clear hst hset hS hU hq hbel hx hy hv hxb hyb hN
      go_wp2_with fail
      go_region
      go_wp2
      go_roundw
      case rel => exact ⟨k + 1, c, _, hlt, by go_num, rfl, hul2, unhide HST, (unhide HSE).drew, unhide HQ2, (unhide HB).drew⟩
      case measure => simp [intOf]; omega
    · have hkn : k = n := by omega
      subst hkn
      have hN := unhide HN
      have hL := unhide HL
      obtain ⟨top, htop⟩ : ∃ x, ts[ms.length]? = some x := ⟨ts[ms.length]'(by omega), List.getElem?_eq_getElem (by omega)⟩
      rw [hN] at hS
      have hlow := once_low (unhide HMS) (unhide HTS) hL (by omega) hS htop (unhide H2)
      have htop2 : ts[k]? = some top := by rw [hN]; exact htop
      have ct : wr.cell? ⟨g, o + k, none⟩ = some (.int .u64 (top : Nat)) := (hbel.cell (p := ⟨g, o + k, none⟩) hgl).trans ((unhide HT).2 k top htop2)
      have hkt : (k : Int) < (ts.length : Int) := by omega
      by_cases hc : top < b
      · have h1 := hlow.1 hc
        have hci : (top : Int) < (b : Int) := by omega
        have hz : NumAt wr g o (ts.take k) := ⟨Nat.lt_of_lt_of_le hgl hbel.size, fun i x hi => by
          have hik : i < k := by
            rcases Nat.lt_or_ge i k with h | h
            · exact h
            · rw [List.getElem?_eq_none (by rw [List.length_take]; omega)] at hi; cases hi
          rw [List.getElem?_take_of_lt hik] at hi
          exact (hbel.cell (p := ⟨g, o + i, none⟩) hgl).trans ((unhide HT).2 i x hi)⟩
        have HZ := hide hz
        have H1 := hide h1
        have HB := hide hbel
        have hzl : (ts.take k).length = k := by rw [List.length_take]; omega
        clear hlow hS hU hq hbel htop htop2 hz h1 hN hL
        go_wp2
        go_ret
        refine ⟨g, o, tc, ts.take k, ?_, unhide HZ, hzl, okW_take (unhide HTS) k, by rw [unhide HN]; exact unhide H1, by omega, unhide HB⟩
        rw [hzl]
        rfl
      · have h1 := hlow.2 hc
        have hci : ¬ (top : Int) < (b : Int) := by omega
        have hz : NumAt wr (w.heap.size + 1) 0 u := hU.numAt 0
        have HZ := hide hz
        have H1 := hide h1
        have HB := hide hbel
        have hok := hS.ok
        clear hlow hS hU hq hbel htop htop2 hz h1 hN hL
        go_wp2
        go_ret
        refine ⟨w.heap.size + 1, 0, k, u, ?_, unhide HZ, hul, hok, unhide H1, by omega, unhide HB⟩
        rw [hul]
        rfl
end Go.Proofs.YtmdcaljccegiiaaGreatDoor
namespace Go.Proofs.YtmdcaljccegiiaaGreatDoor
open Go.RowKit Go.Shelf
set_option linter.unusedVariables false

/-- what makes the low word 0 -/
def zeroBy (t inv : Nat) : Nat := t * inv % B64
theorem zeroBy_lt (t inv : Nat) : zeroBy t inv < B64 := Nat.mod_lt _ B64_pos
theorem zero_low (B t m0 inv M U : Nat) (hB : 0 < B) (hU : U % B = t % B) (hM : M % B = m0 % B) (hi : (m0 * inv + 1) % B = 0) : (U + t * inv % B * M) % B = 0 := by
  have e : (U + t * inv % B * M) % B = (t + t * inv * m0) % B := by
    rw [Nat.add_mod, Nat.mul_mod, Nat.mod_mod, hU, hM, ← Nat.mul_mod, ← Nat.add_mod]
  rw [e, show t + t * inv * m0 = t * (m0 * inv + 1) by grind, Nat.mul_mod, hi, Nat.mul_zero, Nat.zero_mod]
/-- behind i rounds -/
structure MontAt (xs ys ms : List Nat) (n i : Nat) (row : List Nat) (q : Nat) : Prop where
  len : row.length = 2 * n + 1
  ok : okW row
  sum : natW row = natW xs * natW (ys.take i) + q * natW ms
  low : natW (row.take i) = 0
  lt : q < B64 ^ i
theorem mont_lt (X M Y q P D : Nat) (hP : 0 < P) (hM : 0 < M) (hY : Y < P) (hq : q < P) (h : P * D = X * Y + q * M) : D < X + M := by
  rcases Nat.lt_or_ge D (X + M) with h1 | h1
  · exact h1
  · have h2 : P * (X + M) ≤ P * D := Nat.mul_le_mul_left _ h1
    have h3 : X * Y ≤ X * P := Nat.mul_le_mul_left _ (Nat.le_of_lt hY)
    have h4 : q * M + M ≤ P * M := by
      have : (q + 1) * M ≤ P * M := Nat.mul_le_mul_right _ hq
      rw [Nat.add_mul, Nat.one_mul] at this
      exact this
    have h5 : P * (X + M) = X * P + P * M := by rw [Nat.mul_add, Nat.mul_comm P X]
    omega
theorem MontAt.drop_lt {xs ys ms : List Nat} {n i q : Nat} {row : List Nat} (h : MontAt xs ys ms n i row q) (hy : okW ys) (hyl : ys.length = n) (hi : i ≤ n) (hM : 0 < natW ms) : natW (row.drop i) < natW xs + natW ms := by
  have e := natW_split row i (by rw [h.len]; omega)
  rw [h.low, Nat.zero_add, h.sum] at e
  have hY : natW (ys.take i) < B64 ^ i := by
    have := natW_lt (okW_take hy i)
    rw [List.length_take, hyl, Nat.min_eq_left hi] at this
    exact this
  exact mont_lt _ _ _ _ _ _ (Nat.pow_pos B64_pos) hM hY h.lt e.symm
theorem pow_room (P : Nat) (hP : 0 < P) (a b c d : Nat) (ha : a < 2 * P) (hb : b ≤ (B64 - 1) * P) (hc : c ≤ (B64 - 1) * P) : a + b + c < P * B64 * B64 := by
  have h1 : (B64 - 1) * P + P = P * B64 := by
    rw [Nat.sub_mul, Nat.one_mul, Nat.mul_comm P]
    have : P ≤ B64 * P := Nat.le_mul_of_pos_left _ B64_pos
    omega
  have h2 : P * B64 * 2 ≤ P * B64 * B64 := Nat.mul_le_mul_left _ (by unfold B64; decide)
  omega
/-- the low word of a number -/
theorem natW_mod (l : List Nat) (x : Nat) (h : l[0]? = some x) (hx : x < B64) : natW l % B64 = x := by
  cases l with
  | nil => cases h
  | cons y r =>
    simp only [List.getElem?_cons_zero, Option.some.injEq] at h
    subst h
    rw [natW, Nat.add_mul_mod_self_left, Nat.mod_eq_of_lt hx]
theorem MontAt.step {xs ys ms u1 u2 : List Nat} {n i q y t m0 inv : Nat} {row : List Nat} (h : MontAt xs ys ms n i row q) (hi : i < n) (hy : ys[i]? = some y) (hm0 : ms[0]? = some m0) (hms : okW ms) (hinv : (m0 * inv + 1) % B64 = 0)
    (hu1 : natW u1 = natW (row.drop i) + y * natW xs) (ht : u1[0]? = some t) (hok1 : okW u1) (hok2 : okW u2) (hl2 : u2.length = 2 * n + 1 - i) (hu2 : natW u2 = natW u1 + zeroBy t inv * natW ms) :
    MontAt xs ys ms n (i + 1) (row.take i ++ u2) (q + zeroBy t inv * B64 ^ i) := by
  have hrl := h.len
  have htl : (row.take i).length = i := by rw [List.length_take]; omega
  have e := natW_split row i (by omega)
  have hlow := h.low
  have hsum := h.sum
  rw [hlow, Nat.zero_add] at e
  have hz : natW u2 % B64 = 0 := by
    rw [hu2]
    exact zero_low B64 t m0 inv (natW ms) (natW u1) B64_pos (by rw [natW_mod u1 t ht (okW_get hok1 ht), Nat.mod_eq_of_lt (okW_get hok1 ht)]) (by rw [natW_mod ms m0 hm0 (okW_get hms hm0), Nat.mod_eq_of_lt (okW_get hms hm0)]) hinv
  have h0 : 0 < u2.length := by omega
  obtain ⟨v, hv⟩ : ∃ v, u2[0]? = some v := ⟨u2[0], List.getElem?_eq_getElem h0⟩
  have hv0 : v = 0 := by rw [← natW_mod u2 v hv (okW_get hok2 hv)]; exact hz
  refine ⟨by rw [List.length_append, htl, hl2]; omega, okW_append (okW_take h.ok i) hok2, ?_, ?_, ?_⟩
  · rw [natW_append, htl, hlow, Nat.zero_add, natW_take_succ ys i y hy, hu2, hu1]
    generalize zeroBy t inv = z at *
    generalize natW (row.drop i) = D at *
    generalize natW (ys.take i) = Y at *
    generalize natW row = R at *
    generalize natW xs = X at *
    generalize natW ms = M at *
    generalize B64 ^ i = P at *
    clear hz hu1 hu2 hlow h
    grind
  · have e2 : (row.take i ++ u2).take (i + 1) = row.take i ++ u2.take 1 := by
      rw [List.take_append, htl, List.take_of_length_le (by rw [htl]; omega), Nat.add_sub_cancel_left]
    have e3 : u2.take 1 = [v] := by
      have := List.take_add_one (l := u2) (i := 0)
      rw [hv] at this
      simpa using this
    rw [e2, natW_append, hlow, e3, hv0]
    simp [natW]
  · have hz2 := zeroBy_lt t inv
    have hq := h.lt
    rw [Nat.pow_succ]
    generalize zeroBy t inv = z at *
    generalize B64 ^ i = P at *
    have : (z + 1) * P ≤ B64 * P := Nat.mul_le_mul_right _ hz2
    rw [Nat.add_mul, Nat.one_mul, Nat.mul_comm B64] at this
    omega
theorem natW_drop_eq {row : List Nat} {i : Nat} (h : i ≤ row.length) (hlow : natW (row.take i) = 0) : natW row = B64 ^ i * natW (row.drop i) := by
  have := natW_split row i h
  rw [hlow, Nat.zero_add] at this
  exact this
end Go.Proofs.YtmdcaljccegiiaaGreatDoor
