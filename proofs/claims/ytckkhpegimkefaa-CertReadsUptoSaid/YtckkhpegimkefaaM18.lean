/- text of a number. -/
import Derived.Test.YtckkhpegimkefaaM15
import Derived.Lib.Strings
import Derived.Lib.Walk
import Derived.Lib.BitFns
namespace Go.Proofs.Ytckkhpegimkefaa
open Go.RowKit Go.Shelf
set_option linter.unusedVariables false

theorem pow_split (r : Nat) (hr : r < 8) : B64 = 2 ^ (8 * r) * (2 ^ (56 - 8 * r) * 256) := by
  have h256 : (256 : Nat) = 2 ^ 8 := rfl
  have hB : B64 = 2 ^ 64 := rfl
  rw [hB, h256, ← Nat.pow_add, ← Nat.pow_add]
  congr 1
  omega
theorem word_byte (x h E F : Nat) (hE : 0 < E) : (x + E * (F * 256) * h) / E % 256 = x / E % 256 := by
  rw [show E * (F * 256) * h = E * (F * h * 256) by grind, Nat.add_mul_div_left _ _ hE, Nat.add_mul_mod_self_right]
theorem natW_byte {xs : List Nat} {i q r x : Nat} (hx : okW xs) (hi : i = 8 * q + r) (hr : r < 8) (hq : xs[q]? = some x) : natW xs / 256 ^ i % 256 = x / 2 ^ (8 * r) % 256 := by
  have hl : q < xs.length := by
    rcases Nat.lt_or_ge q xs.length with h | h
    · exact h
    · rw [List.getElem?_eq_none h] at hq; cases hq
  have e := natW_split xs q (by omega)
  have hd : xs.drop q = x :: xs.drop (q + 1) := by
    rw [List.drop_eq_getElem_cons hl]
    rw [List.getElem?_eq_getElem hl] at hq
    rw [Option.some.inj hq]
  rw [hd, natW] at e
  have hlow := natW_lt (okW_take hx q)
  rw [List.length_take, Nat.min_eq_left (by omega)] at hlow
  have hp : 0 < B64 ^ q := Nat.pow_pos B64_pos
  rw [hi, pow_256W, ← Nat.div_div_eq_div_mul, e, Nat.add_mul_div_left _ _ hp, Nat.div_eq_of_lt hlow, Nat.zero_add]
  conv => lhs; rw [pow_split r hr]
  exact word_byte x _ _ _ (Nat.pow_pos (by decide))

/-- the row behind j rounds: zeros, then the low j bytes -/
def rowTx (n k j : Nat) : List Int := List.replicate (k - j) 0 ++ bigL n j
theorem rowTx_length (n k j : Nat) (h : j ≤ k) : (rowTx n k j).length = k := by simp [rowTx, bigL_length]; omega
theorem rowTx_set (n k j : Nat) (h : j < k) : (rowTx n k j).set (k - 1 - j) ((n / 256 ^ j % 256 : Nat) : Int) = rowTx n k (j + 1) := by
  unfold rowTx
  rw [show k - j = (k - (j + 1)) + 1 by omega, List.replicate_succ', List.append_assoc, show k - 1 - j = (List.replicate (k - (j + 1)) (0 : Int)).length + 0 by simp; omega, List.set_append_right _ _ (by omega)]
  simp [bigL]
theorem made_rowTx (k : Nat) (n : Nat) : (madeCells #[Value.int .u8 0] k).toList = (rowTx n k 0).map (Value.int .u8) := by
  have e : rowTx n k 0 = List.replicate k 0 := by simp [rowTx, bigL]
  rw [e, List.map_replicate]
  apply List.ext_getElem
  · simp [madeCells]
  · intro i h1 h2
    simp [madeCells, Nat.mod_one]
theorem below_num {w w' : World} {B g off : Nat} {ws : List Nat} (h : NumAt w g off ws) (hb : Below B w w') (hg : g < B) : ∀ i x, ws[i]? = some x → w'.cell? ⟨g, off + i, none⟩ = some (.int .u64 (x : Nat)) :=
  fun i x hi => (hb.cell (p := ⟨g, off + i, none⟩) hg).trans (h.2 i x hi)

set_option maxHeartbeats 1000000 in
set_option maxRecDepth 100000 in
theorem ctext_any (xs : List Nat) (g o c k : Nat) (w : World) (hX : NumAt w g o xs) (hx : okW xs) (hk : k ≤ 8 * xs.length) (hkb : (k : Int) ≤ 1000) :
    Calls Try.prog 38 #[.slice (some ⟨g, o, none⟩) xs.length c, .int .i64 k] w fun e w' => e = .returned (.string (strOfNums (bigL (natW xs) k))) ∧ Below w.heap.size w w' := by
  obtain ⟨i0, hi, hz0, hz1, hz2⟩ := info_partsN (t := 5) infoByte
  have HX := hide hX
  have g1 := hX.1
  have Hx := hide hx
  clear hX hx
  go_enter Try.func38, Try.ntmps38
  go_wp2_with (at_make; refine wpList_make_full _ rfl _ _ 48 rfl w.heap.size 5 i0 (.int .u8 0) 1 Try.underlying48 hi hz0 hz1 .i64 .i64 _ _ k rfl rfl rfl rfl (by rw [hz2]; omega) (by unfold maxLen; omega) (Nat.le_refl _) ?_)
  intro w1 hown hgrow
  rw [made_rowTx k (natW xs)] at hown
  have hb : Below w.heap.size w w1 := (Below.refl _ _).grown hgrow (Nat.le_refl _) (fun q hq => by cases hq)
  clear hgrow hi hz0 hz1 hz2
  go_wp2
  go_loopw [10] (fun i wr => ∃ j : Nat, j ≤ k ∧ i = .int .i64 j ∧ wr.ownsRow w.heap.size 5 1 (.slice (some ⟨w.heap.size, 0, none⟩) k k) k ((rowTx (natW xs) k j).map (Value.int .u8)) ∧ Below w.heap.size w wr)
    (fun i _ => k - (intOf i).toNat)
  case atStart => exact ⟨0, Nat.zero_le _, rfl, hown, hb⟩
  case round =>
    clear hown hb
    obtain ⟨j, hj, rfl, hown, hnx⟩ := hrel
    by_cases hlt : j < k
    · obtain ⟨p, hp⟩ : ∃ p, p = k - 1 - j := ⟨_, rfl⟩
      have hfz := hown.frozenAt p
      have hca : wr.cell? ⟨w.heap.size, p, none⟩ = some (.int .u8 ((rowTx (natW xs) k j).getD p 0)) := by
        rw [hown.cellAt p (by omega)]
        simp [List.getElem?_eq_getElem (show p < (rowTx (natW xs) k j).length by rw [rowTx_length _ _ _ hj]; omega)]
      obtain ⟨q, hq⟩ : ∃ q, q = j / 8 := ⟨_, rfl⟩
      obtain ⟨r, hr⟩ : ∃ r, r = j % 8 := ⟨_, rfl⟩
      obtain ⟨x, hxq⟩ : ∃ x, xs[q]? = some x := ⟨xs[q]'(by omega), List.getElem?_eq_getElem (by omega)⟩
      have hby := natW_byte (i := j) (unhide Hx) (by omega) (by omega) hxq (r := r)
      have cx := below_num (unhide HX) hnx g1 q x hxq
      have hset := (hown.stored p (.int .u8 ((natW xs / 256 ^ j % 256 : Nat) : Int))).1
      rw [hp, ← List.map_set, rowTx_set _ _ _ hlt, ← hp, hby] at hset
      obtain ⟨e8, he8⟩ : ∃ e8, e8 = 8 * r := ⟨_, rfl⟩
      rw [← he8] at hset
      have hdiv : (x : Int) / 2 ^ e8 % 256 = ((x / 2 ^ e8 % 256 : Nat) : Int) := by simp
      have hqi : (j : Int) / 8 = (q : Int) := by omega
      have hri : (j : Int) % 8 * 8 = (e8 : Int) := by omega
      have hpi : (k : Int) - 1 - (j : Int) = (p : Int) := by omega
      have hql : (q : Int) < (xs.length : Int) := by omega
      have hpk : (p : Int) < (k : Int) := by omega
      have he64 : e8 ≤ 56 := by omega
      have HS := hide hset
      have HB := hide (hnx.setCell (p := ⟨w.heap.size, p, none⟩) (Nat.le_refl _) (.int .u8 ((x / 2 ^ e8 % 256 : Nat) : Int)))
      generalize x / 2 ^ e8 % 256 = y at *
      clear hset hown hnx hby hxq hq hr hp he8
      go_wp2
      go_roundw
      case rel => exact ⟨j + 1, hlt, by go_num, unhide HS, unhide HB⟩
      case measure => simp [intOf]; omega
    · have hkl : j = k := by omega
      subst hkl
      rcases owned_cells hown with ⟨hv, hn⟩ | ⟨g2, cap', hv, _, hcl⟩
      · simp at hv
      · simp only [Value.slice.injEq, Option.some.injEq, Addr.mk.injEq, and_true, true_and] at hv
        obtain ⟨hg, hcap⟩ := hv
        subst hg hcap
        have hcv := run_convert_bytes_arg (P := Try.prog) wr 48 5 Try.underlying48 Try.underlying5 w.heap.size 0 j j _ (by rw [rowTx_length _ _ _ hj]) hcl 9 Try.underlying9
        rw [show rowTx (natW xs) j j = bigL (natW xs) j by simp [rowTx]] at hcv
        clear hown hcl
        go_wp2
        go_ret
        exact ⟨rfl, hnx⟩
end Go.Proofs.Ytckkhpegimkefaa
namespace Go.Proofs.Ytckkhpegimkefaa
open Go.RowKit Go.Shelf
set_option linter.unusedVariables false

theorem tab_size : (Lib.len8tab.size : Int) = 256 := by
  rw [Lib.len8tab_size]
  rfl
/-- the bits of the byte that is left when k bits are cut off -/
theorem len_at (x y : Int) (k : Nat) (hx : 0 ≤ x) (h64 : x ≤ 18446744073709551615) (hy : y = x / 2 ^ k) (hlow : k = 0 ∨ (2 ^ k : Int) ≤ x) (hb0 : 0 ≤ y) (hb : y ≤ 255) : (k : Int) + Lib.len8 y = (Lib.bitLen x.toNat : Int) := by
  obtain ⟨n, rfl⟩ := Int.eq_ofNat_of_zero_le hx
  have e : y = ((n / 2 ^ k : Nat) : Int) := by rw [hy]; simp
  rw [Lib.len8_of y hb0 hb, e, Int.toNat_natCast, Int.toNat_natCast]
  rcases hlow with h | h
  · subst h
    simp
  · have h2 : 2 ^ k ≤ n := by
      have : ((2 ^ k : Nat) : Int) ≤ (n : Int) := by simpa using h
      omega
    rw [Lib.bitLen_shift k n h2 (by omega)]
    omega
theorem len_wrap (k : Nat) (y : Int) (hk : k ≤ 56) (hb0 : 0 ≤ y) (hb : y ≤ 255) : wrap64 ((k : Int) + wrap64 (Lib.len8 y)) = (k : Int) + Lib.len8 y := by
  rw [Lib.len8_of y hb0 hb]
  have l := Lib.bitLen_le8' y hb0 hb
  generalize Lib.bitLen y.toNat = b at *
  unfold wrap64
  omega
theorem len_wrap0 (y : Int) (hb0 : 0 ≤ y) (hb : y ≤ 255) : wrap64 (wrap64 (Lib.len8 y)) = ((0 : Nat) : Int) + Lib.len8 y := by
  rw [Lib.len8_of y hb0 hb]
  have l := Lib.bitLen_le8' y hb0 hb
  generalize Lib.bitLen y.toNat = b at *
  unfold wrap64
  omega
set_option maxHeartbeats 4000000 in
set_option maxRecDepth 100000 in
theorem len64_0 (x : Int) (w : World) (h0 : 0 ≤ x) (h1 : x ≤ 255) :
    Calls Try.prog 85 #[.int .u64 x] w fun e w' => e = .returned (.int .i64 (Lib.bitLen x.toNat)) ∧ w' = w := by
  have hs := tab_size
  have hfin := len_at x (x) 0 (by omega) (by omega) (by omega) (.inl rfl) (by omega) (by omega)
  have HF := hide hfin
  have y0 : 0 ≤ x := by omega
  have y1 : x ≤ 255 := by omega
  clear hfin
  go_enter Try.func85, Try.ntmps85
  go_wp2
  go_ret
  refine ⟨congrArg Ending.returned (congrArg (Value.int IntKind.i64) ?_), rfl⟩
  rw [← unhide HF]
  exact len_wrap0 (x) y0 y1
set_option maxHeartbeats 4000000 in
set_option maxRecDepth 100000 in
theorem len64_8 (x : Int) (w : World) (h0 : 256 ≤ x) (h1 : x ≤ 65535) :
    Calls Try.prog 85 #[.int .u64 x] w fun e w' => e = .returned (.int .i64 (Lib.bitLen x.toNat)) ∧ w' = w := by
  have hs := tab_size
  have hfin := len_at x (x / 256) 8 (by omega) (by omega) (by omega) (.inr (by omega)) (by omega) (by omega)
  have HF := hide hfin
  have y0 : 0 ≤ x / 256 := by omega
  have y1 : x / 256 ≤ 255 := by omega
  clear hfin
  go_enter Try.func85, Try.ntmps85
  go_wp2
  go_ret
  refine ⟨congrArg Ending.returned (congrArg (Value.int IntKind.i64) ?_), rfl⟩
  rw [← unhide HF]
  exact len_wrap 8 (x / 256) (by decide) y0 y1
set_option maxHeartbeats 4000000 in
set_option maxRecDepth 100000 in
theorem len64_16 (x : Int) (w : World) (h0 : 65536 ≤ x) (h1 : x ≤ 16777215) :
    Calls Try.prog 85 #[.int .u64 x] w fun e w' => e = .returned (.int .i64 (Lib.bitLen x.toNat)) ∧ w' = w := by
  have hs := tab_size
  have hfin := len_at x (x / 65536) 16 (by omega) (by omega) (by omega) (.inr (by omega)) (by omega) (by omega)
  have HF := hide hfin
  have y0 : 0 ≤ x / 65536 := by omega
  have y1 : x / 65536 ≤ 255 := by omega
  clear hfin
  go_enter Try.func85, Try.ntmps85
  go_wp2
  go_ret
  refine ⟨congrArg Ending.returned (congrArg (Value.int IntKind.i64) ?_), rfl⟩
  rw [← unhide HF]
  exact len_wrap 16 (x / 65536) (by decide) y0 y1
set_option maxHeartbeats 4000000 in
set_option maxRecDepth 100000 in
theorem len64_24 (x : Int) (w : World) (h0 : 16777216 ≤ x) (h1 : x ≤ 4294967295) :
    Calls Try.prog 85 #[.int .u64 x] w fun e w' => e = .returned (.int .i64 (Lib.bitLen x.toNat)) ∧ w' = w := by
  have hs := tab_size
  have hfin := len_at x (x / 65536 / 256) 24 (by omega) (by omega) (by omega) (.inr (by omega)) (by omega) (by omega)
  have HF := hide hfin
  have y0 : 0 ≤ x / 65536 / 256 := by omega
  have y1 : x / 65536 / 256 ≤ 255 := by omega
  clear hfin
  go_enter Try.func85, Try.ntmps85
  go_wp2
  go_ret
  refine ⟨congrArg Ending.returned (congrArg (Value.int IntKind.i64) ?_), rfl⟩
  rw [← unhide HF]
  exact len_wrap 24 (x / 65536 / 256) (by decide) y0 y1
set_option maxHeartbeats 4000000 in
set_option maxRecDepth 100000 in
theorem len64_32 (x : Int) (w : World) (h0 : 4294967296 ≤ x) (h1 : x ≤ 1099511627775) :
    Calls Try.prog 85 #[.int .u64 x] w fun e w' => e = .returned (.int .i64 (Lib.bitLen x.toNat)) ∧ w' = w := by
  have hs := tab_size
  have hfin := len_at x (x / 4294967296) 32 (by omega) (by omega) (by omega) (.inr (by omega)) (by omega) (by omega)
  have HF := hide hfin
  have y0 : 0 ≤ x / 4294967296 := by omega
  have y1 : x / 4294967296 ≤ 255 := by omega
  clear hfin
  go_enter Try.func85, Try.ntmps85
  go_wp2
  go_ret
  refine ⟨congrArg Ending.returned (congrArg (Value.int IntKind.i64) ?_), rfl⟩
  rw [← unhide HF]
  exact len_wrap 32 (x / 4294967296) (by decide) y0 y1
set_option maxHeartbeats 4000000 in
set_option maxRecDepth 100000 in
theorem len64_40 (x : Int) (w : World) (h0 : 1099511627776 ≤ x) (h1 : x ≤ 281474976710655) :
    Calls Try.prog 85 #[.int .u64 x] w fun e w' => e = .returned (.int .i64 (Lib.bitLen x.toNat)) ∧ w' = w := by
  have hs := tab_size
  have hfin := len_at x (x / 4294967296 / 256) 40 (by omega) (by omega) (by omega) (.inr (by omega)) (by omega) (by omega)
  have HF := hide hfin
  have y0 : 0 ≤ x / 4294967296 / 256 := by omega
  have y1 : x / 4294967296 / 256 ≤ 255 := by omega
  clear hfin
  go_enter Try.func85, Try.ntmps85
  go_wp2
  go_ret
  refine ⟨congrArg Ending.returned (congrArg (Value.int IntKind.i64) ?_), rfl⟩
  rw [← unhide HF]
  exact len_wrap 40 (x / 4294967296 / 256) (by decide) y0 y1
set_option maxHeartbeats 4000000 in
set_option maxRecDepth 100000 in
theorem len64_48 (x : Int) (w : World) (h0 : 281474976710656 ≤ x) (h1 : x ≤ 72057594037927935) :
    Calls Try.prog 85 #[.int .u64 x] w fun e w' => e = .returned (.int .i64 (Lib.bitLen x.toNat)) ∧ w' = w := by
  have hs := tab_size
  have hfin := len_at x (x / 4294967296 / 65536) 48 (by omega) (by omega) (by omega) (.inr (by omega)) (by omega) (by omega)
  have HF := hide hfin
  have y0 : 0 ≤ x / 4294967296 / 65536 := by omega
  have y1 : x / 4294967296 / 65536 ≤ 255 := by omega
  clear hfin
  go_enter Try.func85, Try.ntmps85
  go_wp2
  go_ret
  refine ⟨congrArg Ending.returned (congrArg (Value.int IntKind.i64) ?_), rfl⟩
  rw [← unhide HF]
  exact len_wrap 48 (x / 4294967296 / 65536) (by decide) y0 y1
set_option maxHeartbeats 4000000 in
set_option maxRecDepth 100000 in
theorem len64_56 (x : Int) (w : World) (h0 : 72057594037927936 ≤ x) (h1 : x ≤ 18446744073709551615) :
    Calls Try.prog 85 #[.int .u64 x] w fun e w' => e = .returned (.int .i64 (Lib.bitLen x.toNat)) ∧ w' = w := by
  have hs := tab_size
  have hfin := len_at x (x / 4294967296 / 65536 / 256) 56 (by omega) (by omega) (by omega) (.inr (by omega)) (by omega) (by omega)
  have HF := hide hfin
  have y0 : 0 ≤ x / 4294967296 / 65536 / 256 := by omega
  have y1 : x / 4294967296 / 65536 / 256 ≤ 255 := by omega
  clear hfin
  go_enter Try.func85, Try.ntmps85
  go_wp2
  go_ret
  refine ⟨congrArg Ending.returned (congrArg (Value.int IntKind.i64) ?_), rfl⟩
  rw [← unhide HF]
  exact len_wrap 56 (x / 4294967296 / 65536 / 256) (by decide) y0 y1
theorem len64_any (x : Nat) (hx : x < B64) (w : World) :
    Calls Try.prog 85 #[.int .u64 x] w fun e w' => e = .returned (.int .i64 (Lib.bitLen x : Nat)) ∧ w' = w := by
  unfold B64 at hx
  have h : ∀ y : Int, y = (x : Int) → Calls Try.prog 85 #[.int .u64 y] w fun e w' => e = .returned (.int .i64 (Lib.bitLen y.toNat)) ∧ w' = w := by
    intro y hy
    by_cases a0 : y ≤ 255
    · exact len64_0 y w (by omega) a0
    by_cases a1 : y ≤ 65535
    · exact len64_8 y w (by omega) a1
    by_cases a2 : y ≤ 16777215
    · exact len64_16 y w (by omega) a2
    by_cases a3 : y ≤ 4294967295
    · exact len64_24 y w (by omega) a3
    by_cases a4 : y ≤ 1099511627775
    · exact len64_32 y w (by omega) a4
    by_cases a5 : y ≤ 281474976710655
    · exact len64_40 y w (by omega) a5
    by_cases a6 : y ≤ 72057594037927935
    · exact len64_48 y w (by omega) a6
    exact len64_56 y w (by omega) (by omega)
  have := h (x : Int) rfl
  rw [Int.toNat_natCast] at this
  exact this
end Go.Proofs.Ytckkhpegimkefaa
