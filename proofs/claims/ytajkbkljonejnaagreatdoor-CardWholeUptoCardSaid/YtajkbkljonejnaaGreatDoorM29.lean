/- read of a number out of bytes: the walk. -/
import Derived.Test.YtajkbkljonejnaaGreatDoorM28
import Derived.Lib.Strings
import Derived.Lib.Walk
import Derived.Lib.BitFns
import Derived.Deep.DeepCutAuto
import Derived.Deep.RegionHeld3
import Derived.WalkSmall
namespace Go.Proofs.YtajkbkljonejnaaGreatDoor
open Go.RowKit Go.Shelf
set_option linter.unusedVariables false
theorem wrapShl (c k x : Nat) (h : c * 2 ^ k = x) (hx : x < B64) : IntKind.u64.wrap ((c : Int) * 2 ^ k) = (x : Int) := by
  rw [show (c : Int) * 2 ^ k = ((c * 2 ^ k : Nat) : Int) by simp, h, Mul64.wrapN x hx]
set_option maxHeartbeats 1000000 in
set_option maxRecDepth 100000 in
theorem cread_any (s : ByteArray) (hs : (s.size : Int) ≤ 1000) (w : World) :
    Calls Tryz.prog 125 #[.string s] w fun e w' => ∃ row, e = .returned (.slice (some ⟨w.heap.size, 0, none⟩) row.length row.length) ∧ URow w' w.heap.size row ∧ row.length = (s.size + 7) / 8 ∧ okW row ∧ natW row = valN s.data.toList ∧ Below w.heap.size w w' := by
  obtain ⟨i0, hi, hz0, hz1, hz2⟩ := info_partsN infoU64
  obtain ⟨N, hN⟩ : ∃ N, N = (s.size + 7) / 8 := ⟨_, rfl⟩
  have hNi : ((s.size : Int) + 7) / 8 = (N : Int) := by omega
  have hNb : (N : Int) ≤ 200 := by omega
  have HN := hide hN
  have hll : s.data.toList.length = s.size := by simp
  have HL := hide hll
  clear hN hll
  go_enter Tryz.func125, Tryz.ntmps125
  go_wp2_with (at_make; refine wpList_make_full _ rfl _ _ 146 rfl w.heap.size 137 i0 (.int .u64 0) 1 Tryz.underlying146 hi hz0 hz1 .i64 .i64 _ _ N rfl rfl (by first | rfl | exact hNi) (by first | rfl | exact hNi) (by rw [hz2]; omega) (by unfold maxLen; omega) (Nat.le_refl _) ?_)
  intro w1 hown hgrow
  have hU := made_urow hown
  have hb : Below w.heap.size w w1 := (Below.refl _ _).grown hgrow (Nat.le_refl _) (fun q hq => by cases hq)
  clear hown hgrow hi hz0 hz1 hz2
  go_wp2
  go_loopw [12] (fun i wr => ∃ (k : Nat) (row : List Nat), k ≤ s.size ∧ i = .int .i64 k ∧ row.length = N ∧ okW row ∧ natW row = lowV s.data.toList k ∧ URow wr w.heap.size row ∧ Below w.heap.size w wr) (fun i _ => s.size - (intOf i).toNat)
  case atStart => exact ⟨0, _, Nat.zero_le _, rfl, by simp, okW_zeros _, by rw [natW_zeros, lowV_zero], hU, hb⟩
  case round =>
    clear hU hb
    obtain ⟨k, row, hk, rfl, hrl, hrow, hr, hU, hbel⟩ := hrel
    have hL := unhide HL
    have hN := unhide HN
    by_cases hlt : k < s.size
    · obtain ⟨j, hj⟩ : ∃ j, j = s.size - 1 - k := ⟨_, rfl⟩
      have hjs : j < s.size := by omega
      have hcj : s.data.toList[j]? = some s[j] := by rw [List.getElem?_eq_getElem (by simpa using hjs)]; rfl
      have hst := lowV_step s.data.toList k s[j] (by rw [hL, ← hj]; exact hcj) (by rw [hL]; exact hlt)
      obtain ⟨c, hc⟩ : ∃ c, c = s[j].toNat := ⟨_, rfl⟩
      have hc2 : c < 256 := by rw [hc]; exact s[j].toNat_lt
      have hcb : ∀ h : j < s.size, ((s[j]'h).toNat : Int) = (c : Int) := fun _ => by rw [hc]
      rw [← hc] at hst
      obtain ⟨q, hq⟩ : ∃ q, q = k / 8 := ⟨_, rfl⟩
      obtain ⟨r, hrr⟩ : ∃ r, r = k % 8 := ⟨_, rfl⟩
      have hqN : q < N := by omega
      obtain ⟨x, hx⟩ : ∃ x, row[q]? = some x := ⟨row[q]'(by omega), List.getElem?_eq_getElem (by omega)⟩
      obtain ⟨p1, p2, p3⟩ := put_byte (row := row) (V := lowV s.data.toList k) (i := k) (q := q) (r := r) (c := c) (w := x) (by omega) (by omega) hc2 hr (lowV_lt _ _ (by omega)) hx
      rw [Nat.add_comm (lowV s.data.toList k), ← hst] at p3
      have hsh : c * 2 ^ (8 * r) < B64 := Nat.lt_of_le_of_lt (Nat.le_add_left _ _) p2
      have hor := or_u64W x c (8 * r) p1 hsh p2
      obtain ⟨sh, hshe⟩ : ∃ sh, sh = c * 2 ^ (8 * r) := ⟨_, rfl⟩
      obtain ⟨e8, he8⟩ : ∃ e8, e8 = 8 * r := ⟨_, rfl⟩
      have hw1 := wrapShl c e8 sh (by rw [hshe, he8]) (by rw [hshe]; exact hsh)
      rw [← hshe] at p2 p3 hor
      have cx := hU.cell q x hx
      have fx := hU.frozen q
      have hset := hU.set q (x + sh)
      have hok := okW_set hrow q (x + sh) p2
      have hqi : (k : Int) / 8 = (q : Int) := by omega
      have hri : (k : Int) % 8 * 8 = (e8 : Int) := by omega
      have hji : (s.size : Int) - 1 - (k : Int) = (j : Int) := by omega
      have he64 : e8 ≤ 56 := by omega
      have hl2 : (row.set q (x + sh)).length = N := by rw [List.length_set]; exact hrl
      have HS := hide hset
      have HP := hide p3
      have HO := hide hok
      have HB := hide (hbel.setCell (p := ⟨w.heap.size, q, none⟩) (Nat.le_refl _) (.int .u64 (x + sh : Nat)))
      have hqNi : (q : Int) < (N : Int) := by omega
      generalize x + sh = xn at *
      clear hset p3 p2 p1 hok hst hcj hc hx hq hrr hj hL hN hsh hshe he8 hU hbel hr hrow
      go_wp2_with fail
      go_region
      go_wp2
      go_roundw
      case rel => exact ⟨k + 1, _, hlt, by go_num, hl2, unhide HO, unhide HP, (unhide HS).drew, (unhide HB).drew⟩
      case measure => simp [intOf]; omega
    · have hks : k = s.size := by omega
      subst hks
      rw [← hL, lowV_whole] at hr
      have HR := hide hr
      have HU := hide hU
      have HB := hide hbel
      clear hr hU hbel hL
      go_wp2
      go_ret
      refine ⟨row, ?_, unhide HU, by rw [hrl]; exact hN, hrow, unhide HR, unhide HB⟩
      rw [hrl]
      rfl
end Go.Proofs.YtajkbkljonejnaaGreatDoor
namespace Go.Proofs.YtajkbkljonejnaaGreatDoor
open Go.RowKit Go.Shelf
set_option linter.unusedVariables false
end Go.Proofs.YtajkbkljonejnaaGreatDoor
namespace Go.Proofs.YtajkbkljonejnaaGreatDoor
open Go.RowKit Go.Shelf
set_option linter.unusedVariables false
end Go.Proofs.YtajkbkljonejnaaGreatDoor
namespace Go.Proofs.YtajkbkljonejnaaGreatDoor
open Go.RowKit Go.Shelf
set_option linter.unusedVariables false
structure IsMod (s : ByteArray) : Prop where
  low : 40 ≤ s.size
  high : s.size ≤ 96
  top : 2 ^ (8 * s.size - 1) < valN s.data.toList
  odd : valN s.data.toList % 2 = 1
theorem NumAt.setCell {w : World} {g o b j : Nat} {zs : List Nat} (h : NumAt w g o zs) (hb : g ≠ b) (v : Value) : NumAt (w.setCell ⟨b, j, none⟩ v) g o zs := h.only ((Only.refl b w).setCell j v) hb
end Go.Proofs.YtajkbkljonejnaaGreatDoor
namespace Go.Proofs.YtajkbkljonejnaaGreatDoor
open Go.RowKit Go.Shelf
set_option linter.unusedVariables false
theorem pow_split (r : Nat) (hr : r < 8) : B64 = 2 ^ (8 * r) * (2 ^ (56 - 8 * r) * 256) := by
  have h256 : (256 : Nat) = 2 ^ 8 := rfl
  have hB : B64 = 2 ^ 64 := rfl
  rw [hB, h256, ← Nat.pow_add, ← Nat.pow_add]
  congr 1
  omega
theorem word_byte (x h E F : Nat) (hE : 0 < E) : (x + E * (F * 256) * h) / E % 256 = x / E % 256 := by
  rw [show E * (F * 256) * h = E * (F * h * 256) by grind, Nat.add_mul_div_left _ _ hE, Nat.add_mul_mod_self_right]
theorem natW_byte {xs : List Nat} {i q r x : Nat} (hx : okW xs) (hi : i = 8 * q + r) (hr : r < 8) (hq : xs[q]? = some x) : natW xs / 256 ^ i % 256 = x / 2 ^ (8 * r) % 256 := by
  have hl : q < xs.length := by
    rcases Nat.lt_or_ge q xs.length with h | h
    · exact h
    · rw [List.getElem?_eq_none h] at hq; cases hq
  have e := natW_split xs q (by omega)
  have hd : xs.drop q = x :: xs.drop (q + 1) := by
    rw [List.drop_eq_getElem_cons hl]
    rw [List.getElem?_eq_getElem hl] at hq
    rw [Option.some.inj hq]
  rw [hd, natW] at e
  have hlow := natW_lt (okW_take hx q)
  rw [List.length_take, Nat.min_eq_left (by omega)] at hlow
  have hp : 0 < B64 ^ q := Nat.pow_pos B64_pos
  rw [hi, pow_256W, ← Nat.div_div_eq_div_mul, e, Nat.add_mul_div_left _ _ hp, Nat.div_eq_of_lt hlow, Nat.zero_add]
  conv => lhs; rw [pow_split r hr]
  exact word_byte x _ _ _ (Nat.pow_pos (by decide))
def rowTx (n k j : Nat) : List Int := List.replicate (k - j) 0 ++ bigL n j
theorem rowTx_length (n k j : Nat) (h : j ≤ k) : (rowTx n k j).length = k := by simp [rowTx, bigL_length]; omega
theorem rowTx_set (n k j : Nat) (h : j < k) : (rowTx n k j).set (k - 1 - j) ((n / 256 ^ j % 256 : Nat) : Int) = rowTx n k (j + 1) := by
  unfold rowTx
  rw [show k - j = (k - (j + 1)) + 1 by omega, List.replicate_succ', List.append_assoc, show k - 1 - j = (List.replicate (k - (j + 1)) (0 : Int)).length + 0 by simp; omega, List.set_append_right _ _ (by omega)]
  simp [bigL]
theorem made_rowTx (k : Nat) (n : Nat) : (madeCells #[Value.int .u8 0] k).toList = (rowTx n k 0).map (Value.int .u8) := by
  have e : rowTx n k 0 = List.replicate k 0 := by simp [rowTx, bigL]
  rw [e, List.map_replicate]
  apply List.ext_getElem
  · simp [madeCells]
  · intro i h1 h2
    simp [madeCells, Nat.mod_one]
theorem below_num {w w' : World} {B g off : Nat} {ws : List Nat} (h : NumAt w g off ws) (hb : Below B w w') (hg : g < B) : ∀ i x, ws[i]? = some x → w'.cell? ⟨g, off + i, none⟩ = some (.int .u64 (x : Nat)) :=
  fun i x hi => (hb.cell (p := ⟨g, off + i, none⟩) hg).trans (h.2 i x hi)
set_option maxHeartbeats 1000000 in
set_option maxRecDepth 100000 in
theorem ctext_any (xs : List Nat) (g o c k : Nat) (w : World) (hX : NumAt w g o xs) (hx : okW xs) (hk : k ≤ 8 * xs.length) (hkb : (k : Int) ≤ 1000) :
    Calls Tryz.prog 127 #[.slice (some ⟨g, o, none⟩) xs.length c, .int .i64 k] w fun e w' => e = .returned (.string (strOfNums (bigL (natW xs) k))) ∧ Below w.heap.size w w' := by
  obtain ⟨i0, hi, hz0, hz1, hz2⟩ := info_partsN (t := 5) infoByte
  have HX := hide hX
  have g1 := hX.1
  have Hx := hide hx
  clear hX hx
  go_enter Tryz.func127, Tryz.ntmps127
  go_wp2_with (at_make; refine wpList_make_full _ rfl _ _ 55 rfl w.heap.size 5 i0 (.int .u8 0) 1 Tryz.underlying55 hi hz0 hz1 .i64 .i64 _ _ k rfl rfl rfl rfl (by rw [hz2]; omega) (by unfold maxLen; omega) (Nat.le_refl _) ?_)
  intro w1 hown hgrow
  rw [made_rowTx k (natW xs)] at hown
  have hb : Below w.heap.size w w1 := (Below.refl _ _).grown hgrow (Nat.le_refl _) (fun q hq => by cases hq)
  clear hgrow hi hz0 hz1 hz2
  go_wp2
  go_loopw [10] (fun i wr => ∃ j : Nat, j ≤ k ∧ i = .int .i64 j ∧ wr.ownsRow w.heap.size 5 1 (.slice (some ⟨w.heap.size, 0, none⟩) k k) k ((rowTx (natW xs) k j).map (Value.int .u8)) ∧ Below w.heap.size w wr)
    (fun i _ => k - (intOf i).toNat)
  case atStart => exact ⟨0, Nat.zero_le _, rfl, hown, hb⟩
  case round =>
    clear hown hb
    obtain ⟨j, hj, rfl, hown, hnx⟩ := hrel
    by_cases hlt : j < k
    · obtain ⟨p, hp⟩ : ∃ p, p = k - 1 - j := ⟨_, rfl⟩
      have hfz := hown.frozenAt p
      have hca : wr.cell? ⟨w.heap.size, p, none⟩ = some (.int .u8 ((rowTx (natW xs) k j).getD p 0)) := by
        rw [hown.cellAt p (by omega)]
        simp [List.getElem?_eq_getElem (show p < (rowTx (natW xs) k j).length by rw [rowTx_length _ _ _ hj]; omega)]
      obtain ⟨q, hq⟩ : ∃ q, q = j / 8 := ⟨_, rfl⟩
      obtain ⟨r, hr⟩ : ∃ r, r = j % 8 := ⟨_, rfl⟩
      obtain ⟨x, hxq⟩ : ∃ x, xs[q]? = some x := ⟨xs[q]'(by omega), List.getElem?_eq_getElem (by omega)⟩
      have hby := natW_byte (i := j) (unhide Hx) (by omega) (by omega) hxq (r := r)
      have cx := below_num (unhide HX) hnx g1 q x hxq
      have hset := (hown.stored p (.int .u8 ((natW xs / 256 ^ j % 256 : Nat) : Int))).1
      rw [hp, ← List.map_set, rowTx_set _ _ _ hlt, ← hp, hby] at hset
      obtain ⟨e8, he8⟩ : ∃ e8, e8 = 8 * r := ⟨_, rfl⟩
      rw [← he8] at hset
      have hdiv : (x : Int) / 2 ^ e8 % 256 = ((x / 2 ^ e8 % 256 : Nat) : Int) := by simp
      have hqi : (j : Int) / 8 = (q : Int) := by omega
      have hri : (j : Int) % 8 * 8 = (e8 : Int) := by omega
      have hpi : (k : Int) - 1 - (j : Int) = (p : Int) := by omega
      have hql : (q : Int) < (xs.length : Int) := by omega
      have hpk : (p : Int) < (k : Int) := by omega
      have he64 : e8 ≤ 56 := by omega
      have HS := hide hset
      have HB := hide (hnx.setCell (p := ⟨w.heap.size, p, none⟩) (Nat.le_refl _) (.int .u8 ((x / 2 ^ e8 % 256 : Nat) : Int)))
      generalize x / 2 ^ e8 % 256 = y at *
      clear hset hown hnx hby hxq hq hr hp he8
      go_wp2
      go_roundw
      case rel => exact ⟨j + 1, hlt, by go_num, unhide HS, unhide HB⟩
      case measure => simp [intOf]; omega
    · have hkl : j = k := by omega
      subst hkl
      rcases owned_cells hown with ⟨hv, hn⟩ | ⟨g2, cap', hv, _, hcl⟩
      · simp at hv
      · simp only [Value.slice.injEq, Option.some.injEq, Addr.mk.injEq, and_true, true_and] at hv
        obtain ⟨hg, hcap⟩ := hv
        subst hg hcap
        have hcv := run_convert_bytes_arg (P := Tryz.prog) wr 55 5 Tryz.underlying55 Tryz.underlying5 w.heap.size 0 j j _ (by rw [rowTx_length _ _ _ hj]) hcl 9 Tryz.underlying9
        rw [show rowTx (natW xs) j j = bigL (natW xs) j by simp [rowTx]] at hcv
        clear hown hcl
        go_wp2
        go_ret
        exact ⟨rfl, hnx⟩
end Go.Proofs.YtajkbkljonejnaaGreatDoor
namespace Go.Proofs.YtajkbkljonejnaaGreatDoor
open Go.RowKit Go.Shelf
set_option linter.unusedVariables false
theorem tab_size : (Lib.len8tab.size : Int) = 256 := by
  rw [Lib.len8tab_size]
  rfl
theorem len_at (x y : Int) (k : Nat) (hx : 0 ≤ x) (h64 : x ≤ 18446744073709551615) (hy : y = x / 2 ^ k) (hlow : k = 0 ∨ (2 ^ k : Int) ≤ x) (hb0 : 0 ≤ y) (hb : y ≤ 255) : (k : Int) + Lib.len8 y = (Lib.bitLen x.toNat : Int) := by
  obtain ⟨n, rfl⟩ := Int.eq_ofNat_of_zero_le hx
  have e : y = ((n / 2 ^ k : Nat) : Int) := by rw [hy]; simp
  rw [Lib.len8_of y hb0 hb, e, Int.toNat_natCast, Int.toNat_natCast]
  rcases hlow with h | h
  · subst h
    simp
  · have h2 : 2 ^ k ≤ n := by
      have : ((2 ^ k : Nat) : Int) ≤ (n : Int) := by simpa using h
      omega
    rw [Lib.bitLen_shift k n h2 (by omega)]
    omega
theorem len_wrap (k : Nat) (y : Int) (hk : k ≤ 56) (hb0 : 0 ≤ y) (hb : y ≤ 255) : wrap64 ((k : Int) + wrap64 (Lib.len8 y)) = (k : Int) + Lib.len8 y := by
  rw [Lib.len8_of y hb0 hb]
  have l := Lib.bitLen_le8' y hb0 hb
  generalize Lib.bitLen y.toNat = b at *
  unfold wrap64
  omega
theorem len_wrap0 (y : Int) (hb0 : 0 ≤ y) (hb : y ≤ 255) : wrap64 (wrap64 (Lib.len8 y)) = ((0 : Nat) : Int) + Lib.len8 y := by
  rw [Lib.len8_of y hb0 hb]
  have l := Lib.bitLen_le8' y hb0 hb
  generalize Lib.bitLen y.toNat = b at *
  unfold wrap64
  omega
set_option maxHeartbeats 4000000 in
set_option maxRecDepth 100000 in
theorem len64_0 (x : Int) (w : World) (h0 : 0 ≤ x) (h1 : x ≤ 255) :
    Calls Tryz.prog 150 #[.int .u64 x] w fun e w' => e = .returned (.int .i64 (Lib.bitLen x.toNat)) ∧ w' = w := by
  have hs := tab_size
  have hfin := len_at x (x) 0 (by omega) (by omega) (by omega) (.inl rfl) (by omega) (by omega)
  have HF := hide hfin
  have y0 : 0 ≤ x := by omega
  have y1 : x ≤ 255 := by omega
  clear hfin
  go_enter Tryz.func150, Tryz.ntmps150
  go_wp2
  go_ret
  refine ⟨congrArg Ending.returned (congrArg (Value.int IntKind.i64) ?_), rfl⟩
  rw [← unhide HF]
  exact len_wrap0 (x) y0 y1
set_option maxHeartbeats 4000000 in
set_option maxRecDepth 100000 in
theorem len64_8 (x : Int) (w : World) (h0 : 256 ≤ x) (h1 : x ≤ 65535) :
    Calls Tryz.prog 150 #[.int .u64 x] w fun e w' => e = .returned (.int .i64 (Lib.bitLen x.toNat)) ∧ w' = w := by
  have hs := tab_size
  have hfin := len_at x (x / 256) 8 (by omega) (by omega) (by omega) (.inr (by omega)) (by omega) (by omega)
  have HF := hide hfin
  have y0 : 0 ≤ x / 256 := by omega
  have y1 : x / 256 ≤ 255 := by omega
  clear hfin
  go_enter Tryz.func150, Tryz.ntmps150
  go_wp2
  go_ret
  refine ⟨congrArg Ending.returned (congrArg (Value.int IntKind.i64) ?_), rfl⟩
  rw [← unhide HF]
  exact len_wrap 8 (x / 256) (by decide) y0 y1
set_option maxHeartbeats 4000000 in
set_option maxRecDepth 100000 in
theorem len64_16 (x : Int) (w : World) (h0 : 65536 ≤ x) (h1 : x ≤ 16777215) :
    Calls Tryz.prog 150 #[.int .u64 x] w fun e w' => e = .returned (.int .i64 (Lib.bitLen x.toNat)) ∧ w' = w := by
  have hs := tab_size
  have hfin := len_at x (x / 65536) 16 (by omega) (by omega) (by omega) (.inr (by omega)) (by omega) (by omega)
  have HF := hide hfin
  have y0 : 0 ≤ x / 65536 := by omega
  have y1 : x / 65536 ≤ 255 := by omega
  clear hfin
  go_enter Tryz.func150, Tryz.ntmps150
  go_wp2
  go_ret
  refine ⟨congrArg Ending.returned (congrArg (Value.int IntKind.i64) ?_), rfl⟩
  rw [← unhide HF]
  exact len_wrap 16 (x / 65536) (by decide) y0 y1
set_option maxHeartbeats 4000000 in
set_option maxRecDepth 100000 in
theorem len64_24 (x : Int) (w : World) (h0 : 16777216 ≤ x) (h1 : x ≤ 4294967295) :
    Calls Tryz.prog 150 #[.int .u64 x] w fun e w' => e = .returned (.int .i64 (Lib.bitLen x.toNat)) ∧ w' = w := by
  have hs := tab_size
  have hfin := len_at x (x / 65536 / 256) 24 (by omega) (by omega) (by omega) (.inr (by omega)) (by omega) (by omega)
  have HF := hide hfin
  have y0 : 0 ≤ x / 65536 / 256 := by omega
  have y1 : x / 65536 / 256 ≤ 255 := by omega
  clear hfin
  go_enter Tryz.func150, Tryz.ntmps150
  go_wp2
  go_ret
  refine ⟨congrArg Ending.returned (congrArg (Value.int IntKind.i64) ?_), rfl⟩
  rw [← unhide HF]
  exact len_wrap 24 (x / 65536 / 256) (by decide) y0 y1
set_option maxHeartbeats 4000000 in
set_option maxRecDepth 100000 in
theorem len64_32 (x : Int) (w : World) (h0 : 4294967296 ≤ x) (h1 : x ≤ 1099511627775) :
    Calls Tryz.prog 150 #[.int .u64 x] w fun e w' => e = .returned (.int .i64 (Lib.bitLen x.toNat)) ∧ w' = w := by
  have hs := tab_size
  have hfin := len_at x (x / 4294967296) 32 (by omega) (by omega) (by omega) (.inr (by omega)) (by omega) (by omega)
  have HF := hide hfin
  have y0 : 0 ≤ x / 4294967296 := by omega
  have y1 : x / 4294967296 ≤ 255 := by omega
  clear hfin
  go_enter Tryz.func150, Tryz.ntmps150
  go_wp2
  go_ret
  refine ⟨congrArg Ending.returned (congrArg (Value.int IntKind.i64) ?_), rfl⟩
  rw [← unhide HF]
  exact len_wrap 32 (x / 4294967296) (by decide) y0 y1
set_option maxHeartbeats 4000000 in
set_option maxRecDepth 100000 in
theorem len64_40 (x : Int) (w : World) (h0 : 1099511627776 ≤ x) (h1 : x ≤ 281474976710655) :
    Calls Tryz.prog 150 #[.int .u64 x] w fun e w' => e = .returned (.int .i64 (Lib.bitLen x.toNat)) ∧ w' = w := by
  have hs := tab_size
  have hfin := len_at x (x / 4294967296 / 256) 40 (by omega) (by omega) (by omega) (.inr (by omega)) (by omega) (by omega)
  have HF := hide hfin
  have y0 : 0 ≤ x / 4294967296 / 256 := by omega
  have y1 : x / 4294967296 / 256 ≤ 255 := by omega
  clear hfin
  go_enter Tryz.func150, Tryz.ntmps150
  go_wp2
  go_ret
  refine ⟨congrArg Ending.returned (congrArg (Value.int IntKind.i64) ?_), rfl⟩
  rw [← unhide HF]
  exact len_wrap 40 (x / 4294967296 / 256) (by decide) y0 y1
set_option maxHeartbeats 4000000 in
set_option maxRecDepth 100000 in
theorem len64_48 (x : Int) (w : World) (h0 : 281474976710656 ≤ x) (h1 : x ≤ 72057594037927935) :
    Calls Tryz.prog 150 #[.int .u64 x] w fun e w' => e = .returned (.int .i64 (Lib.bitLen x.toNat)) ∧ w' = w := by
  have hs := tab_size
  have hfin := len_at x (x / 4294967296 / 65536) 48 (by omega) (by omega) (by omega) (.inr (by omega)) (by omega) (by omega)
  have HF := hide hfin
  have y0 : 0 ≤ x / 4294967296 / 65536 := by omega
  have y1 : x / 4294967296 / 65536 ≤ 255 := by omega
  clear hfin
  go_enter Tryz.func150, Tryz.ntmps150
  go_wp2
  go_ret
  refine ⟨congrArg Ending.returned (congrArg (Value.int IntKind.i64) ?_), rfl⟩
  rw [← unhide HF]
  exact len_wrap 48 (x / 4294967296 / 65536) (by decide) y0 y1
set_option maxHeartbeats 4000000 in
set_option maxRecDepth 100000 in
theorem len64_56 (x : Int) (w : World) (h0 : 72057594037927936 ≤ x) (h1 : x ≤ 18446744073709551615) :
    Calls Tryz.prog 150 #[.int .u64 x] w fun e w' => e = .returned (.int .i64 (Lib.bitLen x.toNat)) ∧ w' = w := by
  have hs := tab_size
  have hfin := len_at x (x / 4294967296 / 65536 / 256) 56 (by omega) (by omega) (by omega) (.inr (by omega)) (by omega) (by omega)
  have HF := hide hfin
  have y0 : 0 ≤ x / 4294967296 / 65536 / 256 := by omega
  have y1 : x / 4294967296 / 65536 / 256 ≤ 255 := by omega
  clear hfin
  go_enter Tryz.func150, Tryz.ntmps150
  go_wp2
  go_ret
  refine ⟨congrArg Ending.returned (congrArg (Value.int IntKind.i64) ?_), rfl⟩
  rw [← unhide HF]
  exact len_wrap 56 (x / 4294967296 / 65536 / 256) (by decide) y0 y1
theorem len64_any (x : Nat) (hx : x < B64) (w : World) :
    Calls Tryz.prog 150 #[.int .u64 x] w fun e w' => e = .returned (.int .i64 (Lib.bitLen x : Nat)) ∧ w' = w := by
  unfold B64 at hx
  have h : ∀ y : Int, y = (x : Int) → Calls Tryz.prog 150 #[.int .u64 y] w fun e w' => e = .returned (.int .i64 (Lib.bitLen y.toNat)) ∧ w' = w := by
    intro y hy
    by_cases a0 : y ≤ 255
    · exact len64_0 y w (by omega) a0
    by_cases a1 : y ≤ 65535
    · exact len64_8 y w (by omega) a1
    by_cases a2 : y ≤ 16777215
    · exact len64_16 y w (by omega) a2
    by_cases a3 : y ≤ 4294967295
    · exact len64_24 y w (by omega) a3
    by_cases a4 : y ≤ 1099511627775
    · exact len64_32 y w (by omega) a4
    by_cases a5 : y ≤ 281474976710655
    · exact len64_40 y w (by omega) a5
    by_cases a6 : y ≤ 72057594037927935
    · exact len64_48 y w (by omega) a6
    exact len64_56 y w (by omega) (by omega)
  have := h (x : Int) rfl
  rw [Int.toNat_natCast] at this
  exact this
end Go.Proofs.YtajkbkljonejnaaGreatDoor
namespace Go.Proofs.YtajkbkljonejnaaGreatDoor
open Go.RowKit Go.Shelf
set_option linter.unusedVariables false
def IsLenW (n L : Nat) : Prop := n < 2 ^ L ∧ (L = 0 ∨ 2 ^ (L - 1) ≤ n)
theorem IsLenW.zero : IsLenW 0 0 := ⟨by decide, .inl rfl⟩
theorem bitLen_isLen : ∀ (f x : Nat), x < 2 ^ f → x < 2 ^ 64 → IsLenW x (Lib.bitLen x) := by
  intro f
  induction f with
  | zero =>
    intro x h _
    have : x = 0 := by simpa using h
    subst this
    exact ⟨by decide, .inl rfl⟩
  | succ f ih =>
    intro x h h64
    by_cases h0 : x = 0
    · subst h0
      exact ⟨by decide, .inl rfl⟩
    · rw [Lib.bitLen_half x h0 h64]
      have hp : 2 ^ (f + 1) = 2 ^ f * 2 := Nat.pow_succ 2 f
      obtain ⟨h1, h2⟩ := ih (x / 2) (by omega) (by omega)
      have e : 2 ^ (1 + Lib.bitLen (x / 2)) = 2 * 2 ^ Lib.bitLen (x / 2) := by rw [Nat.add_comm, Nat.pow_succ, Nat.mul_comm]
      refine ⟨by rw [e]; omega, .inr ?_⟩
      rw [Nat.add_sub_cancel_left]
      rcases h2 with h2 | h2
      · rw [h2]
        show 1 ≤ x
        omega
      · by_cases hb : Lib.bitLen (x / 2) = 0
        · rw [hb]
          show 1 ≤ x
          omega
        · have : 2 ^ Lib.bitLen (x / 2) = 2 ^ (Lib.bitLen (x / 2) - 1) * 2 := by
            rw [← Nat.pow_succ]
            congr 1
            omega
          omega
theorem IsLenW.high {lo x L k : Nat} (hlo : lo < B64 ^ k) (h : IsLenW x L) (hL : 0 < L) : IsLenW (lo + x * B64 ^ k) (64 * k + L) := by
  have hB : B64 = 2 ^ 64 := rfl
  have e : B64 ^ k = 2 ^ (64 * k) := by rw [hB, ← Nat.pow_mul]
  obtain ⟨h1, h2⟩ := h
  refine ⟨?_, .inr ?_⟩
  · rw [Nat.pow_add, ← e]
    have : (x + 1) * B64 ^ k ≤ 2 ^ L * B64 ^ k := Nat.mul_le_mul_right _ h1
    rw [Nat.add_mul, Nat.one_mul, Nat.mul_comm (2 ^ L)] at this
    omega
  · rcases h2 with h2 | h2
    · omega
    · rw [show 64 * k + L - 1 = 64 * k + (L - 1) by omega, Nat.pow_add, ← e, Nat.mul_comm]
      have : 2 ^ (L - 1) * B64 ^ k ≤ x * B64 ^ k := Nat.mul_le_mul_right _ h2
      omega
theorem len_pos {x L : Nat} (h : IsLenW x L) (hx : x ≠ 0) : 0 < L := by
  rcases Nat.eq_zero_or_pos L with h0 | h0
  · subst h0
    have := h.1
    simp at this
    exact absurd this hx
  · exact h0
set_option maxHeartbeats 1000000 in
set_option maxRecDepth 100000 in
theorem length_any (xs : List Nat) (g o c : Nat) (w : World) (hX : NumAt w g o xs) (hx : okW xs) (hl : (xs.length : Int) ≤ 1000) :
    Calls Tryz.prog 128 #[.slice (some ⟨g, o, none⟩) xs.length c] w fun e w' => ∃ L : Nat, e = .returned (.int .i64 (L : Nat)) ∧ IsLenW (natW xs) L ∧ L ≤ 64 * xs.length ∧ w' = w := by
  have HX := hide hX
  have Hx := hide hx
  clear hX hx
  go_enter Tryz.func128, Tryz.ntmps128
  go_wp2
  go_loop [3] (fun i => ∃ k : Nat, k ≤ xs.length ∧ i = .int .i64 k ∧ natW xs = natW (xs.take k)) (fun i => (intOf i).toNat)
  case atStart => exact ⟨xs.length, Nat.le_refl _, rfl, by rw [List.take_of_length_le (Nat.le_refl _)]⟩
  case round =>
    obtain ⟨k, hk, rfl, hn⟩ := hrel
    by_cases h0 : k = 0
    · subst h0
      have hz : natW xs = 0 := by rw [hn]; simp [natW]
      have HZ := hide hz
      clear hz hn
      go_wp2
      go_ret
      exact ⟨0, rfl, by rw [unhide HZ]; exact IsLenW.zero, Nat.zero_le _, rfl⟩
    · obtain ⟨j, rfl⟩ : ∃ j, k = j + 1 := ⟨k - 1, by omega⟩
      obtain ⟨x, hxj⟩ : ∃ x, xs[j]? = some x := ⟨xs[j]'(by omega), List.getElem?_eq_getElem (by omega)⟩
      have hxb := okW_get (unhide Hx) hxj
      have cx := (unhide HX).2 j x hxj
      have hts := natW_take_succ xs j x hxj
      have hji : ((j + 1 : Nat) : Int) - 1 = (j : Int) := by omega
      have hpos : (0 : Int) < ((j + 1 : Nat) : Int) := by omega
      have hjl : (j : Int) < (xs.length : Int) := by omega
      by_cases hx0 : x = 0
      · have t0 : ((x : Int) != 0) = false := by rw [bne_eq_false_iff_eq]; omega
        have hn2 : natW xs = natW (xs.take j) := by rw [hn, hts, hx0, Nat.zero_mul, Nat.add_zero]
        have HN := hide hn2
        clear hn hn2 hts hxj hxb hx0
        generalize hjj : j + 1 = j1 at *
        have HJ := hide hjj
        clear hjj
        go_wp2
        go_round
        case rel => exact ⟨j, by have := unhide HJ; omega, by first | rfl | (rw [hji]), unhide HN⟩
        case measure => have := unhide HJ; simp [intOf]; omega
      · have t0 : ((x : Int) != 0) = true := by rw [bne_iff_ne]; omega
        have M1 := hide (fun w => len64_any x hxb w)
        have hb64 : x < 2 ^ 64 := hxb
        have hb := bitLen_isLen 64 x hb64 hb64
        have hbp := len_pos hb hx0
        have hlo := natW_lt (okW_take (unhide Hx) j)
        rw [List.length_take, Nat.min_eq_left (by omega)] at hlo
        have hfin := IsLenW.high hlo hb hbp
        rw [← hts, ← hn] at hfin
        have hb2 : Lib.bitLen x ≤ 64 := Lib.bitLen_le x 64 (Nat.le_refl _) hb64
        have HF := hide hfin
        generalize Lib.bitLen x = L at *
        clear hn hts hxj hxb hx0 hb hbp hlo hfin hb64
        generalize hjj : j + 1 = j1 at *
        have HJ := hide hjj
        clear hjj
        go_wp2_with fail
        refine (unhide M1 _).mono ?_
        rintro e y1 ⟨rfl, rfl⟩
        go_wp2
        go_ret
        refine ⟨64 * j + L, ?_, unhide HF, by have := unhide HJ; omega, rfl⟩
        exact congrArg Ending.returned (congrArg (Value.int IntKind.i64) (by omega))
end Go.Proofs.YtajkbkljonejnaaGreatDoor
namespace Go.Proofs.YtajkbkljonejnaaGreatDoor
open Go.RowKit Go.Shelf
set_option linter.unusedVariables false
structure ModOK (ms sq : List Nat) (m0 inv n : Nat) : Prop where
  lm : ms.length = n
  ls : sq.length = n
  om : okW ms
  os : okW sq
  odd : natW ms % 2 = 1
  big : 2 < natW ms
  hsq : natW sq = B64 ^ n * B64 ^ n % natW ms
  hm0 : ms[0]? = some m0
  hinv : (m0 * inv + 1) % B64 = 0
  hib : inv < B64
  n4 : 4 ≤ n
  n12 : n ≤ 12
end Go.Proofs.YtajkbkljonejnaaGreatDoor
namespace Go.Proofs.YtajkbkljonejnaaGreatDoor
open Go.RowKit Go.Shelf
set_option linter.unusedVariables false
end Go.Proofs.YtajkbkljonejnaaGreatDoor
namespace Go.Proofs.YtajkbkljonejnaaGreatDoor
open Go.RowKit Go.Shelf
set_option linter.unusedVariables false
def isModB (s : ByteArray) : Bool := decide (40 ≤ s.size) && decide (s.size ≤ 96) && decide (128 ≤ (s.data.toList.headD 0).toNat) && decide ((s.data.toList.getLastD 0).toNat % 2 = 1)
set_option maxHeartbeats 1000000 in
set_option maxRecDepth 100000 in
theorem isModulus_any (s : ByteArray) (w : World) :
    Calls Tryz.prog 129 #[.string s] w fun e w' => e = .returned (.bool (isModB s)) ∧ w' = w := by
  by_cases h1 : 40 ≤ s.size
  · by_cases h2 : s.size ≤ 96
    · obtain ⟨c, hc⟩ : ∃ c : Nat, c = (s.data.toList.headD 0).toNat := ⟨_, rfl⟩
      obtain ⟨d, hd⟩ : ∃ d : Nat, d = (s.data.toList.getLastD 0).toNat := ⟨_, rfl⟩
      have hm : isModB s = (decide (128 ≤ c) && decide (d % 2 = 1)) := by
        unfold isModB
        rw [← hc, ← hd, decide_eq_true h1, decide_eq_true h2]
        simp
      rw [hm]
      have hcb : c < 256 := by rw [hc]; exact UInt8.toNat_lt _
      have hdb : d < 256 := by rw [hd]; exact UInt8.toNat_lt _
      obtain ⟨l, hl⟩ : ∃ l, l = s.size - 1 := ⟨_, rfl⟩
      have hli : (s.size : Int) - 1 = (l : Int) := by omega
      have hls : l < s.size := by omega
      have x0 : ∀ h, ((s[0]'h).toNat : Int) = (c : Int) := by
        intro h
        rw [hc]
        congr 2
        have hne : s.data.toList = s[0] :: s.data.toList.tail := by
          have : s.data.toList ≠ [] := by
            intro hh
            have hz : s.size = s.data.toList.length := by simp
            rw [hh, List.length_nil] at hz
            omega
          cases hh : s.data.toList with
          | nil => exact absurd hh this
          | cons a t =>
            have : s[0] = a := by
              show s.data[0] = a
              rw [← Array.getElem_toList]
              simp [hh]
            rw [this]; rfl
        rw [hne]; rfl
      have x1 : ∀ h, ((s[l]'h).toNat : Int) = (d : Int) := by
        intro h
        rw [hd]
        congr 2
        show s.data[l] = _
        rw [List.getLastD_eq_getLast?, List.getLast?_eq_getElem?, ← Array.getElem_toList]
        have hz : s.size = s.data.size := rfl
        rw [show s.data.toList.length - 1 = l by rw [hl, hz]; simp, List.getElem?_eq_getElem (by rw [Array.length_toList, ← hz]; omega)]
        rfl
      clear hc hd hm
      have k1 : (40 : Int) ≤ (s.size : Int) := by omega
      have k2 : (s.size : Int) ≤ 96 := by omega
      by_cases h3 : 128 ≤ c
      · rw [decide_eq_true h3, Bool.true_and]
        have k3 : (128 : Int) ≤ (c : Int) := by omega
        have h4 : d % 2 = 0 ∨ d % 2 = 1 := by omega
        rcases h4 with h4 | h4
        · rw [h4]
          have k4 : (d : Int) % 2 = 0 := by omega
          clear h4 h3 hl
          go_enter Tryz.func129, Tryz.ntmps129
          go_wp2
          go_ret
          exact ⟨rfl, rfl⟩
        · rw [h4]
          have k4 : (d : Int) % 2 = 1 := by omega
          clear h4 h3 hl
          go_enter Tryz.func129, Tryz.ntmps129
          go_wp2
          go_ret
          exact ⟨rfl, rfl⟩
      · rw [decide_eq_false h3, Bool.false_and]
        have k3 : ¬ (128 : Int) ≤ (c : Int) := by omega
        clear h3 hl
        go_enter Tryz.func129, Tryz.ntmps129
        go_wp2
        go_ret
        exact ⟨rfl, rfl⟩
    · have hm : isModB s = false := by unfold isModB; rw [decide_eq_false h2]; simp
      rw [hm]
      have k1 : (40 : Int) ≤ (s.size : Int) := by omega
      have k2 : ¬ (s.size : Int) ≤ 96 := by omega
      clear hm
      go_enter Tryz.func129, Tryz.ntmps129
      go_wp2
      go_ret
      exact ⟨rfl, rfl⟩
  · have hm : isModB s = false := by unfold isModB; rw [decide_eq_false h1]; simp
    rw [hm]
    have k1 : ¬ (40 : Int) ≤ (s.size : Int) := by omega
    clear hm
    go_enter Tryz.func129, Tryz.ntmps129
    go_wp2
    go_ret
    exact ⟨rfl, rfl⟩
end Go.Proofs.YtajkbkljonejnaaGreatDoor
