/- text of a number. -/
import Derived.Test.YtjipcmmaemokhaaDoorM11
namespace Go.Proofs.YtjipcmmaemokhaaDoor
open Go.RowKit Go.Shelf
set_option linter.unusedVariables false

theorem pow_split (r : Nat) (hr : r < 8) : B64 = 2 ^ (8 * r) * (2 ^ (56 - 8 * r) * 256) := by
  have h256 : (256 : Nat) = 2 ^ 8 := rfl
  have hB : B64 = 2 ^ 64 := rfl
  rw [hB, h256, ← Nat.pow_add, ← Nat.pow_add]
  congr 1
  omega
theorem word_byte (x h E F : Nat) (hE : 0 < E) : (x + E * (F * 256) * h) / E % 256 = x / E % 256 := by
  rw [show E * (F * 256) * h = E * (F * h * 256) by grind, Nat.add_mul_div_left _ _ hE, Nat.add_mul_mod_self_right]
theorem natW_byte {xs : List Nat} {i q r x : Nat} (hx : okW xs) (hi : i = 8 * q + r) (hr : r < 8) (hq : xs[q]? = some x) : natW xs / 256 ^ i % 256 = x / 2 ^ (8 * r) % 256 := by
  have hl : q < xs.length := by
    rcases Nat.lt_or_ge q xs.length with h | h
    · exact h
    · rw [List.getElem?_eq_none h] at hq; cases hq
  have e := natW_split xs q (by omega)
  have hd : xs.drop q = x :: xs.drop (q + 1) := by
    rw [List.drop_eq_getElem_cons hl]
    rw [List.getElem?_eq_getElem hl] at hq
    rw [Option.some.inj hq]
  rw [hd, natW] at e
  have hlow := natW_lt (okW_take hx q)
  rw [List.length_take, Nat.min_eq_left (by omega)] at hlow
  have hp : 0 < B64 ^ q := Nat.pow_pos B64_pos
  rw [hi, pow_256W, ← Nat.div_div_eq_div_mul, e, Nat.add_mul_div_left _ _ hp, Nat.div_eq_of_lt hlow, Nat.zero_add]
  conv => lhs; rw [pow_split r hr]
  exact word_byte x _ _ _ (Nat.pow_pos (by decide))

/-- the row behind j rounds: zeros, then the low j bytes -/
def rowTx (n k j : Nat) : List Int := List.replicate (k - j) 0 ++ bigL n j
theorem rowTx_length (n k j : Nat) (h : j ≤ k) : (rowTx n k j).length = k := by simp [rowTx, bigL_length]; omega
theorem rowTx_set (n k j : Nat) (h : j < k) : (rowTx n k j).set (k - 1 - j) ((n / 256 ^ j % 256 : Nat) : Int) = rowTx n k (j + 1) := by
  unfold rowTx
  rw [show k - j = (k - (j + 1)) + 1 by omega, List.replicate_succ', List.append_assoc, show k - 1 - j = (List.replicate (k - (j + 1)) (0 : Int)).length + 0 by simp; omega, List.set_append_right _ _ (by omega)]
  simp [bigL]
theorem made_rowTx (k : Nat) (n : Nat) : (madeCells #[Value.int .u8 0] k).toList = (rowTx n k 0).map (Value.int .u8) := by
  have e : rowTx n k 0 = List.replicate k 0 := by simp [rowTx, bigL]
  rw [e, List.map_replicate]
  apply List.ext_getElem
  · simp [madeCells]
  · intro i h1 h2
    simp [madeCells, Nat.mod_one]
theorem below_num {w w' : World} {B g off : Nat} {ws : List Nat} (h : NumAt w g off ws) (hb : Below B w w') (hg : g < B) : ∀ i x, ws[i]? = some x → w'.cell? ⟨g, off + i, none⟩ = some (.int .u64 (x : Nat)) :=
  fun i x hi => (hb.cell (p := ⟨g, off + i, none⟩) hg).trans (h.2 i x hi)

set_option maxHeartbeats 1000000 in
set_option maxRecDepth 100000 in
theorem ctext_any (xs : List Nat) (g o c k : Nat) (w : World) (hX : NumAt w g o xs) (hx : okW xs) (hk : k ≤ 8 * xs.length) (hkb : (k : Int) ≤ 1000) :
    Calls Tryd.prog 16 #[.slice (some ⟨g, o, none⟩) xs.length c, .int .i64 k] w fun e w' => e = .returned (.string (strOfNums (bigL (natW xs) k))) ∧ Below w.heap.size w w' := by
  obtain ⟨i0, hi, hz0, hz1, hz2⟩ := info_partsN (t := 5) infoByte
  have HX := hide hX
  have g1 := hX.1
  have Hx := hide hx
  clear hX hx
  go_enter Tryd.func16, Tryd.ntmps16
  go_wp2_with (at_make; refine wpList_make_full _ rfl _ _ 41 rfl w.heap.size 5 i0 (.int .u8 0) 1 Tryd.underlying41 hi hz0 hz1 .i64 .i64 _ _ k rfl rfl rfl rfl (by rw [hz2]; omega) (by unfold maxLen; omega) (Nat.le_refl _) ?_)
  intro w1 hown hgrow
  rw [made_rowTx k (natW xs)] at hown
  have hb : Below w.heap.size w w1 := (Below.refl _ _).grown hgrow (Nat.le_refl _) (fun q hq => by cases hq)
  clear hgrow hi hz0 hz1 hz2
  go_wp2
  go_loopw [10] (fun i wr => ∃ j : Nat, j ≤ k ∧ i = .int .i64 j ∧ wr.ownsRow w.heap.size 5 1 (.slice (some ⟨w.heap.size, 0, none⟩) k k) k ((rowTx (natW xs) k j).map (Value.int .u8)) ∧ Below w.heap.size w wr)
    (fun i _ => k - (intOf i).toNat)
  case atStart => exact ⟨0, Nat.zero_le _, rfl, hown, hb⟩
  case round =>
    clear hown hb
    obtain ⟨j, hj, rfl, hown, hnx⟩ := hrel
    by_cases hlt : j < k
    · obtain ⟨p, hp⟩ : ∃ p, p = k - 1 - j := ⟨_, rfl⟩
      have hfz := hown.frozenAt p
      have hca : wr.cell? ⟨w.heap.size, p, none⟩ = some (.int .u8 ((rowTx (natW xs) k j).getD p 0)) := by
        rw [hown.cellAt p (by omega)]
        simp [List.getElem?_eq_getElem (show p < (rowTx (natW xs) k j).length by rw [rowTx_length _ _ _ hj]; omega)]
      obtain ⟨q, hq⟩ : ∃ q, q = j / 8 := ⟨_, rfl⟩
      obtain ⟨r, hr⟩ : ∃ r, r = j % 8 := ⟨_, rfl⟩
      obtain ⟨x, hxq⟩ : ∃ x, xs[q]? = some x := ⟨xs[q]'(by omega), List.getElem?_eq_getElem (by omega)⟩
      have hby := natW_byte (i := j) (unhide Hx) (by omega) (by omega) hxq (r := r)
      have cx := below_num (unhide HX) hnx g1 q x hxq
      have hset := (hown.stored p (.int .u8 ((natW xs / 256 ^ j % 256 : Nat) : Int))).1
      rw [hp, ← List.map_set, rowTx_set _ _ _ hlt, ← hp, hby] at hset
      obtain ⟨e8, he8⟩ : ∃ e8, e8 = 8 * r := ⟨_, rfl⟩
      rw [← he8] at hset
      have hdiv : (x : Int) / 2 ^ e8 % 256 = ((x / 2 ^ e8 % 256 : Nat) : Int) := by simp
      have hqi : (j : Int) / 8 = (q : Int) := by omega
      have hri : (j : Int) % 8 * 8 = (e8 : Int) := by omega
      have hpi : (k : Int) - 1 - (j : Int) = (p : Int) := by omega
      have hql : (q : Int) < (xs.length : Int) := by omega
      have hpk : (p : Int) < (k : Int) := by omega
      have he64 : e8 ≤ 56 := by omega
      have HS := hide hset
      have HB := hide (hnx.setCell (p := ⟨w.heap.size, p, none⟩) (Nat.le_refl _) (.int .u8 ((x / 2 ^ e8 % 256 : Nat) : Int)))
      generalize x / 2 ^ e8 % 256 = y at *
      clear hset hown hnx hby hxq hq hr hp he8
      go_wp2
      go_roundw
      case rel => exact ⟨j + 1, hlt, by go_num, unhide HS, unhide HB⟩
      case measure => simp [intOf]; omega
    · have hkl : j = k := by omega
      subst hkl
      rcases owned_cells hown with ⟨hv, hn⟩ | ⟨g2, cap', hv, _, hcl⟩
      · simp at hv
      · simp only [Value.slice.injEq, Option.some.injEq, Addr.mk.injEq, and_true, true_and] at hv
        obtain ⟨hg, hcap⟩ := hv
        subst hg hcap
        have hcv := run_convert_bytes_arg (P := Tryd.prog) wr 41 5 Tryd.underlying41 Tryd.underlying5 w.heap.size 0 j j _ (by rw [rowTx_length _ _ _ hj]) hcl 9 Tryd.underlying9
        rw [show rowTx (natW xs) j j = bigL (natW xs) j by simp [rowTx]] at hcv
        clear hown hcl
        go_wp2
        go_ret
        exact ⟨rfl, hnx⟩
end Go.Proofs.YtjipcmmaemokhaaDoor
