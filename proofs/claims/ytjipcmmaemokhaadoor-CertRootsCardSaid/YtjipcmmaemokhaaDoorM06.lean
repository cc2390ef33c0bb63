/- product of the program. -/
import Derived.Test.YtjipcmmaemokhaaDoorM05
namespace Go.Proofs.YtjipcmmaemokhaaDoor
open Go.RowKit Go.Shelf
set_option linter.unusedVariables false

theorem infoU64 : (Tryd.prog.info? 40).map (fun i => (i.zero, i.size, i.bytes)) = some (some (.int .u64 0), 1, 8) := by kernel_rfl
theorem info_partsN {P : Program} {t : TypeId} {z : Value} {s b : Nat} (h : (P.info? t).map (fun i => (i.zero, i.size, i.bytes)) = some (some z, s, b)) : ∃ i, P.info? t = some i ∧ i.zero = some z ∧ i.size = s ∧ i.bytes = b := by
  cases hi : P.info? t with
  | none => rw [hi] at h; cases h
  | some i => rw [hi] at h; simp at h; exact ⟨i, rfl, h.1, h.2.1, h.2.2⟩
theorem own_wholeN {w : World} {base g n : Nat} {e : TypeId} {xs : List Value} (h : w.ownsRow base e 1 (.slice (some ⟨g, 0, none⟩) n n) n xs) : w.heap[g]? = some (.cells xs.toArray e (0, 0)) := by
  rcases h.2 with ⟨h1, h2⟩ | ⟨g', cap, cur, h1, hB, hh, hle, hm, hsz, htk⟩
  · simp at h1
  · simp only [Value.slice.injEq, Option.some.injEq, Addr.mk.injEq, and_true, true_and] at h1
    obtain ⟨rfl, rfl⟩ := h1
    rw [hh]
    congr 2
    have : cur.toList = xs := by
      rw [← htk, List.take_of_length_le (by simp; omega)]
    rw [← this]
theorem made_words (n : Nat) : (madeCells #[Value.int .u64 0] n).toList = (List.replicate n 0).map fun x : Nat => Value.int .u64 (x : Int) := by
  rw [List.map_replicate]
  apply List.ext_getElem
  · simp [madeCells]
  · intro i h1 h2
    simp [madeCells, Nat.mod_one]
theorem made_urow {w w1 : World} {base n : Nat} (h : w1.ownsRow base 40 1 (.slice (some ⟨w.heap.size, 0, none⟩) n n) n (madeCells #[Value.int .u64 0] n).toList) : URow w1 w.heap.size (List.replicate n 0) := by
  have := own_wholeN h
  rw [made_words] at this
  exact this
/-- the words of a product, behind k words of y -/
theorem prod_room {xs row : List Nat} {yk word k : Nat} (hx : okW xs) (hrow : okW row) (hr : natW row = natW xs * yk) (hyk : yk < B64 ^ k) (hw : word < B64) (hk : k + xs.length + 1 ≤ row.length) :
    natW (row.drop k) + word * natW xs < B64 ^ (row.drop k).length := by
  have h1 := natW_lt hx
  have e := natW_split row k (by omega)
  have hp : 0 < B64 ^ k := Nat.pow_pos B64_pos
  have hlt : natW row < B64 ^ xs.length * B64 ^ k := by
    rw [hr]
    rcases Nat.eq_zero_or_pos yk with h0 | h0
    · rw [h0, Nat.mul_zero]
      exact Nat.mul_pos (Nat.pow_pos B64_pos) hp
    · exact Nat.mul_lt_mul'' h1 hyk
  have h2 : natW (row.drop k) < B64 ^ xs.length := by
    rcases Nat.lt_or_ge (natW (row.drop k)) (B64 ^ xs.length) with h | h
    · exact h
    · have : B64 ^ k * B64 ^ xs.length ≤ B64 ^ k * natW (row.drop k) := Nat.mul_le_mul_left _ h
      rw [Nat.mul_comm (B64 ^ k) (B64 ^ xs.length)] at this
      omega
  have h3 : word * natW xs ≤ (B64 - 1) * (B64 ^ xs.length - 1) := Nat.mul_le_mul (by omega) (by omega)
  have h4 : (B64 - 1) * (B64 ^ xs.length - 1) + B64 ^ xs.length ≤ B64 ^ (xs.length + 1) := by
    have hp2 : 0 < B64 ^ xs.length := Nat.pow_pos B64_pos
    rw [Nat.pow_succ]
    generalize B64 ^ xs.length = q at *
    have : (B64 - 1) * (q - 1) + (q - 1) = B64 * (q - 1) := by
      have hb := B64_pos
      rw [Nat.sub_mul, Nat.one_mul]
      have : q - 1 ≤ B64 * (q - 1) := Nat.le_mul_of_pos_left _ hb
      omega
    have h5 : B64 * (q - 1) + B64 = q * B64 := by
      rw [Nat.mul_sub, Nat.mul_one, Nat.mul_comm q]
      have : B64 ≤ B64 * q := Nat.le_mul_of_pos_right _ hp2
      omega
    have hb := B64_pos
    omega
  have h6 : B64 ^ (xs.length + 1) ≤ B64 ^ (row.drop k).length := Nat.pow_le_pow_right B64_pos (by rw [List.length_drop]; omega)
  omega
theorem prod_step {xs ys row u : List Nat} {k word : Nat} (hk : k ≤ row.length) (hr : natW row = natW xs * natW (ys.take k)) (hy : ys[k]? = some word) (hu : natW u = natW (row.drop k) + word * natW xs) :
    natW (row.take k ++ u) = natW xs * natW (ys.take (k + 1)) := by
  have e := natW_split row k hk
  rw [natW_append, natW_take_succ ys k word hy, List.length_take, Nat.min_eq_left hk, hu]
  grind

set_option maxHeartbeats 4000000 in
set_option maxRecDepth 100000 in
theorem product_any (xs ys : List Nat) (g o c g' o' c' : Nat) (w : World) (hX : NumAt w g o xs) (hY : NumAt w g' o' ys) (hx : okW xs) (hy : okW ys) (hxl : (xs.length : Int) ≤ 1000) (hyl : (ys.length : Int) ≤ 1000) :
    Calls Tryd.prog 15 #[.slice (some ⟨g, o, none⟩) xs.length c, .slice (some ⟨g', o', none⟩) ys.length c'] w fun e w' => ∃ row, e = .returned (.slice (some ⟨w.heap.size, 0, none⟩) row.length row.length) ∧ URow w' w.heap.size row ∧ row.length = xs.length + ys.length ∧ okW row ∧ natW row = natW xs * natW ys ∧ Below w.heap.size w w' := by
  obtain ⟨i0, hi, hz0, hz1, hz2⟩ := info_partsN infoU64
  go_enter Tryd.func15, Tryd.ntmps15
  go_wp2_with (at_make; refine wpList_make_full _ rfl _ _ 36 rfl w.heap.size 40 i0 (.int .u64 0) 1 Tryd.underlying36 hi hz0 hz1 .i64 .i64 _ _ (xs.length + ys.length) rfl rfl (by simp) (by simp) (by rw [hz2]; omega) (by unfold maxLen; omega) (Nat.le_refl _) ?_)
  intro w1 hown hgrow
  have hU := made_urow hown
  have hb : Below w.heap.size w w1 := (Below.refl _ _).grown hgrow (Nat.le_refl _) (fun q hq => by cases hq)
  clear hown hgrow hi hz0 hz1 hz2
  have HX := hide hX
  have HY := hide hY
  have hgl := hX.1
  have hgl' := hY.1
  clear hX hY
  obtain ⟨N, hN⟩ : ∃ N, N = xs.length + ys.length := ⟨_, rfl⟩
  rw [← hN] at hU ⊢
  have HN := hide hN
  have hNb : (N : Int) ≤ 2000 := by omega
  have hNy : (ys.length : Int) ≤ (N : Int) := by omega
  clear hN
  go_wp2
  go_loopw [16] (fun i wr => ∃ (k : Nat) (row : List Nat), k ≤ ys.length ∧ i = .int .i64 k ∧ row.length = N ∧ okW row ∧ natW row = natW xs * natW (ys.take k) ∧ URow wr w.heap.size row ∧ Below w.heap.size w wr) (fun i _ => ys.length - (intOf i).toNat)
  case atStart => exact ⟨0, _, Nat.zero_le _, rfl, by simp, okW_zeros _, by rw [natW_zeros]; simp [natW], hU, hb⟩
  case round =>
    clear hU hb
    obtain ⟨k, row, hk, rfl, hrl, hrow, hr, hU, hbel⟩ := hrel
    by_cases hlt : k < ys.length
    · obtain ⟨word, hw⟩ : ∃ x, ys[k]? = some x := ⟨ys[k], List.getElem?_eq_getElem hlt⟩
      have hwb := okW_get hy hw
      have cy : wr.cell? ⟨g', o' + k, none⟩ = some (.int .u64 (word : Nat)) := (hbel.cell (p := ⟨g', o' + k, none⟩) hgl').trans ((unhide HY).2 k word hw)
      have hXr : NumAt wr g o xs := ⟨Nat.lt_of_lt_of_le hgl hbel.size, fun i x hi => (hbel.cell (p := ⟨g, o + i, none⟩) hgl).trans ((unhide HX).2 i x hi)⟩
      have hyk : natW (ys.take k) < B64 ^ k := by
        have := natW_lt (okW_take hy k)
        rw [List.length_take, Nat.min_eq_left (by omega)] at this
        exact this
      have hroom := prod_room (k := k) hx hrow hr hyk hwb (by have := unhide HN; omega)
      have hpl : (row.take k).length = k := by rw [List.length_take]; omega
      have hdl : (row.drop k).length = N - k := by rw [List.length_drop]; omega
      have hU2 : URow wr w.heap.size (row.take k ++ row.drop k) := by rw [List.take_append_drop]; exact hU
      have A1 := fun tc => addTimes_any (row.take k) (row.drop k) xs word w.heap.size tc g o c wr hU2 hXr (by omega) (by rw [hdl]; have := unhide HN; omega) hwb hx (okW_drop hrow k) hroom (by rw [hdl]; omega)
      rw [hpl, hdl] at A1
      have HA := hide A1
      have HS := hide (fun u (hu : natW u = natW (row.drop k) + word * natW xs) => prod_step (k := k) (by omega) hr hw hu)
      have HOK := hide (okW_take hrow k)
      have HB := hide hbel
      have hki : (k : Int) < (ys.length : Int) := by omega
      have hkN : (k : Int) ≤ (N : Int) := by omega
      clear A1 hU2 hXr hroom hdl hyk hU hbel hrow hr hw hwb
      go_wp2_with fail
      refine (unhide HA _).mono ?_
      rintro e y1 ⟨rfl, u, hU1, hul, huo, hun, hon⟩
      have hlen2 : (row.take k ++ u).length = N := by rw [List.length_append, hpl, hul]; omega
      have hok2 := okW_append (unhide HOK) huo
      have hnat := unhide HS u hun
      have W1 := hide ((unhide HB).trans (hon.below (Nat.le_refl _)))
      have H1 := hide hU1
      clear HA HS HOK HB hU1 hon hun huo hul
      go_wp2
      go_roundw
      case rel => exact ⟨k + 1, _, hlt, by go_num, hlen2, hok2, hnat, unhide H1, unhide W1⟩
      case measure => simp [intOf]; omega
    · rw [List.take_of_length_le (by omega)] at hr
      have HU := hide hU
      have HB := hide hbel
      have HR := hide hr
      clear hU hbel hr
      go_wp2
      go_ret
      refine ⟨row, ?_, unhide HU, by rw [hrl]; exact unhide HN, hrow, unhide HR, unhide HB⟩
      rw [hrl]
      rfl
end Go.Proofs.YtjipcmmaemokhaaDoor
