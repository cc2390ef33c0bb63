/- addTimes of the program. -/
import Derived.Test.YtckkhpegimkefaaGreatDoorM08
import Derived.Deep.RegionWith
namespace Go.Proofs.YtckkhpegimkefaaGreatDoor
open Go.RowKit Go.Shelf
set_option linter.unusedVariables false

theorem wrap64N (a b c : Nat) (h : a + b = c) (hc : c < B64) : IntKind.u64.wrap ((a : Int) + (b : Int)) = (c : Int) := by
  unfold B64 at hc
  rw [IntKind.wrap_u64]
  omega
theorem get_pre {pre u : List Nat} {i : Nat} : (pre ++ u)[pre.length + i]? = u[i]? := by
  rw [List.getElem?_append_right (by omega), Nat.add_sub_cancel_left]
theorem set_pre {pre u : List Nat} {i x : Nat} : (pre ++ u).set (pre.length + i) x = pre ++ u.set i x := by
  rw [List.set_append_right _ _ (by omega), Nat.add_sub_cancel_left]
theorem take_set (u : List Nat) (i x : Nat) (h : i < u.length) : (u.set i x).take (i + 1) = u.take i ++ [x] := by
  rw [List.take_set, List.take_add_one, List.getElem?_eq_getElem h, List.set_append_right _ _ (by simp; omega), List.length_take, Nat.min_eq_left (by omega), Nat.sub_self]
  rfl
theorem drop_set (u : List Nat) (i x : Nat) : (u.set i x).drop (i + 1) = u.drop (i + 1) := by
  rw [List.drop_set_of_lt (by omega)]

/-- behind i words -/
structure AddAt (r0 xs : List Nat) (n i : Nat) (u : List Nat) (o : Nat) : Prop where
  len : u.length = r0.length
  ok : okW u
  rest : u.drop i = r0.drop i
  sum : natW (u.take i) + o * B64 ^ i = natW (r0.take i) + n * natW (xs.take i)
  lt : o < B64
theorem AddAt.step {r0 xs : List Nat} {n i o xw tw : Nat} {u : List Nat} (h : AddAt r0 xs n i u o) (hx : xs[i]? = some xw) (ht : u[i]? = some tw) (hn : n < B64) (hxw : xw < B64) :
    AddAt r0 xs n (i + 1) (u.set i (digN xw n o tw % B64)) (digN xw n o tw / B64) := by
  have htw := okW_get h.ok ht
  have hi : i < u.length := by
    rcases Nat.lt_or_ge i u.length with h' | h'
    · exact h'
    · rw [List.getElem?_eq_none h'] at ht; cases ht
  have hr : r0[i]? = some tw := by
    have e : u.drop i = r0.drop i := h.rest
    have e2 := congrArg (fun l => l[0]?) e
    simp only [List.getElem?_drop, Nat.add_zero] at e2
    rw [← e2]; exact ht
  have hd := dig_lt xw n o tw hxw hn h.lt htw
  refine ⟨by rw [List.length_set]; exact h.len, okW_set h.ok _ _ (Nat.mod_lt _ B64_pos), ?_, ?_, Nat.div_lt_of_lt_mul hd⟩
  · rw [drop_set, ← List.drop_drop, ← List.drop_drop, h.rest]
  · rw [take_set u i _ hi, natW_append, natW_take_succ r0 i tw hr, natW_take_succ xs i xw hx, List.length_take, Nat.min_eq_left (by omega), Nat.pow_succ]
    have := add_stepW (natW (u.take i)) o (B64 ^ i) (natW (r0.take i)) n (natW (xs.take i)) xw tw h.sum
    simp only [natW, Nat.mul_zero, Nat.add_zero]
    rw [Nat.mul_comm (B64 ^ i)]
    exact this

theorem AddAt.carry {r0 xs : List Nat} {n i o tw : Nat} {u : List Nat} (h : AddAt r0 xs n i u o) (hi : xs.length ≤ i) (ht : u[i]? = some tw) :
    AddAt r0 xs n (i + 1) (u.set i ((tw + o) % B64)) ((tw + o) / B64) := by
  have htw := okW_get h.ok ht
  have hi2 : i < u.length := by
    rcases Nat.lt_or_ge i u.length with h' | h'
    · exact h'
    · rw [List.getElem?_eq_none h'] at ht; cases ht
  have hr : r0[i]? = some tw := by
    have e : u.drop i = r0.drop i := h.rest
    have e2 := congrArg (fun l => l[0]?) e
    simp only [List.getElem?_drop, Nat.add_zero] at e2
    rw [← e2]; exact ht
  have hd : (tw + o) / B64 < B64 := by have := h.lt; unfold B64 at *; omega
  refine ⟨by rw [List.length_set]; exact h.len, okW_set h.ok _ _ (Nat.mod_lt _ B64_pos), ?_, ?_, hd⟩
  · rw [drop_set, ← List.drop_drop, ← List.drop_drop, h.rest]
  · have hs := h.sum
    rw [List.take_of_length_le hi] at hs
    rw [take_set u i _ hi2, natW_append, natW_take_succ r0 i tw hr, List.take_of_length_le (show xs.length ≤ i + 1 by omega), List.length_take, Nat.min_eq_left (by omega), Nat.pow_succ]
    have hq := Nat.div_add_mod (tw + o) B64
    generalize (tw + o) % B64 = r at *
    generalize (tw + o) / B64 = q at *
    simp only [natW, Nat.mul_zero, Nat.add_zero]
    grind
theorem AddAt.done {r0 xs : List Nat} {n k o : Nat} {u : List Nat} (h : AddAt r0 xs n k u o) (hk : xs.length ≤ k) (hk2 : k ≤ r0.length) (hroom : natW r0 + n * natW xs < B64 ^ r0.length) (hd : o = 0 ∨ k = r0.length) : natW u = natW r0 + n * natW xs := by
  have hs := h.sum
  rw [List.take_of_length_le hk] at hs
  have e1 := natW_split u k (by rw [h.len]; exact hk2)
  have e2 := natW_split r0 k hk2
  rw [h.rest] at e1
  have h0 : o = 0 := by
    rcases hd with hd | hd
    · exact hd
    · subst hd
      rw [List.take_of_length_le (Nat.le_refl r0.length)] at hs
      rcases Nat.eq_zero_or_pos o with h1 | h1
      · exact h1
      · have : B64 ^ r0.length ≤ o * B64 ^ r0.length := Nat.le_mul_of_pos_left _ h1
        omega
  subst h0
  rw [Nat.zero_mul, Nat.add_zero] at hs
  omega

set_option maxHeartbeats 4000000 in
set_option maxRecDepth 100000 in
theorem addTimes_any (pre r0 xs : List Nat) (n : Nat) (g tc g' o' xc : Nat) (w : World) (hT : URow w g (pre ++ r0)) (hX : NumAt w g' o' xs) (hne : g' ≠ g) (hlen : xs.length ≤ r0.length) (hn : n < B64) (hxs : okW xs) (hr0 : okW r0)
    (hroom : natW r0 + n * natW xs < B64 ^ r0.length) (hbig : (r0.length : Int) ≤ 1000000) :
    Calls Tryz.prog 71 #[.slice (some ⟨g, pre.length, none⟩) r0.length tc, .slice (some ⟨g', o', none⟩) xs.length xc, .int .u64 n] w fun e w' => e = .returned (.tuple #[]) ∧ ∃ u, URow w' g (pre ++ u) ∧ u.length = r0.length ∧ okW u ∧ natW u = natW r0 + n * natW xs ∧ Only g w w' := by
  go_enter Tryz.func71, Tryz.ntmps71
  go_wp2
  have HN := hide hn
  have HX := hide hX
  have HXS := hide hxs
  have HRM := hide hroom
  clear hn hxs hroom
  go_loopw [6, 15] (fun ov i wr => ∃ (k o : Nat) (u : List Nat), k ≤ xs.length ∧ i = .int .i64 k ∧ ov = .int .u64 (o : Nat) ∧ AddAt r0 xs n k u o ∧ URow wr g (pre ++ u) ∧ Only g w wr) (fun _ i _ => xs.length - (intOf i).toNat)
  case atStart => exact ⟨0, 0, r0, Nat.zero_le _, rfl, rfl, ⟨rfl, hr0, rfl, by simp [natW], B64_pos⟩, hT, Only.refl _ _⟩
  case round =>
    obtain ⟨k, o, u, hk, rfl, rfl, hA, hU, hO⟩ := hrel
    by_cases hlt : k < xs.length
    · obtain ⟨xw, hxw⟩ : ∃ x, xs[k]? = some x := ⟨xs[k], List.getElem?_eq_getElem hlt⟩
      have hul := hA.len
      obtain ⟨tw, htw⟩ : ∃ x, u[k]? = some x := ⟨u[k]'(by omega), List.getElem?_eq_getElem (by omega)⟩
      have hxb := okW_get (unhide HXS) hxw
      have htb := okW_get hA.ok htw
      have hst := hA.step hxw htw (unhide HN) hxb
      have cx := ((unhide HX).only hO hne).2 k xw hxw
      have ct := hU.cell (pre.length + k) tw (by rw [get_pre]; exact htw)
      have ft := hU.frozen (pre.length + k)
      have hset := hU.set (pre.length + k) (digN xw n o tw % B64)
      rw [set_pre] at hset
      have M1 := hide (fun w => mul64_any xw n hxb (unhide HN) w)
      have a1 := fun w => add64_run0 (xw * n % B64) o w
      have a2 := fun w => add64_run0 tw ((xw * n % B64 + o) % B64) w
      have e1 := dig_low (xw * n) o tw
      have e2 := dig_over (xw * n) o tw hA.lt htb
      rw [show xw * n + o + tw = digN xw n o tw from rfl] at e1 e2
      rw [e1] at a2
      have hov : digN xw n o tw / B64 < B64 := hst.lt
      generalize digN xw n o tw % B64 = dd at *
      generalize digN xw n o tw / B64 = ov at *
      generalize (tw + (xw * n % B64 + o) % B64) / B64 = c2 at *
      generalize (xw * n % B64 + o) % B64 = s1 at *
      generalize (xw * n % B64 + o) / B64 = c1 at *
      generalize xw * n % B64 = lo at *
      generalize xw * n / B64 = hi at *
      obtain ⟨h1, hh1⟩ : ∃ h1, h1 = hi + c1 := ⟨_, rfl⟩
      have w1 := wrap64N hi c1 h1 hh1.symm (by omega)
      have w2 := wrap64N h1 c2 ov (by omega) hov
      have HST := hide hst
      have HSE := hide hset
      have HO := hide hO
      have hki : (k : Int) < (xs.length : Int) := by omega
      have hkt : (k : Int) < (r0.length : Int) := by omega
      clear hst hset hO hA hU e1 e2 hh1 hov htw hxw hxb htb hT
      go_wp2_with fail
      refine (unhide M1 _).mono ?_
      rintro e y1 ⟨rfl, rfl⟩
      go_wp2
      go_roundw
      case rel => exact ⟨k + 1, ov, _, hlt, by go_num, rfl, unhide HST, unhide HSE, (unhide HO).setCell _ _⟩
      case measure => simp [intOf]; omega
    · have hkx : k = xs.length := by omega
      subst hkx
      clear hT
      go_wp2
      go_loopw [6, 12] (fun ov i wr => ∃ (k o : Nat) (u : List Nat), xs.length ≤ k ∧ k ≤ r0.length ∧ i = .int .i64 k ∧ ov = .int .u64 (o : Nat) ∧ AddAt r0 xs n k u o ∧ URow wr g (pre ++ u) ∧ Only g w wr) (fun _ i _ => r0.length - (intOf i).toNat)
      case atStart => exact ⟨xs.length, o, u, Nat.le_refl _, hlen, rfl, rfl, hA, hU, hO⟩
      case round =>
        clear hA hU hO
        obtain ⟨k, o, u, hk1, hk2, rfl, rfl, hA, hU, hO⟩ := hrel
        by_cases hc : o ≠ 0 ∧ k < r0.length
        · obtain ⟨ho, hlt⟩ := hc
          have hul := hA.len
          obtain ⟨tw, htw⟩ : ∃ x, u[k]? = some x := ⟨u[k]'(by omega), List.getElem?_eq_getElem (by omega)⟩
          have hst := hA.carry hk1 htw
          have ct := hU.cell (pre.length + k) tw (by rw [get_pre]; exact htw)
          have ft := hU.frozen (pre.length + k)
          have hset := hU.set (pre.length + k) ((tw + o) % B64)
          rw [set_pre] at hset
          have a2 := fun w => add64_run0 tw o w
          have t0 : ((o : Int) != 0) = true := by rw [bne_iff_ne]; omega
          have hkt : (k : Int) < (r0.length : Int) := by omega
          generalize (tw + o) % B64 = dd at *
          generalize (tw + o) / B64 = c2 at *
          have HST := hide hst
          have HSE := hide hset
          have HO := hide hO
          clear hst hset hO hA hU htw ho
          go_wp2
          go_roundw
          case rel => exact ⟨k + 1, c2, _, by omega, hlt, by go_num, rfl, unhide HST, unhide HSE, (unhide HO).setCell _ _⟩
          case measure => simp [intOf]; omega
        · have hdone := hA.done hk1 hk2 (unhide HRM) (by omega)
          have HD := hide hdone
          have HA := hide hA
          have HU := hide hU
          have HO := hide hO
          by_cases ho : o = 0
          · have t0 : ((o : Int) != 0) = false := by rw [bne_eq_false_iff_eq]; omega
            clear hc hdone hA hU hO ho
            go_wp2
            go_end0
            exact ⟨rfl, u, unhide HU, (unhide HA).len, (unhide HA).ok, unhide HD, unhide HO⟩
          · have t0 : ((o : Int) != 0) = true := by rw [bne_iff_ne]; omega
            have hkt : ¬ (k : Int) < (r0.length : Int) := by omega
            clear hc hdone hA hU hO ho
            go_wp2
            go_end0
            exact ⟨rfl, u, unhide HU, (unhide HA).len, (unhide HA).ok, unhide HD, unhide HO⟩
end Go.Proofs.YtckkhpegimkefaaGreatDoor
namespace Go.Proofs.YtckkhpegimkefaaGreatDoor
open Go.RowKit Go.Shelf
set_option linter.unusedVariables false

theorem infoU64 : (Tryz.prog.info? 82).map (fun i => (i.zero, i.size, i.bytes)) = some (some (.int .u64 0), 1, 8) := by kernel_rfl
theorem info_partsN {P : Program} {t : TypeId} {z : Value} {s b : Nat} (h : (P.info? t).map (fun i => (i.zero, i.size, i.bytes)) = some (some z, s, b)) : ∃ i, P.info? t = some i ∧ i.zero = some z ∧ i.size = s ∧ i.bytes = b := by
  cases hi : P.info? t with
  | none => rw [hi] at h; cases h
  | some i => rw [hi] at h; simp at h; exact ⟨i, rfl, h.1, h.2.1, h.2.2⟩
theorem own_wholeN {w : World} {base g n : Nat} {e : TypeId} {xs : List Value} (h : w.ownsRow base e 1 (.slice (some ⟨g, 0, none⟩) n n) n xs) : w.heap[g]? = some (.cells xs.toArray e (0, 0)) := by
  rcases h.2 with ⟨h1, h2⟩ | ⟨g', cap, cur, h1, hB, hh, hle, hm, hsz, htk⟩
  · simp at h1
  · simp only [Value.slice.injEq, Option.some.injEq, Addr.mk.injEq, and_true, true_and] at h1
    obtain ⟨rfl, rfl⟩ := h1
    rw [hh]
    congr 2
    have : cur.toList = xs := by
      rw [← htk, List.take_of_length_le (by simp; omega)]
    rw [← this]
theorem made_words (n : Nat) : (madeCells #[Value.int .u64 0] n).toList = (List.replicate n 0).map fun x : Nat => Value.int .u64 (x : Int) := by
  rw [List.map_replicate]
  apply List.ext_getElem
  · simp [madeCells]
  · intro i h1 h2
    simp [madeCells, Nat.mod_one]
theorem made_urow {w w1 : World} {base n : Nat} (h : w1.ownsRow base 82 1 (.slice (some ⟨w.heap.size, 0, none⟩) n n) n (madeCells #[Value.int .u64 0] n).toList) : URow w1 w.heap.size (List.replicate n 0) := by
  have := own_wholeN h
  rw [made_words] at this
  exact this
/-- the words of a product, behind k words of y -/
theorem prod_room {xs row : List Nat} {yk word k : Nat} (hx : okW xs) (hrow : okW row) (hr : natW row = natW xs * yk) (hyk : yk < B64 ^ k) (hw : word < B64) (hk : k + xs.length + 1 ≤ row.length) :
    natW (row.drop k) + word * natW xs < B64 ^ (row.drop k).length := by
  have h1 := natW_lt hx
  have e := natW_split row k (by omega)
  have hp : 0 < B64 ^ k := Nat.pow_pos B64_pos
  have hlt : natW row < B64 ^ xs.length * B64 ^ k := by
    rw [hr]
    rcases Nat.eq_zero_or_pos yk with h0 | h0
    · rw [h0, Nat.mul_zero]
      exact Nat.mul_pos (Nat.pow_pos B64_pos) hp
    · exact Nat.mul_lt_mul'' h1 hyk
  have h2 : natW (row.drop k) < B64 ^ xs.length := by
    rcases Nat.lt_or_ge (natW (row.drop k)) (B64 ^ xs.length) with h | h
    · exact h
    · have : B64 ^ k * B64 ^ xs.length ≤ B64 ^ k * natW (row.drop k) := Nat.mul_le_mul_left _ h
      rw [Nat.mul_comm (B64 ^ k) (B64 ^ xs.length)] at this
      omega
  have h3 : word * natW xs ≤ (B64 - 1) * (B64 ^ xs.length - 1) := Nat.mul_le_mul (by omega) (by omega)
  have h4 : (B64 - 1) * (B64 ^ xs.length - 1) + B64 ^ xs.length ≤ B64 ^ (xs.length + 1) := by
    have hp2 : 0 < B64 ^ xs.length := Nat.pow_pos B64_pos
    rw [Nat.pow_succ]
    generalize B64 ^ xs.length = q at *
    have : (B64 - 1) * (q - 1) + (q - 1) = B64 * (q - 1) := by
      have hb := B64_pos
      rw [Nat.sub_mul, Nat.one_mul]
      have : q - 1 ≤ B64 * (q - 1) := Nat.le_mul_of_pos_left _ hb
      omega
    have h5 : B64 * (q - 1) + B64 = q * B64 := by
      rw [Nat.mul_sub, Nat.mul_one, Nat.mul_comm q]
      have : B64 ≤ B64 * q := Nat.le_mul_of_pos_right _ hp2
      omega
    have hb := B64_pos
    omega
  have h6 : B64 ^ (xs.length + 1) ≤ B64 ^ (row.drop k).length := Nat.pow_le_pow_right B64_pos (by rw [List.length_drop]; omega)
  omega
theorem prod_step {xs ys row u : List Nat} {k word : Nat} (hk : k ≤ row.length) (hr : natW row = natW xs * natW (ys.take k)) (hy : ys[k]? = some word) (hu : natW u = natW (row.drop k) + word * natW xs) :
    natW (row.take k ++ u) = natW xs * natW (ys.take (k + 1)) := by
  have e := natW_split row k hk
  rw [natW_append, natW_take_succ ys k word hy, List.length_take, Nat.min_eq_left hk, hu]
  grind

set_option maxHeartbeats 4000000 in
set_option maxRecDepth 100000 in
theorem product_any (xs ys : List Nat) (g o c g' o' c' : Nat) (w : World) (hX : NumAt w g o xs) (hY : NumAt w g' o' ys) (hx : okW xs) (hy : okW ys) (hxl : (xs.length : Int) ≤ 1000) (hyl : (ys.length : Int) ≤ 1000) :
    Calls Tryz.prog 46 #[.slice (some ⟨g, o, none⟩) xs.length c, .slice (some ⟨g', o', none⟩) ys.length c'] w fun e w' => ∃ row, e = .returned (.slice (some ⟨w.heap.size, 0, none⟩) row.length row.length) ∧ URow w' w.heap.size row ∧ row.length = xs.length + ys.length ∧ okW row ∧ natW row = natW xs * natW ys ∧ Below w.heap.size w w' := by
  obtain ⟨i0, hi, hz0, hz1, hz2⟩ := info_partsN infoU64
  go_enter Tryz.func46, Tryz.ntmps46
  go_wp2_with (at_make; refine wpList_make_full _ rfl _ _ 58 rfl w.heap.size 82 i0 (.int .u64 0) 1 Tryz.underlying58 hi hz0 hz1 .i64 .i64 _ _ (xs.length + ys.length) rfl rfl (by simp) (by simp) (by rw [hz2]; omega) (by unfold maxLen; omega) (Nat.le_refl _) ?_)
  intro w1 hown hgrow
  have hU := made_urow hown
  have hb : Below w.heap.size w w1 := (Below.refl _ _).grown hgrow (Nat.le_refl _) (fun q hq => by cases hq)
  clear hown hgrow hi hz0 hz1 hz2
  have HX := hide hX
  have HY := hide hY
  have hgl := hX.1
  have hgl' := hY.1
  clear hX hY
  obtain ⟨N, hN⟩ : ∃ N, N = xs.length + ys.length := ⟨_, rfl⟩
  rw [← hN] at hU ⊢
  have HN := hide hN
  have hNb : (N : Int) ≤ 2000 := by omega
  have hNy : (ys.length : Int) ≤ (N : Int) := by omega
  clear hN
  go_wp2
  go_loopw [16] (fun i wr => ∃ (k : Nat) (row : List Nat), k ≤ ys.length ∧ i = .int .i64 k ∧ row.length = N ∧ okW row ∧ natW row = natW xs * natW (ys.take k) ∧ URow wr w.heap.size row ∧ Below w.heap.size w wr) (fun i _ => ys.length - (intOf i).toNat)
  case atStart => exact ⟨0, _, Nat.zero_le _, rfl, by simp, okW_zeros _, by rw [natW_zeros]; simp [natW], hU, hb⟩
  case round =>
    clear hU hb
    obtain ⟨k, row, hk, rfl, hrl, hrow, hr, hU, hbel⟩ := hrel
    by_cases hlt : k < ys.length
    · obtain ⟨word, hw⟩ : ∃ x, ys[k]? = some x := ⟨ys[k], List.getElem?_eq_getElem hlt⟩
      have hwb := okW_get hy hw
      have cy : wr.cell? ⟨g', o' + k, none⟩ = some (.int .u64 (word : Nat)) := (hbel.cell (p := ⟨g', o' + k, none⟩) hgl').trans ((unhide HY).2 k word hw)
      have hXr : NumAt wr g o xs := ⟨Nat.lt_of_lt_of_le hgl hbel.size, fun i x hi => (hbel.cell (p := ⟨g, o + i, none⟩) hgl).trans ((unhide HX).2 i x hi)⟩
      have hyk : natW (ys.take k) < B64 ^ k := by
        have := natW_lt (okW_take hy k)
        rw [List.length_take, Nat.min_eq_left (by omega)] at this
        exact this
      have hroom := prod_room (k := k) hx hrow hr hyk hwb (by have := unhide HN; omega)
      have hpl : (row.take k).length = k := by rw [List.length_take]; omega
      have hdl : (row.drop k).length = N - k := by rw [List.length_drop]; omega
      have hU2 : URow wr w.heap.size (row.take k ++ row.drop k) := by rw [List.take_append_drop]; exact hU
      have A1 := fun tc => addTimes_any (row.take k) (row.drop k) xs word w.heap.size tc g o c wr hU2 hXr (by omega) (by rw [hdl]; have := unhide HN; omega) hwb hx (okW_drop hrow k) hroom (by rw [hdl]; omega)
      rw [hpl, hdl] at A1
      have HA := hide A1
      have HS := hide (fun u (hu : natW u = natW (row.drop k) + word * natW xs) => prod_step (k := k) (by omega) hr hw hu)
      have HOK := hide (okW_take hrow k)
      have HB := hide hbel
      have hki : (k : Int) < (ys.length : Int) := by omega
      have hkN : (k : Int) ≤ (N : Int) := by omega
      clear A1 hU2 hXr hroom hdl hyk hU hbel hrow hr hw hwb
      go_wp2_with fail
      refine (unhide HA _).mono ?_
      rintro e y1 ⟨rfl, u, hU1, hul, huo, hun, hon⟩
      have hlen2 : (row.take k ++ u).length = N := by rw [List.length_append, hpl, hul]; omega
      have hok2 := okW_append (unhide HOK) huo
      have hnat := unhide HS u hun
      have W1 := hide ((unhide HB).trans (hon.below (Nat.le_refl _)))
      have H1 := hide hU1
      clear HA HS HOK HB hU1 hon hun huo hul
      go_wp2
      go_roundw
      case rel => exact ⟨k + 1, _, hlt, by go_num, hlen2, hok2, hnat, unhide H1, unhide W1⟩
      case measure => simp [intOf]; omega
    · rw [List.take_of_length_le (by omega)] at hr
      have HU := hide hU
      have HB := hide hbel
      have HR := hide hr
      clear hU hbel hr
      go_wp2
      go_ret
      refine ⟨row, ?_, unhide HU, by rw [hrl]; exact unhide HN, hrow, unhide HR, unhide HB⟩
      rw [hrl]
      rfl
end Go.Proofs.YtckkhpegimkefaaGreatDoor
namespace Go.Proofs.YtckkhpegimkefaaGreatDoor
open Go.RowKit Go.Shelf
set_option linter.unusedVariables false

def sub64E : Array Value → Sem Value := fun args => do
  let (x, y, b) ← Extern.MathBitsCarry.three "Sub64" args
  pure (Extern.MathBitsCarry.pair ((x + Extern.MathBitsCarry.m64 - y - b) % Extern.MathBitsCarry.m64) (if x < y + b then 1 else 0))
theorem run_sub64E {P : Program} (x y b : Nat) (hb : b ≤ 1) (w : World) :
    (sub64E #[.int .u64 x, .int .u64 y, .int .u64 b]).run P w =
      .ok (.tuple #[.int .u64 (((x + 18446744073709551616 - y - b) % 18446744073709551616 : Nat) : Int), .int .u64 ((if x < y + b then 1 else 0 : Nat) : Int)]) w := by
  have : b = 0 ∨ b = 1 := by omega
  rcases this with rfl | rfl <;> rfl
theorem sub64_run0 (x y b : Nat) (hb : b ≤ 1) (w : World) :
    (callFunc 125 #[.int .u64 x, .int .u64 y, .int .u64 b]).run Tryz.prog w = .ok (.value (.tuple #[.int .u64 (((x + B64 - y - b) % B64 : Nat) : Int), .int .u64 ((if x < y + b then 1 else 0 : Nat) : Int)])) w := by
  unfold B64
  rw [run_callFunc_extern Tryz.func125 (by kernel_rfl) (by kernel_rfl) (by kernel_rfl) (e := sub64E) (by kernel_rfl), run_sub64E x y b hb]
  rfl

theorem sub_key (B x y b : Nat) (hx : x < B) (hy : y < B) (hb : b ≤ 1) : (x + B - y - b) % B + y + b = x + (if x < y + b then 1 else 0) * B := by
  split
  · rename_i h
    rw [Nat.mod_eq_of_lt (by omega), Nat.one_mul]
    omega
  · rename_i h
    have e : x + B - y - b = (x - y - b) + B := by omega
    rw [e, Nat.add_mod_right, Nat.mod_eq_of_lt (by omega), Nat.zero_mul]
    omega
/-- a difference, and what is borrowed -/
def subD (x y b : Nat) : Nat := (x + B64 - y - b) % B64
def subC (x y b : Nat) : Nat := if x < y + b then 1 else 0
theorem subD_lt (x y b : Nat) : subD x y b < B64 := Nat.mod_lt _ B64_pos
theorem subC_le (x y b : Nat) : subC x y b ≤ 1 := by unfold subC; split <;> omega
theorem subD_key (x y b : Nat) (hx : x < B64) (hy : y < B64) (hb : b ≤ 1) : subD x y b + y + b = x + subC x y b * B64 := by
  unfold subD subC
  generalize B64 = B at *
  exact sub_key B x y b hx hy hb
theorem sub_ring (a m t x y b d c P B : Nat) (hs : a + m = t + b * P) (key : d + y + b = x + c * B) : a + P * d + (m + y * P) = t + x * P + c * (P * B) := by grind
theorem sub_sum (a m t x y b d c P : Nat) (hs : a + m = t + b * P) (key : d + y + b = x + c * B64) : a + P * natW [d] + (m + y * P) = t + x * P + c * (P * B64) := by
  have e : natW [d] = d := by simp [natW]
  rw [e]
  exact sub_ring a m t x y b d c P B64 hs key
/-- behind i words -/
structure SubAt (ts ms : List Nat) (i : Nat) (u : List Nat) (b : Nat) : Prop where
  ok : okW u
  sum : natW (u.take i) + natW (ms.take i) = natW (ts.take i) + b * B64 ^ i
  le : b ≤ 1
theorem SubAt.step {ts ms : List Nat} {i b x y : Nat} {u : List Nat} (h : SubAt ts ms i u b) (hx : ts[i]? = some x) (hy : ms[i]? = some y) (hi : i < u.length) (hxb : x < B64) (hyb : y < B64) :
    SubAt ts ms (i + 1) (u.set i (subD x y b)) (subC x y b) := by
  refine ⟨okW_set h.ok _ _ (subD_lt x y b), ?_, subC_le x y b⟩
  rw [take_set u i _ hi, natW_append, natW_take_succ ts i x hx, natW_take_succ ms i y hy, List.length_take, Nat.min_eq_left (Nat.le_of_lt hi), Nat.pow_succ]
  exact sub_sum (natW (u.take i)) (natW (ms.take i)) (natW (ts.take i)) x y b (subD x y b) (subC x y b) (B64 ^ i) h.sum (subD_key x y b hxb hyb h.le)
theorem sub64_run (x y b : Nat) (hb : b ≤ 1) (w : World) :
    (callFunc 125 #[.int .u64 x, .int .u64 y, .int .u64 b]).run Tryz.prog w = .ok (.value (.tuple #[.int .u64 (subD x y b : Nat), .int .u64 (subC x y b : Nat)])) w := sub64_run0 x y b hb w
/-- the modulus as a value -/
def modV (gm om mn mc : Nat) (inv : Nat) (sq : Value) : Value := .agg #[.slice (some ⟨gm, om, none⟩) mn mc, .int .u64 (inv : Nat), sq]

theorem once_low {ts ms u : List Nat} {b top : Nat} (hm : okW ms) (hts : okW ts) (hl : ts.length = ms.length + 1) (hu : u.length = ms.length) (h : SubAt ts ms ms.length u b) (htop : ts[ms.length]? = some top) (hT : natW ts < 2 * natW ms) :
    (top < b → natW (ts.take ms.length) = natW ts % natW ms) ∧ (¬ top < b → natW u = natW ts % natW ms) := by
  have hs := h.sum
  rw [List.take_of_length_le (Nat.le_of_eq hu), List.take_of_length_le (Nat.le_refl ms.length)] at hs
  have e : natW ts = natW (ts.take ms.length) + top * B64 ^ ms.length := by
    rw [← natW_take_succ ts ms.length top htop, List.take_of_length_le (by omega)]
  have hml := natW_lt hm
  have hul := natW_lt h.ok
  rw [hu] at hul
  have htl := natW_lt (okW_take hts ms.length)
  rw [List.length_take, hl, Nat.min_eq_left (by omega)] at htl
  have hb := h.le
  generalize B64 ^ ms.length = P at *
  generalize natW (ts.take ms.length) = tl at *
  generalize natW u = un at *
  generalize natW ms = m at *
  rw [e] at hT ⊢
  have hm0 : 0 < m := by omega
  constructor
  · intro hlt
    have hb1 : b = 1 := by omega
    have ht0 : top = 0 := by omega
    subst hb1 ht0
    rw [Nat.zero_mul, Nat.add_zero, Nat.mod_eq_of_lt (by omega)]
  · intro hge
    have htop1 : top ≤ 1 := by
      rcases Nat.lt_or_ge 1 top with h2 | h2
      · have : 2 * P ≤ top * P := Nat.mul_le_mul_right _ h2
        omega
      · exact h2
    have hbt : b = top := by
      rcases Nat.lt_or_ge b top with h2 | h2
      · have hb0 : b = 0 := by omega
        have ht1 : top = 1 := by omega
        subst hb0 ht1
        omega
      · omega
    subst hbt
    have hge2 : m ≤ tl + b * P := by omega
    rw [Nat.mod_eq_sub_mod hge2, Nat.mod_eq_of_lt (by omega)]
    omega

set_option maxHeartbeats 4000000 in
set_option maxRecDepth 100000 in
theorem once_any (ts ms : List Nat) (g o tc gm om mc inv : Nat) (sq : Value) (w : World) (hT : NumAt w g o ts) (hM : NumAt w gm om ms) (hts : okW ts) (hms : okW ms) (hl : ts.length = ms.length + 1) (h2 : natW ts < 2 * natW ms) (hml : (ms.length : Int) ≤ 1000) (hcap : ts.length ≤ tc) (hsq : ∃ a n c, sq = .slice a n c) :
    Calls Tryz.prog 107 #[modV gm om ms.length mc inv sq, .slice (some ⟨g, o, none⟩) ts.length tc] w fun e w' => ∃ zg zo zc zs, e = .returned (.slice (some ⟨zg, zo, none⟩) zs.length zc) ∧ NumAt w' zg zo zs ∧ zs.length = ms.length ∧ okW zs ∧ natW zs = natW ts % natW ms ∧ zs.length ≤ zc ∧ Below w.heap.size w w' := by
  obtain ⟨sa, sn, sc, rfl⟩ := hsq
  obtain ⟨i0, hi, hz0, hz1, hz2⟩ := info_partsN infoU64
  unfold modV
  obtain ⟨n, hn⟩ : ∃ n, n = ms.length := ⟨_, rfl⟩
  rw [← hn] at hml ⊢
  have HN := hide hn
  have HT := hide hT
  have HM := hide hM
  have HTS := hide hts
  have HMS := hide hms
  have HL := hide hl
  have H2 := hide h2
  have hgl := hT.1
  have hgl' := hM.1
  have hcap2 : (n : Int) + 1 ≤ (tc : Int) := by have := unhide HN; omega
  clear hn hT hM hts hms hl h2 hcap
  go_enter Tryz.func107, Tryz.ntmps107
  go_wp2_with (at_make; refine wpList_make_full _ rfl _ _ 58 rfl (w.heap.size + 1) 82 i0 (.int .u64 0) 1 Tryz.underlying58 hi hz0 hz1 .i64 .i64 _ _ n rfl rfl rfl rfl (by rw [hz2]; omega) (by unfold maxLen; omega) (by simp) ?_)
  intro w1 hown hgrow
  have hb1 : Below (w.heap.size + 1) (w.alloc (.cells #[.slice (some ⟨gm, om, none⟩) n mc, .int .u64 (inv : Nat), .slice sa sn sc] 89)) w1 := by
    have := (Below.refl (w.heap.size + 1) (w.alloc (.cells #[.slice (some ⟨gm, om, none⟩) n mc, .int .u64 (inv : Nat), .slice sa sn sc] 89))).grown hgrow (by simp) (fun q hq => by cases hq)
    exact this
  have hb0 : Below w.heap.size w (w.alloc (.cells #[.slice (some ⟨gm, om, none⟩) n mc, .int .u64 (inv : Nat), .slice sa sn sc] 89)) := (Below.refl _ _).alloc (Nat.le_refl _) _
  have hq : w1.heap[w.heap.size]? = some (.cells #[.slice (some ⟨gm, om, none⟩) n mc, .int .u64 (inv : Nat), .slice sa sn sc] 89 (0, 0)) := by
    rw [hb1.block _ (by omega)]
    exact heap_alloc_new w _
  have hbel : Below w.heap.size w w1 := hb0.trans (hb1.mono (by omega))
  have hU : URow w1 (w.heap.size + 1) (List.replicate n 0) := by
    have := own_wholeN hown
    rw [made_words] at this
    exact this
  clear hown hgrow hb1 hb0 hi hz0 hz1 hz2
  go_wp2
  go_loopw [7, 15] (fun bv i wr => ∃ (k b : Nat) (u : List Nat), k ≤ n ∧ i = .int .i64 k ∧ bv = .int .u64 (b : Nat) ∧ u.length = n ∧ SubAt ts ms k u b ∧ URow wr (w.heap.size + 1) u ∧ wr.heap[w.heap.size]? = some (.cells #[.slice (some ⟨gm, om, none⟩) n mc, .int .u64 (inv : Nat), .slice sa sn sc] 89 (0, 0)) ∧ Below w.heap.size w wr) (fun _ i _ => n - (intOf i).toNat)
  case atStart => exact ⟨0, 0, _, Nat.zero_le _, rfl, rfl, by simp, ⟨okW_zeros _, by simp [natW], by omega⟩, hU, hq, hbel⟩
  case round =>
    clear hU hq hbel
    obtain ⟨k, b, u, hk, rfl, rfl, hul, hS, hU, hq, hbel⟩ := hrel
    by_cases hlt : k < n
    · have hN := unhide HN
      obtain ⟨x, hx⟩ : ∃ x, ts[k]? = some x := ⟨ts[k]'(by have := unhide HL; omega), List.getElem?_eq_getElem (by have := unhide HL; omega)⟩
      obtain ⟨y, hy⟩ : ∃ x, ms[k]? = some x := ⟨ms[k]'(by omega), List.getElem?_eq_getElem (by omega)⟩
      have hxb := okW_get (unhide HTS) hx
      have hyb := okW_get (unhide HMS) hy
      have hst := hS.step hx hy (by omega) hxb hyb
      have cx : wr.cell? ⟨g, o + k, none⟩ = some (.int .u64 (x : Nat)) := (hbel.cell (p := ⟨g, o + k, none⟩) hgl).trans ((unhide HT).2 k x hx)
      have cy : wr.cell? ⟨gm, om + k, none⟩ = some (.int .u64 (y : Nat)) := (hbel.cell (p := ⟨gm, om + k, none⟩) hgl').trans ((unhide HM).2 k y hy)
      have cm : wr.cell? ⟨w.heap.size, 0, none⟩ = some (.slice (some ⟨gm, om, none⟩) n mc) := (cell_of_row _ _ 0 _ _ _ hq).trans rfl
      obtain ⟨v, hv⟩ : ∃ v, u[k]? = some v := ⟨u[k]'(by omega), List.getElem?_eq_getElem (by omega)⟩
      have cu := hU.cell k v hv
      have fu := hU.frozen k
      have hset := hU.set k (subD x y b)
      have a1 := fun w => sub64_run x y b hS.le w
      have HQ2 := hide (show (wr.setCell ⟨w.heap.size + 1, k, none⟩ (.int .u64 (subD x y b : Nat))).heap[w.heap.size]? = some (.cells #[.slice (some ⟨gm, om, none⟩) n mc, .int .u64 (inv : Nat), .slice sa sn sc] 89 (0, 0)) by
        rw [← hq]; simp [World.setCell, Array.getElem?_modify])
      have HB := hide (hbel.setCell (p := ⟨w.heap.size + 1, k, none⟩) (Nat.le_succ _) (.int .u64 (subD x y b : Nat)))
      generalize subD x y b = d at *
      generalize subC x y b = c at *
      have HST := hide hst
      have HSE := hide hset
      have hki : (k : Int) < (n : Int) := by omega
      have hki2 : (k : Int) < (ts.length : Int) := by have := unhide HL; omega
      have hul2 : (u.set k d).length = n := by rw [List.length_set]; exact hul
      clear hst hset hS hU hq hbel hx hy hv hxb hyb hN
      go_wp2_with fail
      go_region
      go_wp2
      go_roundw
      case rel => exact ⟨k + 1, c, _, hlt, by go_num, rfl, hul2, unhide HST, (unhide HSE).drew, unhide HQ2, (unhide HB).drew⟩
      case measure => simp [intOf]; omega
    · have hkn : k = n := by omega
      subst hkn
      have hN := unhide HN
      have hL := unhide HL
      obtain ⟨top, htop⟩ : ∃ x, ts[ms.length]? = some x := ⟨ts[ms.length]'(by omega), List.getElem?_eq_getElem (by omega)⟩
      rw [hN] at hS
      have hlow := once_low (unhide HMS) (unhide HTS) hL (by omega) hS htop (unhide H2)
      have htop2 : ts[k]? = some top := by rw [hN]; exact htop
      have ct : wr.cell? ⟨g, o + k, none⟩ = some (.int .u64 (top : Nat)) := (hbel.cell (p := ⟨g, o + k, none⟩) hgl).trans ((unhide HT).2 k top htop2)
      have hkt : (k : Int) < (ts.length : Int) := by omega
      by_cases hc : top < b
      · have h1 := hlow.1 hc
        have hci : (top : Int) < (b : Int) := by omega
        have hz : NumAt wr g o (ts.take k) := ⟨Nat.lt_of_lt_of_le hgl hbel.size, fun i x hi => by
          have hik : i < k := by
            rcases Nat.lt_or_ge i k with h | h
            · exact h
            · rw [List.getElem?_eq_none (by rw [List.length_take]; omega)] at hi; cases hi
          rw [List.getElem?_take_of_lt hik] at hi
          exact (hbel.cell (p := ⟨g, o + i, none⟩) hgl).trans ((unhide HT).2 i x hi)⟩
        have HZ := hide hz
        have H1 := hide h1
        have HB := hide hbel
        have hzl : (ts.take k).length = k := by rw [List.length_take]; omega
        clear hlow hS hU hq hbel htop htop2 hz h1 hN hL
        go_wp2
        go_ret
        refine ⟨g, o, tc, ts.take k, ?_, unhide HZ, hzl, okW_take (unhide HTS) k, by rw [unhide HN]; exact unhide H1, by omega, unhide HB⟩
        rw [hzl]
        rfl
      · have h1 := hlow.2 hc
        have hci : ¬ (top : Int) < (b : Int) := by omega
        have hz : NumAt wr (w.heap.size + 1) 0 u := hU.numAt 0
        have HZ := hide hz
        have H1 := hide h1
        have HB := hide hbel
        have hok := hS.ok
        clear hlow hS hU hq hbel htop htop2 hz h1 hN hL
        go_wp2
        go_ret
        refine ⟨w.heap.size + 1, 0, k, u, ?_, unhide HZ, hul, hok, unhide H1, by omega, unhide HB⟩
        rw [hul]
        rfl
end Go.Proofs.YtckkhpegimkefaaGreatDoor
namespace Go.Proofs.YtckkhpegimkefaaGreatDoor
open Go.RowKit Go.Shelf
set_option linter.unusedVariables false

/-- what makes the low word 0 -/
def zeroBy (t inv : Nat) : Nat := t * inv % B64
theorem zeroBy_lt (t inv : Nat) : zeroBy t inv < B64 := Nat.mod_lt _ B64_pos
theorem zero_low (B t m0 inv M U : Nat) (hB : 0 < B) (hU : U % B = t % B) (hM : M % B = m0 % B) (hi : (m0 * inv + 1) % B = 0) : (U + t * inv % B * M) % B = 0 := by
  have e : (U + t * inv % B * M) % B = (t + t * inv * m0) % B := by
    rw [Nat.add_mod, Nat.mul_mod, Nat.mod_mod, hU, hM, ← Nat.mul_mod, ← Nat.add_mod]
  rw [e, show t + t * inv * m0 = t * (m0 * inv + 1) by grind, Nat.mul_mod, hi, Nat.mul_zero, Nat.zero_mod]
/-- behind i rounds -/
structure MontAt (xs ys ms : List Nat) (n i : Nat) (row : List Nat) (q : Nat) : Prop where
  len : row.length = 2 * n + 1
  ok : okW row
  sum : natW row = natW xs * natW (ys.take i) + q * natW ms
  low : natW (row.take i) = 0
  lt : q < B64 ^ i
theorem mont_lt (X M Y q P D : Nat) (hP : 0 < P) (hM : 0 < M) (hY : Y < P) (hq : q < P) (h : P * D = X * Y + q * M) : D < X + M := by
  rcases Nat.lt_or_ge D (X + M) with h1 | h1
  · exact h1
  · have h2 : P * (X + M) ≤ P * D := Nat.mul_le_mul_left _ h1
    have h3 : X * Y ≤ X * P := Nat.mul_le_mul_left _ (Nat.le_of_lt hY)
    have h4 : q * M + M ≤ P * M := by
      have : (q + 1) * M ≤ P * M := Nat.mul_le_mul_right _ hq
      rw [Nat.add_mul, Nat.one_mul] at this
      exact this
    have h5 : P * (X + M) = X * P + P * M := by rw [Nat.mul_add, Nat.mul_comm P X]
    omega
theorem MontAt.drop_lt {xs ys ms : List Nat} {n i q : Nat} {row : List Nat} (h : MontAt xs ys ms n i row q) (hy : okW ys) (hyl : ys.length = n) (hi : i ≤ n) (hM : 0 < natW ms) : natW (row.drop i) < natW xs + natW ms := by
  have e := natW_split row i (by rw [h.len]; omega)
  rw [h.low, Nat.zero_add, h.sum] at e
  have hY : natW (ys.take i) < B64 ^ i := by
    have := natW_lt (okW_take hy i)
    rw [List.length_take, hyl, Nat.min_eq_left hi] at this
    exact this
  exact mont_lt _ _ _ _ _ _ (Nat.pow_pos B64_pos) hM hY h.lt e.symm
theorem pow_room (P : Nat) (hP : 0 < P) (a b c d : Nat) (ha : a < 2 * P) (hb : b ≤ (B64 - 1) * P) (hc : c ≤ (B64 - 1) * P) : a + b + c < P * B64 * B64 := by
  have h1 : (B64 - 1) * P + P = P * B64 := by
    rw [Nat.sub_mul, Nat.one_mul, Nat.mul_comm P]
    have : P ≤ B64 * P := Nat.le_mul_of_pos_left _ B64_pos
    omega
  have h2 : P * B64 * 2 ≤ P * B64 * B64 := Nat.mul_le_mul_left _ (by unfold B64; decide)
  omega
/-- the low word of a number -/
theorem natW_mod (l : List Nat) (x : Nat) (h : l[0]? = some x) (hx : x < B64) : natW l % B64 = x := by
  cases l with
  | nil => cases h
  | cons y r =>
    simp only [List.getElem?_cons_zero, Option.some.injEq] at h
    subst h
    rw [natW, Nat.add_mul_mod_self_left, Nat.mod_eq_of_lt hx]
theorem MontAt.step {xs ys ms u1 u2 : List Nat} {n i q y t m0 inv : Nat} {row : List Nat} (h : MontAt xs ys ms n i row q) (hi : i < n) (hy : ys[i]? = some y) (hm0 : ms[0]? = some m0) (hms : okW ms) (hinv : (m0 * inv + 1) % B64 = 0)
    (hu1 : natW u1 = natW (row.drop i) + y * natW xs) (ht : u1[0]? = some t) (hok1 : okW u1) (hok2 : okW u2) (hl2 : u2.length = 2 * n + 1 - i) (hu2 : natW u2 = natW u1 + zeroBy t inv * natW ms) :
    MontAt xs ys ms n (i + 1) (row.take i ++ u2) (q + zeroBy t inv * B64 ^ i) := by
  have hrl := h.len
  have htl : (row.take i).length = i := by rw [List.length_take]; omega
  have e := natW_split row i (by omega)
  have hlow := h.low
  have hsum := h.sum
  rw [hlow, Nat.zero_add] at e
  have hz : natW u2 % B64 = 0 := by
    rw [hu2]
    exact zero_low B64 t m0 inv (natW ms) (natW u1) B64_pos (by rw [natW_mod u1 t ht (okW_get hok1 ht), Nat.mod_eq_of_lt (okW_get hok1 ht)]) (by rw [natW_mod ms m0 hm0 (okW_get hms hm0), Nat.mod_eq_of_lt (okW_get hms hm0)]) hinv
  have h0 : 0 < u2.length := by omega
  obtain ⟨v, hv⟩ : ∃ v, u2[0]? = some v := ⟨u2[0], List.getElem?_eq_getElem h0⟩
  have hv0 : v = 0 := by rw [← natW_mod u2 v hv (okW_get hok2 hv)]; exact hz
  refine ⟨by rw [List.length_append, htl, hl2]; omega, okW_append (okW_take h.ok i) hok2, ?_, ?_, ?_⟩
  · rw [natW_append, htl, hlow, Nat.zero_add, natW_take_succ ys i y hy, hu2, hu1]
    generalize zeroBy t inv = z at *
    generalize natW (row.drop i) = D at *
    generalize natW (ys.take i) = Y at *
    generalize natW row = R at *
    generalize natW xs = X at *
    generalize natW ms = M at *
    generalize B64 ^ i = P at *
    clear hz hu1 hu2 hlow h
    grind
  · have e2 : (row.take i ++ u2).take (i + 1) = row.take i ++ u2.take 1 := by
      rw [List.take_append, htl, List.take_of_length_le (by rw [htl]; omega), Nat.add_sub_cancel_left]
    have e3 : u2.take 1 = [v] := by
      have := List.take_add_one (l := u2) (i := 0)
      rw [hv] at this
      simpa using this
    rw [e2, natW_append, hlow, e3, hv0]
    simp [natW]
  · have hz2 := zeroBy_lt t inv
    have hq := h.lt
    rw [Nat.pow_succ]
    generalize zeroBy t inv = z at *
    generalize B64 ^ i = P at *
    have : (z + 1) * P ≤ B64 * P := Nat.mul_le_mul_right _ hz2
    rw [Nat.add_mul, Nat.one_mul, Nat.mul_comm B64] at this
    omega
theorem natW_drop_eq {row : List Nat} {i : Nat} (h : i ≤ row.length) (hlow : natW (row.take i) = 0) : natW row = B64 ^ i * natW (row.drop i) := by
  have := natW_split row i h
  rw [hlow, Nat.zero_add] at this
  exact this
end Go.Proofs.YtckkhpegimkefaaGreatDoor
