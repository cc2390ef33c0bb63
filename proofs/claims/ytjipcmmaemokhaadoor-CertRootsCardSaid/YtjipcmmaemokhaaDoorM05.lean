/- addTimes of the program. -/
import Derived.Test.YtjipcmmaemokhaaDoorM04
namespace Go.Proofs.YtjipcmmaemokhaaDoor
open Go.RowKit Go.Shelf
set_option linter.unusedVariables false

theorem wrap64N (a b c : Nat) (h : a + b = c) (hc : c < B64) : IntKind.u64.wrap ((a : Int) + (b : Int)) = (c : Int) := by
  unfold B64 at hc
  rw [IntKind.wrap_u64]
  omega
theorem get_pre {pre u : List Nat} {i : Nat} : (pre ++ u)[pre.length + i]? = u[i]? := by
  rw [List.getElem?_append_right (by omega), Nat.add_sub_cancel_left]
theorem set_pre {pre u : List Nat} {i x : Nat} : (pre ++ u).set (pre.length + i) x = pre ++ u.set i x := by
  rw [List.set_append_right _ _ (by omega), Nat.add_sub_cancel_left]
theorem take_set (u : List Nat) (i x : Nat) (h : i < u.length) : (u.set i x).take (i + 1) = u.take i ++ [x] := by
  rw [List.take_set, List.take_add_one, List.getElem?_eq_getElem h, List.set_append_right _ _ (by simp; omega), List.length_take, Nat.min_eq_left (by omega), Nat.sub_self]
  rfl
theorem drop_set (u : List Nat) (i x : Nat) : (u.set i x).drop (i + 1) = u.drop (i + 1) := by
  rw [List.drop_set_of_lt (by omega)]

/-- behind i words -/
structure AddAt (r0 xs : List Nat) (n i : Nat) (u : List Nat) (o : Nat) : Prop where
  len : u.length = r0.length
  ok : okW u
  rest : u.drop i = r0.drop i
  sum : natW (u.take i) + o * B64 ^ i = natW (r0.take i) + n * natW (xs.take i)
  lt : o < B64
theorem AddAt.step {r0 xs : List Nat} {n i o xw tw : Nat} {u : List Nat} (h : AddAt r0 xs n i u o) (hx : xs[i]? = some xw) (ht : u[i]? = some tw) (hn : n < B64) (hxw : xw < B64) :
    AddAt r0 xs n (i + 1) (u.set i (digN xw n o tw % B64)) (digN xw n o tw / B64) := by
  have htw := okW_get h.ok ht
  have hi : i < u.length := by
    rcases Nat.lt_or_ge i u.length with h' | h'
    · exact h'
    · rw [List.getElem?_eq_none h'] at ht; cases ht
  have hr : r0[i]? = some tw := by
    have e : u.drop i = r0.drop i := h.rest
    have e2 := congrArg (fun l => l[0]?) e
    simp only [List.getElem?_drop, Nat.add_zero] at e2
    rw [← e2]; exact ht
  have hd := dig_lt xw n o tw hxw hn h.lt htw
  refine ⟨by rw [List.length_set]; exact h.len, okW_set h.ok _ _ (Nat.mod_lt _ B64_pos), ?_, ?_, Nat.div_lt_of_lt_mul hd⟩
  · rw [drop_set, ← List.drop_drop, ← List.drop_drop, h.rest]
  · rw [take_set u i _ hi, natW_append, natW_take_succ r0 i tw hr, natW_take_succ xs i xw hx, List.length_take, Nat.min_eq_left (by omega), Nat.pow_succ]
    have := add_stepW (natW (u.take i)) o (B64 ^ i) (natW (r0.take i)) n (natW (xs.take i)) xw tw h.sum
    simp only [natW, Nat.mul_zero, Nat.add_zero]
    rw [Nat.mul_comm (B64 ^ i)]
    exact this

theorem AddAt.carry {r0 xs : List Nat} {n i o tw : Nat} {u : List Nat} (h : AddAt r0 xs n i u o) (hi : xs.length ≤ i) (ht : u[i]? = some tw) :
    AddAt r0 xs n (i + 1) (u.set i ((tw + o) % B64)) ((tw + o) / B64) := by
  have htw := okW_get h.ok ht
  have hi2 : i < u.length := by
    rcases Nat.lt_or_ge i u.length with h' | h'
    · exact h'
    · rw [List.getElem?_eq_none h'] at ht; cases ht
  have hr : r0[i]? = some tw := by
    have e : u.drop i = r0.drop i := h.rest
    have e2 := congrArg (fun l => l[0]?) e
    simp only [List.getElem?_drop, Nat.add_zero] at e2
    rw [← e2]; exact ht
  have hd : (tw + o) / B64 < B64 := by have := h.lt; unfold B64 at *; omega
  refine ⟨by rw [List.length_set]; exact h.len, okW_set h.ok _ _ (Nat.mod_lt _ B64_pos), ?_, ?_, hd⟩
  · rw [drop_set, ← List.drop_drop, ← List.drop_drop, h.rest]
  · have hs := h.sum
    rw [List.take_of_length_le hi] at hs
    rw [take_set u i _ hi2, natW_append, natW_take_succ r0 i tw hr, List.take_of_length_le (show xs.length ≤ i + 1 by omega), List.length_take, Nat.min_eq_left (by omega), Nat.pow_succ]
    have hq := Nat.div_add_mod (tw + o) B64
    generalize (tw + o) % B64 = r at *
    generalize (tw + o) / B64 = q at *
    simp only [natW, Nat.mul_zero, Nat.add_zero]
    grind
theorem AddAt.done {r0 xs : List Nat} {n k o : Nat} {u : List Nat} (h : AddAt r0 xs n k u o) (hk : xs.length ≤ k) (hk2 : k ≤ r0.length) (hroom : natW r0 + n * natW xs < B64 ^ r0.length) (hd : o = 0 ∨ k = r0.length) : natW u = natW r0 + n * natW xs := by
  have hs := h.sum
  rw [List.take_of_length_le hk] at hs
  have e1 := natW_split u k (by rw [h.len]; exact hk2)
  have e2 := natW_split r0 k hk2
  rw [h.rest] at e1
  have h0 : o = 0 := by
    rcases hd with hd | hd
    · exact hd
    · subst hd
      rw [List.take_of_length_le (Nat.le_refl r0.length)] at hs
      rcases Nat.eq_zero_or_pos o with h1 | h1
      · exact h1
      · have : B64 ^ r0.length ≤ o * B64 ^ r0.length := Nat.le_mul_of_pos_left _ h1
        omega
  subst h0
  rw [Nat.zero_mul, Nat.add_zero] at hs
  omega

set_option maxHeartbeats 4000000 in
set_option maxRecDepth 100000 in
theorem addTimes_any (pre r0 xs : List Nat) (n : Nat) (g tc g' o' xc : Nat) (w : World) (hT : URow w g (pre ++ r0)) (hX : NumAt w g' o' xs) (hne : g' ≠ g) (hlen : xs.length ≤ r0.length) (hn : n < B64) (hxs : okW xs) (hr0 : okW r0)
    (hroom : natW r0 + n * natW xs < B64 ^ r0.length) (hbig : (r0.length : Int) ≤ 1000000) :
    Calls Tryd.prog 22 #[.slice (some ⟨g, pre.length, none⟩) r0.length tc, .slice (some ⟨g', o', none⟩) xs.length xc, .int .u64 n] w fun e w' => e = .returned (.tuple #[]) ∧ ∃ u, URow w' g (pre ++ u) ∧ u.length = r0.length ∧ okW u ∧ natW u = natW r0 + n * natW xs ∧ Only g w w' := by
  go_enter Tryd.func22, Tryd.ntmps22
  go_wp2
  have HN := hide hn
  have HX := hide hX
  have HXS := hide hxs
  have HRM := hide hroom
  clear hn hxs hroom
  go_loopw [6, 15] (fun ov i wr => ∃ (k o : Nat) (u : List Nat), k ≤ xs.length ∧ i = .int .i64 k ∧ ov = .int .u64 (o : Nat) ∧ AddAt r0 xs n k u o ∧ URow wr g (pre ++ u) ∧ Only g w wr) (fun _ i _ => xs.length - (intOf i).toNat)
  case atStart => exact ⟨0, 0, r0, Nat.zero_le _, rfl, rfl, ⟨rfl, hr0, rfl, by simp [natW], B64_pos⟩, hT, Only.refl _ _⟩
  case round =>
    obtain ⟨k, o, u, hk, rfl, rfl, hA, hU, hO⟩ := hrel
    by_cases hlt : k < xs.length
    · obtain ⟨xw, hxw⟩ : ∃ x, xs[k]? = some x := ⟨xs[k], List.getElem?_eq_getElem hlt⟩
      have hul := hA.len
      obtain ⟨tw, htw⟩ : ∃ x, u[k]? = some x := ⟨u[k]'(by omega), List.getElem?_eq_getElem (by omega)⟩
      have hxb := okW_get (unhide HXS) hxw
      have htb := okW_get hA.ok htw
      have hst := hA.step hxw htw (unhide HN) hxb
      have cx := ((unhide HX).only hO hne).2 k xw hxw
      have ct := hU.cell (pre.length + k) tw (by rw [get_pre]; exact htw)
      have ft := hU.frozen (pre.length + k)
      have hset := hU.set (pre.length + k) (digN xw n o tw % B64)
      rw [set_pre] at hset
      have M1 := hide (fun w => mul64_any xw n hxb (unhide HN) w)
      have a1 := fun w => add64_run0 (xw * n % B64) o w
      have a2 := fun w => add64_run0 tw ((xw * n % B64 + o) % B64) w
      have e1 := dig_low (xw * n) o tw
      have e2 := dig_over (xw * n) o tw hA.lt htb
      rw [show xw * n + o + tw = digN xw n o tw from rfl] at e1 e2
      rw [e1] at a2
      have hov : digN xw n o tw / B64 < B64 := hst.lt
      generalize digN xw n o tw % B64 = dd at *
      generalize digN xw n o tw / B64 = ov at *
      generalize (tw + (xw * n % B64 + o) % B64) / B64 = c2 at *
      generalize (xw * n % B64 + o) % B64 = s1 at *
      generalize (xw * n % B64 + o) / B64 = c1 at *
      generalize xw * n % B64 = lo at *
      generalize xw * n / B64 = hi at *
      obtain ⟨h1, hh1⟩ : ∃ h1, h1 = hi + c1 := ⟨_, rfl⟩
      have w1 := wrap64N hi c1 h1 hh1.symm (by omega)
      have w2 := wrap64N h1 c2 ov (by omega) hov
      have HST := hide hst
      have HSE := hide hset
      have HO := hide hO
      have hki : (k : Int) < (xs.length : Int) := by omega
      have hkt : (k : Int) < (r0.length : Int) := by omega
      clear hst hset hO hA hU e1 e2 hh1 hov htw hxw hxb htb hT
      go_wp2_with fail
      refine (unhide M1 _).mono ?_
      rintro e y1 ⟨rfl, rfl⟩
      go_wp2
      go_roundw
      case rel => exact ⟨k + 1, ov, _, hlt, by go_num, rfl, unhide HST, unhide HSE, (unhide HO).setCell _ _⟩
      case measure => simp [intOf]; omega
    · have hkx : k = xs.length := by omega
      subst hkx
      clear hT
      go_wp2
      go_loopw [6, 12] (fun ov i wr => ∃ (k o : Nat) (u : List Nat), xs.length ≤ k ∧ k ≤ r0.length ∧ i = .int .i64 k ∧ ov = .int .u64 (o : Nat) ∧ AddAt r0 xs n k u o ∧ URow wr g (pre ++ u) ∧ Only g w wr) (fun _ i _ => r0.length - (intOf i).toNat)
      case atStart => exact ⟨xs.length, o, u, Nat.le_refl _, hlen, rfl, rfl, hA, hU, hO⟩
      case round =>
        clear hA hU hO
        obtain ⟨k, o, u, hk1, hk2, rfl, rfl, hA, hU, hO⟩ := hrel
        by_cases hc : o ≠ 0 ∧ k < r0.length
        · obtain ⟨ho, hlt⟩ := hc
          have hul := hA.len
          obtain ⟨tw, htw⟩ : ∃ x, u[k]? = some x := ⟨u[k]'(by omega), List.getElem?_eq_getElem (by omega)⟩
          have hst := hA.carry hk1 htw
          have ct := hU.cell (pre.length + k) tw (by rw [get_pre]; exact htw)
          have ft := hU.frozen (pre.length + k)
          have hset := hU.set (pre.length + k) ((tw + o) % B64)
          rw [set_pre] at hset
          have a2 := fun w => add64_run0 tw o w
          have t0 : ((o : Int) != 0) = true := by rw [bne_iff_ne]; omega
          have hkt : (k : Int) < (r0.length : Int) := by omega
          generalize (tw + o) % B64 = dd at *
          generalize (tw + o) / B64 = c2 at *
          have HST := hide hst
          have HSE := hide hset
          have HO := hide hO
          clear hst hset hO hA hU htw ho
          go_wp2
          go_roundw
          case rel => exact ⟨k + 1, c2, _, by omega, hlt, by go_num, rfl, unhide HST, unhide HSE, (unhide HO).setCell _ _⟩
          case measure => simp [intOf]; omega
        · have hdone := hA.done hk1 hk2 (unhide HRM) (by omega)
          have HD := hide hdone
          have HA := hide hA
          have HU := hide hU
          have HO := hide hO
          by_cases ho : o = 0
          · have t0 : ((o : Int) != 0) = false := by rw [bne_eq_false_iff_eq]; omega
            clear hc hdone hA hU hO ho
            go_wp2
            go_end0
            exact ⟨rfl, u, unhide HU, (unhide HA).len, (unhide HA).ok, unhide HD, unhide HO⟩
          · have t0 : ((o : Int) != 0) = true := by rw [bne_iff_ne]; omega
            have hkt : ¬ (k : Int) < (r0.length : Int) := by omega
            clear hc hdone hA hU hO ho
            go_wp2
            go_end0
            exact ⟨rfl, u, unhide HU, (unhide HA).len, (unhide HA).ok, unhide HD, unhide HO⟩
end Go.Proofs.YtjipcmmaemokhaaDoor
