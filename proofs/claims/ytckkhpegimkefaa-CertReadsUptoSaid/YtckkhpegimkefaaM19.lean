/- length of a number in bits. -/
import Derived.Test.YtckkhpegimkefaaM18
import Derived.Test.YtckkhpegimkefaaM17
import Derived.Deep.DeepCutAuto
namespace Go.Proofs.Ytckkhpegimkefaa
open Go.RowKit Go.Shelf
set_option linter.unusedVariables false

/-- just so many bits -/
def IsLenW (n L : Nat) : Prop := n < 2 ^ L ∧ (L = 0 ∨ 2 ^ (L - 1) ≤ n)
theorem IsLenW.zero : IsLenW 0 0 := ⟨by decide, .inl rfl⟩
theorem bitLen_isLen : ∀ (f x : Nat), x < 2 ^ f → x < 2 ^ 64 → IsLenW x (Lib.bitLen x) := by
  intro f
  induction f with
  | zero =>
    intro x h _
    have : x = 0 := by simpa using h
    subst this
    exact ⟨by decide, .inl rfl⟩
  | succ f ih =>
    intro x h h64
    by_cases h0 : x = 0
    · subst h0
      exact ⟨by decide, .inl rfl⟩
    · rw [Lib.bitLen_half x h0 h64]
      have hp : 2 ^ (f + 1) = 2 ^ f * 2 := Nat.pow_succ 2 f
      obtain ⟨h1, h2⟩ := ih (x / 2) (by omega) (by omega)
      have e : 2 ^ (1 + Lib.bitLen (x / 2)) = 2 * 2 ^ Lib.bitLen (x / 2) := by rw [Nat.add_comm, Nat.pow_succ, Nat.mul_comm]
      refine ⟨by rw [e]; omega, .inr ?_⟩
      rw [Nat.add_sub_cancel_left]
      rcases h2 with h2 | h2
      · rw [h2]
        show 1 ≤ x
        omega
      · by_cases hb : Lib.bitLen (x / 2) = 0
        · rw [hb]
          show 1 ≤ x
          omega
        · have : 2 ^ Lib.bitLen (x / 2) = 2 ^ (Lib.bitLen (x / 2) - 1) * 2 := by
            rw [← Nat.pow_succ]
            congr 1
            omega
          omega
theorem IsLenW.high {lo x L k : Nat} (hlo : lo < B64 ^ k) (h : IsLenW x L) (hL : 0 < L) : IsLenW (lo + x * B64 ^ k) (64 * k + L) := by
  have hB : B64 = 2 ^ 64 := rfl
  have e : B64 ^ k = 2 ^ (64 * k) := by rw [hB, ← Nat.pow_mul]
  obtain ⟨h1, h2⟩ := h
  refine ⟨?_, .inr ?_⟩
  · rw [Nat.pow_add, ← e]
    have : (x + 1) * B64 ^ k ≤ 2 ^ L * B64 ^ k := Nat.mul_le_mul_right _ h1
    rw [Nat.add_mul, Nat.one_mul, Nat.mul_comm (2 ^ L)] at this
    omega
  · rcases h2 with h2 | h2
    · omega
    · rw [show 64 * k + L - 1 = 64 * k + (L - 1) by omega, Nat.pow_add, ← e, Nat.mul_comm]
      have : 2 ^ (L - 1) * B64 ^ k ≤ x * B64 ^ k := Nat.mul_le_mul_right _ h2
      omega
theorem len_pos {x L : Nat} (h : IsLenW x L) (hx : x ≠ 0) : 0 < L := by
  rcases Nat.eq_zero_or_pos L with h0 | h0
  · subst h0
    have := h.1
    simp at this
    exact absurd this hx
  · exact h0
set_option maxHeartbeats 1000000 in
set_option maxRecDepth 100000 in
theorem length_any (xs : List Nat) (g o c : Nat) (w : World) (hX : NumAt w g o xs) (hx : okW xs) (hl : (xs.length : Int) ≤ 1000) :
    Calls Try.prog 67 #[.slice (some ⟨g, o, none⟩) xs.length c] w fun e w' => ∃ L : Nat, e = .returned (.int .i64 (L : Nat)) ∧ IsLenW (natW xs) L ∧ L ≤ 64 * xs.length ∧ w' = w := by
  have HX := hide hX
  have Hx := hide hx
  clear hX hx
  go_enter Try.func67, Try.ntmps67
  go_wp2
  go_loop [3] (fun i => ∃ k : Nat, k ≤ xs.length ∧ i = .int .i64 k ∧ natW xs = natW (xs.take k)) (fun i => (intOf i).toNat)
  case atStart => exact ⟨xs.length, Nat.le_refl _, rfl, by rw [List.take_of_length_le (Nat.le_refl _)]⟩
  case round =>
    obtain ⟨k, hk, rfl, hn⟩ := hrel
    by_cases h0 : k = 0
    · subst h0
      have hz : natW xs = 0 := by rw [hn]; simp [natW]
      have HZ := hide hz
      clear hz hn
      go_wp2
      go_ret
      exact ⟨0, rfl, by rw [unhide HZ]; exact IsLenW.zero, Nat.zero_le _, rfl⟩
    · obtain ⟨j, rfl⟩ : ∃ j, k = j + 1 := ⟨k - 1, by omega⟩
      obtain ⟨x, hxj⟩ : ∃ x, xs[j]? = some x := ⟨xs[j]'(by omega), List.getElem?_eq_getElem (by omega)⟩
      have hxb := okW_get (unhide Hx) hxj
      have cx := (unhide HX).2 j x hxj
      have hts := natW_take_succ xs j x hxj
      have hji : ((j + 1 : Nat) : Int) - 1 = (j : Int) := by omega
      have hpos : (0 : Int) < ((j + 1 : Nat) : Int) := by omega
      have hjl : (j : Int) < (xs.length : Int) := by omega
      by_cases hx0 : x = 0
      · have t0 : ((x : Int) != 0) = false := by rw [bne_eq_false_iff_eq]; omega
        have hn2 : natW xs = natW (xs.take j) := by rw [hn, hts, hx0, Nat.zero_mul, Nat.add_zero]
        have HN := hide hn2
        clear hn hn2 hts hxj hxb hx0
        generalize hjj : j + 1 = j1 at *
        have HJ := hide hjj
        clear hjj
        go_wp2
        go_round
        case rel => exact ⟨j, by have := unhide HJ; omega, by first | rfl | (rw [hji]), unhide HN⟩
        case measure => have := unhide HJ; simp [intOf]; omega
      · have t0 : ((x : Int) != 0) = true := by rw [bne_iff_ne]; omega
        have M1 := hide (fun w => len64_any x hxb w)
        have hb64 : x < 2 ^ 64 := hxb
        have hb := bitLen_isLen 64 x hb64 hb64
        have hbp := len_pos hb hx0
        have hlo := natW_lt (okW_take (unhide Hx) j)
        rw [List.length_take, Nat.min_eq_left (by omega)] at hlo
        have hfin := IsLenW.high hlo hb hbp
        rw [← hts, ← hn] at hfin
        have hb2 : Lib.bitLen x ≤ 64 := Lib.bitLen_le x 64 (Nat.le_refl _) hb64
        have HF := hide hfin
        generalize Lib.bitLen x = L at *
        clear hn hts hxj hxb hx0 hb hbp hlo hfin hb64
        generalize hjj : j + 1 = j1 at *
        have HJ := hide hjj
        clear hjj
        go_wp2_with fail
        refine (unhide M1 _).mono ?_
        rintro e y1 ⟨rfl, rfl⟩
        go_wp2
        go_ret
        refine ⟨64 * j + L, ?_, unhide HF, by have := unhide HJ; omega, rfl⟩
        exact congrArg Ending.returned (congrArg (Value.int IntKind.i64) (by omega))
end Go.Proofs.Ytckkhpegimkefaa
namespace Go.Proofs.Ytckkhpegimkefaa
open Go.RowKit Go.Shelf
set_option linter.unusedVariables false

theorem pow_split2 (r : Nat) (hr : r < 64) : B64 = 2 ^ r * (2 ^ (63 - r) * 2) := by
  have hB : B64 = 2 ^ 64 := rfl
  rw [hB, ← Nat.pow_succ, ← Nat.pow_add]
  congr 1
  omega
theorem word_bit (x h E F : Nat) (hE : 0 < E) : (x + E * (F * 2) * h) / E % 2 = x / E % 2 := by
  rw [show E * (F * 2) * h = E * (F * h * 2) by grind, Nat.add_mul_div_left _ _ hE, Nat.add_mul_mod_self_right]
theorem natW_bit {xs : List Nat} {i q r x : Nat} (hx : okW xs) (hi : i = 64 * q + r) (hr : r < 64) (hq : xs[q]? = some x) : natW xs / 2 ^ i % 2 = x / 2 ^ r % 2 := by
  have hl : q < xs.length := by
    rcases Nat.lt_or_ge q xs.length with h | h
    · exact h
    · rw [List.getElem?_eq_none h] at hq; cases hq
  have e := natW_split xs q (by omega)
  have hd : xs.drop q = x :: xs.drop (q + 1) := by
    rw [List.drop_eq_getElem_cons hl]
    rw [List.getElem?_eq_getElem hl] at hq
    rw [Option.some.inj hq]
  rw [hd, natW] at e
  have hlow := natW_lt (okW_take hx q)
  rw [List.length_take, Nat.min_eq_left (by omega)] at hlow
  have hp : 0 < B64 ^ q := Nat.pow_pos B64_pos
  rw [hi, Nat.pow_add, ← B64_two, ← Nat.div_div_eq_div_mul, e, Nat.add_mul_div_left _ _ hp, Nat.div_eq_of_lt hlow, Nat.zero_add]
  conv => lhs; rw [pow_split2 r hr]
  exact word_bit x _ _ _ (Nat.pow_pos (by decide))
/-- a modulus that newModular made -/
structure ModOK (ms sq : List Nat) (m0 inv n : Nat) : Prop where
  lm : ms.length = n
  ls : sq.length = n
  om : okW ms
  os : okW sq
  odd : natW ms % 2 = 1
  big : 2 < natW ms
  hsq : natW sq = B64 ^ n * B64 ^ n % natW ms
  hm0 : ms[0]? = some m0
  hinv : (m0 * inv + 1) % B64 = 0
  hib : inv < B64
  n4 : 4 ≤ n
  n12 : n ≤ 12
/-- times, as a number -/
theorem times_val {ms sq : List Nat} {m0 inv n : Nat} (hm : ModOK ms sq m0 inv n) (xs ys : List Nat) (gx ox xc gy oy yc gm om mc : Nat) (sa : Option Addr) (sn sc : Nat) (w : World)
    (hX : NumAt w gx ox xs) (hY : NumAt w gy oy ys) (hM : NumAt w gm om ms) (hx : okW xs) (hy : okW ys) (hxl : xs.length = n) (hyl : ys.length = n) (hxm : natW xs < natW ms) :
    Calls Try.prog 66 #[.agg #[.slice (some ⟨gm, om, none⟩) n mc, .int .u64 (inv : Nat), .slice sa sn sc], .slice (some ⟨gx, ox, none⟩) n xc, .slice (some ⟨gy, oy, none⟩) n yc] w fun e w' => ∃ zg zo zc zs, e = .returned (.slice (some ⟨zg, zo, none⟩) n zc) ∧ NumAt w' zg zo zs ∧ zs.length = n ∧ okW zs ∧ natW zs = natW xs * natW ys * unTwo (natW ms) (64 * n) % natW ms ∧ Below w.heap.size w w' := by
  have T1 := times_any xs ys ms m0 inv gx ox xc gy oy yc gm om mc sa sn sc w hX hY hM hx hy hm.om (by rw [hxl, hm.lm]) (by rw [hyl, hm.lm]) hxm hm.hm0 hm.hinv hm.hib (by rw [hm.lm]; have := hm.n12; omega)
  rw [hxl, hyl, hm.lm] at T1
  unfold modV at T1
  refine T1.mono ?_
  rintro e w' ⟨zg, zo, zc, zs, rfl, g1, g2, g3, g4, g5, g6, g7⟩
  have hRi := unTwo_mul (natW ms) (64 * n) hm.odd
  rw [← B64_two] at hRi
  exact ⟨zg, zo, zc, zs, by rw [g2], g1, g2, g3, mont_val _ _ _ _ _ g4 hRi g5, g7⟩
end Go.Proofs.Ytckkhpegimkefaa
