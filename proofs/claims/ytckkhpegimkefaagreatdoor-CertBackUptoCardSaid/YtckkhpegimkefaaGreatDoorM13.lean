/- length of a number in bits. -/
import Derived.Test.YtckkhpegimkefaaGreatDoorM12
import Derived.Deep.DeepCutAuto
import Derived.Deep.RegionHeld3
import Derived.WalkSmall
namespace Go.Proofs.YtckkhpegimkefaaGreatDoor
open Go.RowKit Go.Shelf
set_option linter.unusedVariables false

/-- just so many bits -/
def IsLenW (n L : Nat) : Prop := n < 2 ^ L ∧ (L = 0 ∨ 2 ^ (L - 1) ≤ n)
theorem IsLenW.zero : IsLenW 0 0 := ⟨by decide, .inl rfl⟩
theorem bitLen_isLen : ∀ (f x : Nat), x < 2 ^ f → x < 2 ^ 64 → IsLenW x (Lib.bitLen x) := by
  intro f
  induction f with
  | zero =>
    intro x h _
    have : x = 0 := by simpa using h
    subst this
    exact ⟨by decide, .inl rfl⟩
  | succ f ih =>
    intro x h h64
    by_cases h0 : x = 0
    · subst h0
      exact ⟨by decide, .inl rfl⟩
    · rw [Lib.bitLen_half x h0 h64]
      have hp : 2 ^ (f + 1) = 2 ^ f * 2 := Nat.pow_succ 2 f
      obtain ⟨h1, h2⟩ := ih (x / 2) (by omega) (by omega)
      have e : 2 ^ (1 + Lib.bitLen (x / 2)) = 2 * 2 ^ Lib.bitLen (x / 2) := by rw [Nat.add_comm, Nat.pow_succ, Nat.mul_comm]
      refine ⟨by rw [e]; omega, .inr ?_⟩
      rw [Nat.add_sub_cancel_left]
      rcases h2 with h2 | h2
      · rw [h2]
        show 1 ≤ x
        omega
      · by_cases hb : Lib.bitLen (x / 2) = 0
        · rw [hb]
          show 1 ≤ x
          omega
        · have : 2 ^ Lib.bitLen (x / 2) = 2 ^ (Lib.bitLen (x / 2) - 1) * 2 := by
            rw [← Nat.pow_succ]
            congr 1
            omega
          omega
theorem IsLenW.high {lo x L k : Nat} (hlo : lo < B64 ^ k) (h : IsLenW x L) (hL : 0 < L) : IsLenW (lo + x * B64 ^ k) (64 * k + L) := by
  have hB : B64 = 2 ^ 64 := rfl
  have e : B64 ^ k = 2 ^ (64 * k) := by rw [hB, ← Nat.pow_mul]
  obtain ⟨h1, h2⟩ := h
  refine ⟨?_, .inr ?_⟩
  · rw [Nat.pow_add, ← e]
    have : (x + 1) * B64 ^ k ≤ 2 ^ L * B64 ^ k := Nat.mul_le_mul_right _ h1
    rw [Nat.add_mul, Nat.one_mul, Nat.mul_comm (2 ^ L)] at this
    omega
  · rcases h2 with h2 | h2
    · omega
    · rw [show 64 * k + L - 1 = 64 * k + (L - 1) by omega, Nat.pow_add, ← e, Nat.mul_comm]
      have : 2 ^ (L - 1) * B64 ^ k ≤ x * B64 ^ k := Nat.mul_le_mul_right _ h2
      omega
theorem len_pos {x L : Nat} (h : IsLenW x L) (hx : x ≠ 0) : 0 < L := by
  rcases Nat.eq_zero_or_pos L with h0 | h0
  · subst h0
    have := h.1
    simp at this
    exact absurd this hx
  · exact h0
set_option maxHeartbeats 1000000 in
set_option maxRecDepth 100000 in
theorem length_any (xs : List Nat) (g o c : Nat) (w : World) (hX : NumAt w g o xs) (hx : okW xs) (hl : (xs.length : Int) ≤ 1000) :
    Calls Tryz.prog 48 #[.slice (some ⟨g, o, none⟩) xs.length c] w fun e w' => ∃ L : Nat, e = .returned (.int .i64 (L : Nat)) ∧ IsLenW (natW xs) L ∧ L ≤ 64 * xs.length ∧ w' = w := by
  have HX := hide hX
  have Hx := hide hx
  clear hX hx
  go_enter Tryz.func48, Tryz.ntmps48
  go_wp2
  go_loop [3] (fun i => ∃ k : Nat, k ≤ xs.length ∧ i = .int .i64 k ∧ natW xs = natW (xs.take k)) (fun i => (intOf i).toNat)
  case atStart => exact ⟨xs.length, Nat.le_refl _, rfl, by rw [List.take_of_length_le (Nat.le_refl _)]⟩
  case round =>
    obtain ⟨k, hk, rfl, hn⟩ := hrel
    by_cases h0 : k = 0
    · subst h0
      have hz : natW xs = 0 := by rw [hn]; simp [natW]
      have HZ := hide hz
      clear hz hn
      go_wp2
      go_ret
      exact ⟨0, rfl, by rw [unhide HZ]; exact IsLenW.zero, Nat.zero_le _, rfl⟩
    · obtain ⟨j, rfl⟩ : ∃ j, k = j + 1 := ⟨k - 1, by omega⟩
      obtain ⟨x, hxj⟩ : ∃ x, xs[j]? = some x := ⟨xs[j]'(by omega), List.getElem?_eq_getElem (by omega)⟩
      have hxb := okW_get (unhide Hx) hxj
      have cx := (unhide HX).2 j x hxj
      have hts := natW_take_succ xs j x hxj
      have hji : ((j + 1 : Nat) : Int) - 1 = (j : Int) := by omega
      have hpos : (0 : Int) < ((j + 1 : Nat) : Int) := by omega
      have hjl : (j : Int) < (xs.length : Int) := by omega
      by_cases hx0 : x = 0
      · have t0 : ((x : Int) != 0) = false := by rw [bne_eq_false_iff_eq]; omega
        have hn2 : natW xs = natW (xs.take j) := by rw [hn, hts, hx0, Nat.zero_mul, Nat.add_zero]
        have HN := hide hn2
        clear hn hn2 hts hxj hxb hx0
        generalize hjj : j + 1 = j1 at *
        have HJ := hide hjj
        clear hjj
        go_wp2
        go_round
        case rel => exact ⟨j, by have := unhide HJ; omega, by first | rfl | (rw [hji]), unhide HN⟩
        case measure => have := unhide HJ; simp [intOf]; omega
      · have t0 : ((x : Int) != 0) = true := by rw [bne_iff_ne]; omega
        have M1 := hide (fun w => len64_any x hxb w)
        have hb64 : x < 2 ^ 64 := hxb
        have hb := bitLen_isLen 64 x hb64 hb64
        have hbp := len_pos hb hx0
        have hlo := natW_lt (okW_take (unhide Hx) j)
        rw [List.length_take, Nat.min_eq_left (by omega)] at hlo
        have hfin := IsLenW.high hlo hb hbp
        rw [← hts, ← hn] at hfin
        have hb2 : Lib.bitLen x ≤ 64 := Lib.bitLen_le x 64 (Nat.le_refl _) hb64
        have HF := hide hfin
        generalize Lib.bitLen x = L at *
        clear hn hts hxj hxb hx0 hb hbp hlo hfin hb64
        generalize hjj : j + 1 = j1 at *
        have HJ := hide hjj
        clear hjj
        go_wp2_with fail
        refine (unhide M1 _).mono ?_
        rintro e y1 ⟨rfl, rfl⟩
        go_wp2
        go_ret
        refine ⟨64 * j + L, ?_, unhide HF, by have := unhide HJ; omega, rfl⟩
        exact congrArg Ending.returned (congrArg (Value.int IntKind.i64) (by omega))
end Go.Proofs.YtckkhpegimkefaaGreatDoor
namespace Go.Proofs.YtckkhpegimkefaaGreatDoor
open Go.RowKit Go.Shelf
set_option linter.unusedVariables false

theorem pow_split2 (r : Nat) (hr : r < 64) : B64 = 2 ^ r * (2 ^ (63 - r) * 2) := by
  have hB : B64 = 2 ^ 64 := rfl
  rw [hB, ← Nat.pow_succ, ← Nat.pow_add]
  congr 1
  omega
theorem word_bit (x h E F : Nat) (hE : 0 < E) : (x + E * (F * 2) * h) / E % 2 = x / E % 2 := by
  rw [show E * (F * 2) * h = E * (F * h * 2) by grind, Nat.add_mul_div_left _ _ hE, Nat.add_mul_mod_self_right]
theorem natW_bit {xs : List Nat} {i q r x : Nat} (hx : okW xs) (hi : i = 64 * q + r) (hr : r < 64) (hq : xs[q]? = some x) : natW xs / 2 ^ i % 2 = x / 2 ^ r % 2 := by
  have hl : q < xs.length := by
    rcases Nat.lt_or_ge q xs.length with h | h
    · exact h
    · rw [List.getElem?_eq_none h] at hq; cases hq
  have e := natW_split xs q (by omega)
  have hd : xs.drop q = x :: xs.drop (q + 1) := by
    rw [List.drop_eq_getElem_cons hl]
    rw [List.getElem?_eq_getElem hl] at hq
    rw [Option.some.inj hq]
  rw [hd, natW] at e
  have hlow := natW_lt (okW_take hx q)
  rw [List.length_take, Nat.min_eq_left (by omega)] at hlow
  have hp : 0 < B64 ^ q := Nat.pow_pos B64_pos
  rw [hi, Nat.pow_add, ← B64_two, ← Nat.div_div_eq_div_mul, e, Nat.add_mul_div_left _ _ hp, Nat.div_eq_of_lt hlow, Nat.zero_add]
  conv => lhs; rw [pow_split2 r hr]
  exact word_bit x _ _ _ (Nat.pow_pos (by decide))
/-- a modulus that newModular made -/
structure ModOK (ms sq : List Nat) (m0 inv n : Nat) : Prop where
  lm : ms.length = n
  ls : sq.length = n
  om : okW ms
  os : okW sq
  odd : natW ms % 2 = 1
  big : 2 < natW ms
  hsq : natW sq = B64 ^ n * B64 ^ n % natW ms
  hm0 : ms[0]? = some m0
  hinv : (m0 * inv + 1) % B64 = 0
  hib : inv < B64
  n4 : 4 ≤ n
  n12 : n ≤ 12
/-- times, as a number -/
theorem times_val {ms sq : List Nat} {m0 inv n : Nat} (hm : ModOK ms sq m0 inv n) (xs ys : List Nat) (gx ox xc gy oy yc gm om mc : Nat) (sa : Option Addr) (sn sc : Nat) (w : World)
    (hX : NumAt w gx ox xs) (hY : NumAt w gy oy ys) (hM : NumAt w gm om ms) (hx : okW xs) (hy : okW ys) (hxl : xs.length = n) (hyl : ys.length = n) (hxm : natW xs < natW ms) :
    Calls Tryz.prog 87 #[.agg #[.slice (some ⟨gm, om, none⟩) n mc, .int .u64 (inv : Nat), .slice sa sn sc], .slice (some ⟨gx, ox, none⟩) n xc, .slice (some ⟨gy, oy, none⟩) n yc] w fun e w' => ∃ zg zo zc zs, e = .returned (.slice (some ⟨zg, zo, none⟩) n zc) ∧ NumAt w' zg zo zs ∧ zs.length = n ∧ okW zs ∧ natW zs = natW xs * natW ys * unTwo (natW ms) (64 * n) % natW ms ∧ Below w.heap.size w w' := by
  have T1 := times_any xs ys ms m0 inv gx ox xc gy oy yc gm om mc sa sn sc w hX hY hM hx hy hm.om (by rw [hxl, hm.lm]) (by rw [hyl, hm.lm]) hxm hm.hm0 hm.hinv hm.hib (by rw [hm.lm]; have := hm.n12; omega)
  rw [hxl, hyl, hm.lm] at T1
  unfold modV at T1
  refine T1.mono ?_
  rintro e w' ⟨zg, zo, zc, zs, rfl, g1, g2, g3, g4, g5, g6, g7⟩
  have hRi := unTwo_mul (natW ms) (64 * n) hm.odd
  rw [← B64_two] at hRi
  exact ⟨zg, zo, zc, zs, by rw [g2], g1, g2, g3, mont_val _ _ _ _ _ g4 hRi g5, g7⟩
end Go.Proofs.YtckkhpegimkefaaGreatDoor
namespace Go.Proofs.YtckkhpegimkefaaGreatDoor
open Go.RowKit Go.Shelf
set_option linter.unusedVariables false

theorem pow_step0 (x d i : Nat) (h : d / 2 ^ i % 2 = 0) : x ^ (d / 2 ^ i) = x ^ (d / 2 ^ (i + 1)) * x ^ (d / 2 ^ (i + 1)) := by
  have : d / 2 ^ (i + 1) = d / 2 ^ i / 2 := by rw [Nat.pow_succ, Nat.div_div_eq_div_mul]
  rw [← Nat.pow_add]
  congr 1
  omega
theorem pow_step1 (x d i : Nat) (h : d / 2 ^ i % 2 = 1) : x ^ (d / 2 ^ i) = x ^ (d / 2 ^ (i + 1)) * x ^ (d / 2 ^ (i + 1)) * x := by
  have : d / 2 ^ (i + 1) = d / 2 ^ i / 2 := by rw [Nat.pow_succ, Nat.div_div_eq_div_mul]
  rw [← Nat.pow_add, ← Nat.pow_succ]
  congr 1
  omega
theorem and_bit (y r : Nat) (bt : Int) (hy : y < B64) (h : ((y / 2 ^ r % 2 : Nat) : Int) = bt) : bits .and .u64 ((y : Int) / 2 ^ r) 1 = bt := by
  have e : ((y : Int) / 2 ^ r) = ((y / 2 ^ r : Nat) : Int) := by simp
  have hle : y / 2 ^ r ≤ y := Nat.div_le_self _ _
  have hy' : y < 18446744073709551616 := hy
  generalize y / 2 ^ r = z at *
  rw [e, and_one_u64 _ (Int.natCast_nonneg _) (by omega), ← h]
  rfl
/-- what power has laid, and what it reads -/
structure KeptP (w : World) (gm om mc gs os sc inv n gd od : Nat) (ms sq ds on : List Nat) (wr : World) : Prop where
  box : BoxAt wr w.heap.size gm om n mc inv (some ⟨gs, os, none⟩) n sc
  one : NumAt wr (w.heap.size + 1) 0 on
  num : NumAt wr gm om ms
  sqr : NumAt wr gs os sq
  exp : NumAt wr gd od ds
  bel : Below w.heap.size w wr
theorem KeptP.below {w : World} {gm om mc gs os sc inv n gd od : Nat} {ms sq ds on : List Nat} {wr w' : World} (h : KeptP w gm om mc gs os sc inv n gd od ms sq ds on wr) (hb : Below wr.heap.size wr w') : KeptP w gm om mc gs os sc inv n gd od ms sq ds on w' :=
  ⟨h.box.below hb, h.one.below hb, h.num.below hb, h.sqr.below hb, h.exp.below hb, h.bel.trans (hb.mono h.bel.size)⟩
theorem KeptP.drew {w : World} {gm om mc gs os sc inv n gd od : Nat} {ms sq ds on : List Nat} {wr : World} (h : KeptP w gm om mc gs os sc inv n gd od ms sq ds on wr) : KeptP w gm om mc gs os sc inv n gd od ms sq ds on wr.drew :=
  h.below (Below.refl _ _).drew
theorem times_at {w : World} {gm om mc gs os sc inv n gd od m0 : Nat} {ms sq ds on : List Nat} {wr : World} (h : KeptP w gm om mc gs os sc inv n gd od ms sq ds on wr) (hm : ModOK ms sq m0 inv n)
    (xs ys : List Nat) (gx ox xc gy oy yc : Nat) (hX : NumAt wr gx ox xs) (hY : NumAt wr gy oy ys) (hx : okW xs) (hy : okW ys) (hxl : xs.length = n) (hyl : ys.length = n) (hxm : natW xs < natW ms) :
    Calls Tryz.prog 87 #[.agg #[.slice (some ⟨gm, om, none⟩) n mc, .int .u64 (inv : Nat), .slice (some ⟨gs, os, none⟩) n sc], .slice (some ⟨gx, ox, none⟩) n xc, .slice (some ⟨gy, oy, none⟩) n yc] wr fun e w' => ∃ zg zo zc zs, e = .returned (.slice (some ⟨zg, zo, none⟩) n zc) ∧ NumAt w' zg zo zs ∧ zs.length = n ∧ okW zs ∧ natW zs = natW xs * natW ys * unTwo (natW ms) (64 * n) % natW ms ∧ Below wr.heap.size wr w' ∧ KeptP w gm om mc gs os sc inv n gd od ms sq ds on w' :=
  (times_val hm xs ys gx ox xc gy oy yc gm om mc (some ⟨gs, os, none⟩) n sc wr hX hY h.num hx hy hxl hyl hxm).mono fun _ _ ⟨zg, zo, zc, zs, h0, h1, h2, h3, h4, h5⟩ => ⟨zg, zo, zc, zs, h0, h1, h2, h3, h4, h5, h.below h5⟩

theorem times_from {w : World} {gm om mc gs os sc inv n gd od m0 : Nat} {ms sq ds on : List Nat} {W w2 : World} (h : KeptP w gm om mc gs os sc inv n gd od ms sq ds on W) (hm : ModOK ms sq m0 inv n)
    (xs ys : List Nat) (gx ox xc gy oy yc : Nat) (hX : NumAt W gx ox xs) (hY : NumAt W gy oy ys) (hx : okW xs) (hy : okW ys) (hxl : xs.length = n) (hyl : ys.length = n) (hxm : natW xs < natW ms) (hb : Below W.heap.size W w2) :
    Calls Tryz.prog 87 #[.agg #[.slice (some ⟨gm, om, none⟩) n mc, .int .u64 (inv : Nat), .slice (some ⟨gs, os, none⟩) n sc], .slice (some ⟨gx, ox, none⟩) n xc, .slice (some ⟨gy, oy, none⟩) n yc] w2 fun e w' => ∃ zg zo zc zs, e = .returned (.slice (some ⟨zg, zo, none⟩) n zc) ∧ NumAt w' zg zo zs ∧ zs.length = n ∧ okW zs ∧ natW zs = natW xs * natW ys * unTwo (natW ms) (64 * n) % natW ms ∧ Below w2.heap.size w2 w' ∧ Below W.heap.size W w' ∧ KeptP w gm om mc gs os sc inv n gd od ms sq ds on w' :=
  (times_at (h.below hb) hm xs ys gx ox xc gy oy yc (hX.below hb) (hY.below hb) hx hy hxl hyl hxm).mono fun _ _ ⟨zg, zo, zc, zs, h0, h1, h2, h3, h4, h5, h6⟩ => ⟨zg, zo, zc, zs, h0, h1, h2, h3, h4, h5, hb.trans (h5.mono hb.size), h6⟩

set_option maxHeartbeats 2000000 in
set_option maxRecDepth 100000 in
theorem power_any {ms sq : List Nat} {m0 inv n : Nat} (hm : ModOK ms sq m0 inv n) (xs ds : List Nat) (gx ox xc gd od dc gm om mc gs os sc : Nat) (w : World)
    (hX : NumAt w gx ox xs) (hD : NumAt w gd od ds) (hM : NumAt w gm om ms) (hS : NumAt w gs os sq) (hx : okW xs) (hd : okW ds) (hxl : xs.length = n) (hdl : (ds.length : Int) ≤ 100) (hxm : natW xs < natW ms) :
    Calls Tryz.prog 56 #[.agg #[.slice (some ⟨gm, om, none⟩) n mc, .int .u64 (inv : Nat), .slice (some ⟨gs, os, none⟩) n sc], .slice (some ⟨gx, ox, none⟩) n xc, .slice (some ⟨gd, od, none⟩) ds.length dc] w fun e w' => ∃ zg zo zc zs, e = .returned (.slice (some ⟨zg, zo, none⟩) n zc) ∧ NumAt w' zg zo zs ∧ zs.length = n ∧ okW zs ∧ natW zs = natW xs ^ natW ds % natW ms ∧ Below w.heap.size w w' := by
  obtain ⟨i0, hi, hz0, hz1, hz2⟩ := info_partsN infoU64
  have hn4 : (4 : Int) ≤ (n : Int) := by have := hm.n4; omega
  have hn12 : (n : Int) ≤ 12 := by have := hm.n12; omega
  have HM := hide hm; have HX := hide hX; have HD := hide hD; have HMM := hide hM; have HS := hide hS; have Hx := hide hx; have Hd := hide hd; have HXL := hide hxl; have HXM := hide hxm
  clear hm hX hD hM hS hx hd hxl hxm
  go_enter Tryz.func56, Tryz.ntmps56
  go_wp2_with (at_make; refine wpList_make_full _ rfl _ _ 58 rfl (w.heap.size + 1) 82 i0 (.int .u64 0) 1 Tryz.underlying58 hi hz0 hz1 .i64 .i64 _ _ n rfl rfl rfl rfl (by rw [hz2]; omega) (by unfold maxLen; omega) (by simp) ?_)
  intro w1 hown hgrow
  obtain ⟨hBX, hU, hbel⟩ := box_made hown hgrow
  clear hown hgrow hi hz0 hz1 hz2
  have c0 := hU.cell 0 0 (by rw [List.getElem?_replicate, if_pos (by omega)])
  have f0 := hU.frozen 0
  have hset := hU.set 0 1
  have hon : Only (w.heap.size + 1) w1 (w1.setCell ⟨w.heap.size + 1, 0, none⟩ (.int .u64 ((1 : Nat) : Int))) := (Only.refl _ _).setCell _ _
  have hsw : w.heap.size + 1 ≤ w1.heap.size := by have := hU.lt; omega
  have hkp : KeptP w gm om mc gs os sc inv n gd od ms sq ds ((List.replicate n 0).set 0 1) (w1.setCell ⟨w.heap.size + 1, 0, none⟩ (.int .u64 ((1 : Nat) : Int))) := by
    have k1 := (unhide HMM).1; have k2 := (unhide HS).1; have k3 := (unhide HD).1
    exact ⟨hBX.only hon (by omega), hset.numAt 0, ((unhide HMM).below hbel).only hon (by omega), ((unhide HS).below hbel).only hon (by omega), ((unhide HD).below hbel).only hon (by omega), hbel.trans (hon.below (by omega))⟩
  have hX2 : NumAt (w1.setCell ⟨w.heap.size + 1, 0, none⟩ (.int .u64 ((1 : Nat) : Int))) gx ox xs := ((unhide HX).below hbel).only hon (by have := (unhide HX).1; omega)
  have HK := hide hkp
  have HX2 := hide hX2
  have HON := hide (one_bit n 0 0 0 (by omega) (by omega))
  have HOL := hide (show ((List.replicate n 0).set 0 1).length = n by simp)
  have HOO := hide (okW_set (okW_zeros n) 0 1 (by decide))
  rw [Nat.pow_zero] at HON
  generalize (List.replicate n 0).set 0 1 = on at *
  clear hBX hU hbel hset hon hkp hX2
  go_wp2_with fail
  obtain ⟨W, hW⟩ : ∃ W, W = w1.setCell ⟨w.heap.size + 1, 0, none⟩ (.int .u64 ((1 : Nat) : Int)) := ⟨_, rfl⟩
  have hW' : w1.setCell ⟨w.heap.size + 1, 0, none⟩ (.int .u64 1) = W := hW.symm
  rw [hW']
  rw [← hW] at HK HX2
  clear hW hW' c0 f0 hsw
  have TA := hide (fun w2 (hb : Below W.heap.size W w2) => times_from (unhide HK) (unhide HM) xs sq gx ox xc gs os sc (unhide HX2) (unhide HK).sqr (unhide Hx) (unhide HM).os (unhide HXL) (unhide HM).ls (unhide HXM) hb)
  have TB := hide (fun w2 (hb : Below W.heap.size W w2) => times_from (unhide HK) (unhide HM) on sq (w.heap.size + 1) 0 n gs os sc (unhide HK).one (unhide HK).sqr (unhide HOO) (unhide HM).os (unhide HOL) (unhide HM).ls (by rw [unhide HON]; have := (unhide HM).big; omega) hb)
  have b0 := (unhide HK).box.cell0
  have b1 := (unhide HK).box.cell1
  have b2 := (unhide HK).box.cell2
  go_cut [8, 9] (fun bv ov wx => ∃ bg bo bc og oo oc bs zs, bv = .slice (some ⟨bg, bo, none⟩) n bc ∧ ov = .slice (some ⟨og, oo, none⟩) n oc ∧ NumAt wx bg bo bs ∧ NumAt wx og oo zs ∧ bs.length = n ∧ zs.length = n ∧ okW bs ∧ okW zs ∧ natW bs = natW xs * natW sq * unTwo (natW ms) (64 * n) % natW ms ∧ natW zs = natW on * natW sq * unTwo (natW ms) (64 * n) % natW ms ∧ KeptP w gm om mc gs os sc inv n gd od ms sq ds on wx)
  case first =>
    clear HX2 HX HD HMM HS Hx Hd HXL HXM HK HOO HOL HON HM
    go_region_held3 (fun w' => w'.cell? ⟨w.heap.size, 0, none⟩ = some (.slice (some ⟨gm, om, none⟩) n mc) ∧ w'.cell? ⟨w.heap.size, 1, none⟩ = some (.int .u64 (inv : Nat)) ∧ w'.cell? ⟨w.heap.size, 2, none⟩ = some (.slice (some ⟨gs, os, none⟩) n sc))
      (first
        | (have hq := k7; exact ⟨k7.box.cell0, k7.box.cell1, k7.box.cell2⟩)
        | (have hq := h7; exact ⟨h7.box.cell0, h7.box.cell1, h7.box.cell2⟩)
        | exact ⟨b0, b1, b2⟩
        | go_keep)
      ((first
        | (go_at_call 87; rename Below W.heap.size W _ => hq; refine (unhide TB _ hq).mono ?_; rintro e y2 ⟨og, oo, oc, os', rfl, k1, k2, k3, k4, k5, k6, k7⟩)
        | (go_at_call 87; refine (unhide TA _ (Below.refl _ _).drew).mono ?_; rintro e y1 ⟨zg, zo, zc, zs, rfl, h1, h2, h3, h4, h5, h6, h7⟩)))
    all_goals
      go_wp2_with fail
      go_meet
      exact ⟨zg, zo, zc, og, oo, oc, zs, os', rfl, rfl, h1.below k5, k1, h2, k2, h3, k3, h4, k4, k7⟩
  case rest =>
    obtain ⟨bg, bo, bc, og, oo, oc, bs, zs, rfl, rfl, hb1, hz1, hbl, hzl, hbo, hzo, hbn, hzn, hk⟩ := hcut
    have hMg := unhide HM
    have hRi := unTwo_mul (natW ms) (64 * n) hMg.odd
    rw [← B64_two] at hRi
    rw [hMg.hsq, mont_in _ _ _ _ hRi] at hbn
    rw [hMg.hsq, mont_in _ _ _ _ hRi, unhide HON] at hzn
    have N1 := hide (length_any ds gd od dc wc hk.exp (unhide Hd) (by omega))
    have HB1 := hide hb1; have HZ1 := hide hz1; have HBL := hide hbl; have HZL := hide hzl; have HBO := hide hbo; have HZO := hide hzo; have HBN := hide hbn; have HZN := hide hzn; have HKK := hide hk; have HRI := hide hRi
    clear hb1 hz1 hbl hzl hbo hzo hbn hzn hk hRi hMg b0 b1 b2 TA TB HK HX2
    go_wp2_with fail
    refine (unhide N1).mono ?_
    rintro e w3 ⟨L, rfl, hL, hLb, rfl⟩
    have HL := hide hL
    have hLi : (L : Int) ≤ 6400 := by omega
    have HLB := hide hLb
    clear N1 hL hLb
    go_wp2_with fail
    go_loopw [9, 32] (fun o i wr => ∃ (k zg zo zc : Nat) (zs : List Nat), k ≤ L ∧ i = .int .i64 k ∧ o = .slice (some ⟨zg, zo, none⟩) n zc ∧ NumAt wr zg zo zs ∧ zs.length = n ∧ okW zs ∧ natW zs = natW xs ^ (natW ds / 2 ^ (L - k)) * B64 ^ n % natW ms ∧ NumAt wr bg bo bs ∧ KeptP w gm om mc gs os sc inv n gd od ms sq ds on wr) (fun _ i _ => L - (intOf i).toNat)
    case atStart => exact ⟨0, og, oo, oc, zs, Nat.zero_le _, rfl, rfl, unhide HZ1, unhide HZL, unhide HZO, by rw [Nat.sub_zero, Nat.div_eq_of_lt (unhide HL).1, Nat.pow_zero]; exact unhide HZN, unhide HB1, unhide HKK⟩
    case round =>
      clear HZ1 HZL HZO HZN HB1 HKK
      obtain ⟨k, zg, zo, zc, zs, hk, rfl, rfl, hz, hzl, hzo, hzn, hb, hkp⟩ := hrel
      have hMg := unhide HM
      have hMpos : 0 < natW ms := by have := hMg.big; omega
      have hzlt : natW zs < natW ms := by rw [hzn]; exact Nat.mod_lt _ hMpos
      have b0 := hkp.box.cell0
      have b1 := hkp.box.cell1
      have b2 := hkp.box.cell2
      by_cases hlt : k < L
      · obtain ⟨i, hi⟩ : ∃ i, i = L - 1 - k := ⟨_, rfl⟩
        obtain ⟨q, hq⟩ : ∃ q, q = i / 64 := ⟨_, rfl⟩
        obtain ⟨r, hr⟩ : ∃ r, r = i % 64 := ⟨_, rfl⟩
        have hLB := unhide HLB
        have hqd : q < ds.length := by omega
        obtain ⟨y, hy⟩ : ∃ y, ds[q]? = some y := ⟨ds[q]'hqd, List.getElem?_eq_getElem hqd⟩
        have hyb := okW_get (unhide Hd) hy
        have hbit := natW_bit (unhide Hd) (i := i) (q := q) (r := r) (by omega) (by omega) hy
        have hiL : L - k = i + 1 := by omega
        have hiL' : L - (k + 1) = i := by omega
        rw [hiL] at hzn
        have hii : (L : Int) - 1 - (k : Int) = (i : Int) := by omega
        have hqi : (i : Int) / 64 = (q : Int) := by omega
        have hri : (i : Int) % 64 = (r : Int) := by omega
        have hr64 : (r : Int) < 64 := by omega
        have hib : (i : Int) < 6400 := by omega
        have hqb : (q : Int) < (ds.length : Int) := by omega
        have T1 := times_at hkp hMg zs zs zg zo zc zg zo zc hz hz hzo hzo hzl hzl hzlt
        rw [mont_mul _ _ _ _ _ _ _ (unhide HRI) hzn hzn] at T1
        have HT1 := hide T1
        have HBW := hide hb; have HBIT := hide hbit; have HY := hide hy; have HIL := hide hiL'
        have hki : (k : Int) < (L : Int) := by omega
        clear T1 hz hzl hzo hzn hzlt hMpos hkp hb hbit hy hi hq hr hLB hqd hiL hiL' hMg hk
        go_wp2_with fail
        refine (unhide HT1).mono ?_
        rintro e y1 ⟨zg1, zo1, zc1, zs1, rfl, g1, g2, g3, g4, g5, g6⟩
        have HB2 := hide ((unhide HBW).below g5)
        have cy : y1.cell? ⟨gd, od + q, none⟩ = some (.int .u64 (y : Nat)) := g6.exp.2 q y (unhide HY)
        have d0 := g6.box.cell0
        have d1 := g6.box.cell1
        have d2 := g6.box.cell2
        have G1 := hide g1; have G2 := hide g2; have G3 := hide g3; have G4 := hide g4; have G6 := hide g6
        clear HT1 g1 g2 g3 g4 g5 g6 b0 b1 b2 HBW
        have h2 : y / 2 ^ r % 2 = 0 ∨ y / 2 ^ r % 2 = 1 := by omega
        rcases h2 with h2 | h2
        · have hq1 := and_bit y r 0 hyb (by rw [h2]; rfl)
          have HF := hide (show natW zs1 = natW xs ^ (natW ds / 2 ^ (L - (k + 1))) * B64 ^ n % natW ms by
            rw [unhide HIL, pow_step0 _ _ _ ((unhide HBIT).trans h2)]; exact unhide G4)
          clear h2 G4
          go_wp2
          go_roundw
          case rel => exact ⟨k + 1, zg1, zo1, zc1, zs1, hlt, by go_num, rfl, unhide G1, unhide G2, unhide G3, unhide HF, unhide HB2, unhide G6⟩
          case measure => simp [intOf]; omega
        · have hq1 := and_bit y r 1 hyb (by rw [h2]; rfl)
          have hMpos : 0 < natW ms := by have := (unhide HM).big; omega
          have T2 := times_at (unhide G6) (unhide HM) zs1 bs zg1 zo1 zc1 bg bo bc (unhide G1) (unhide HB2) (unhide G3) (unhide HBO) (unhide G2) (unhide HBL) (by rw [unhide G4]; exact Nat.mod_lt _ hMpos)
          rw [mont_mul _ _ _ _ _ _ _ (unhide HRI) (unhide G4) (unhide HBN), ← pow_step1 _ _ _ ((unhide HBIT).trans h2), ← unhide HIL] at T2
          have HT2 := hide T2
          clear T2 h2 hMpos
          go_wp2_with fail
          refine (unhide HT2).mono ?_
          rintro e y2 ⟨zg2, zo2, zc2, zs2, rfl, j1, j2, j3, j4, j5, j6⟩
          have J1 := hide j1; have J2 := hide j2; have J3 := hide j3; have J4 := hide j4; have J6 := hide j6
          have HB3 := hide ((unhide HB2).below j5)
          clear HT2 j1 j2 j3 j4 j5 j6 d0 d1 d2 cy
          go_wp2
          go_roundw
          case rel => exact ⟨k + 1, zg2, zo2, zc2, zs2, hlt, by go_num, rfl, unhide J1, unhide J2, unhide J3, unhide J4, unhide HB3, unhide J6⟩
          case measure => simp [intOf]; omega
      · have hkl : k = L := by omega
        subst hkl
        have hfin := mont_out (natW zs) _ (B64 ^ n) _ _ (unhide HRI) hzn
        rw [Nat.sub_self, Nat.pow_zero, Nat.div_one] at hfin
        have T3 := times_at hkp hMg zs on zg zo zc (w.heap.size + 1) 0 n hz hkp.one hzo (unhide HOO) hzl (unhide HOL) hzlt
        rw [unhide HON, hfin] at T3
        have HT3 := hide T3
        clear T3 hfin hz hzl hzo hzn hzlt hMpos hkp hMg hb hk
        go_wp2_with fail
        refine (unhide HT3).mono ?_
        rintro e y2 ⟨zg2, zo2, zc2, zs2, rfl, j1, j2, j3, j4, j5, j6⟩
        have J1 := hide j1; have J2 := hide j2; have J3 := hide j3; have J4 := hide j4; have J6 := hide j6
        clear HT3 j1 j2 j3 j4 j5 j6 b0 b1 b2
        go_wp2
        refine bodyPost_ret (v := .slice (some ⟨zg2, zo2, none⟩) n zc2) (by simp [results, Tryz.results56, go_sem]) rfl ?_
        exact ⟨zg2, zo2, zc2, zs2, rfl, unhide J1, unhide J2, unhide J3, unhide J4, (unhide J6).bel⟩
end Go.Proofs.YtckkhpegimkefaaGreatDoor
namespace Go.Proofs.YtckkhpegimkefaaGreatDoor
open Go.RowKit Go.Shelf
set_option linter.unusedVariables false

/-- is it a modulus? -/
def isModB (s : ByteArray) : Bool := decide (40 ≤ s.size) && decide (s.size ≤ 96) && decide (128 ≤ (s.data.toList.headD 0).toNat) && decide ((s.data.toList.getLastD 0).toNat % 2 = 1)

set_option maxHeartbeats 1000000 in
set_option maxRecDepth 100000 in
theorem isModulus_any (s : ByteArray) (w : World) :
    Calls Tryz.prog 49 #[.string s] w fun e w' => e = .returned (.bool (isModB s)) ∧ w' = w := by
  by_cases h1 : 40 ≤ s.size
  · by_cases h2 : s.size ≤ 96
    · obtain ⟨c, hc⟩ : ∃ c : Nat, c = (s.data.toList.headD 0).toNat := ⟨_, rfl⟩
      obtain ⟨d, hd⟩ : ∃ d : Nat, d = (s.data.toList.getLastD 0).toNat := ⟨_, rfl⟩
      have hm : isModB s = (decide (128 ≤ c) && decide (d % 2 = 1)) := by
        unfold isModB
        rw [← hc, ← hd, decide_eq_true h1, decide_eq_true h2]
        simp
      rw [hm]
      have hcb : c < 256 := by rw [hc]; exact UInt8.toNat_lt _
      have hdb : d < 256 := by rw [hd]; exact UInt8.toNat_lt _
      obtain ⟨l, hl⟩ : ∃ l, l = s.size - 1 := ⟨_, rfl⟩
      have hli : (s.size : Int) - 1 = (l : Int) := by omega
      have hls : l < s.size := by omega
      have x0 : ∀ h, ((s[0]'h).toNat : Int) = (c : Int) := by
        intro h
        rw [hc]
        congr 2
        have hne : s.data.toList = s[0] :: s.data.toList.tail := by
          have : s.data.toList ≠ [] := by
            intro hh
            have hz : s.size = s.data.toList.length := by simp
            rw [hh, List.length_nil] at hz
            omega
          cases hh : s.data.toList with
          | nil => exact absurd hh this
          | cons a t =>
            have : s[0] = a := by
              show s.data[0] = a
              rw [← Array.getElem_toList]
              simp [hh]
            rw [this]; rfl
        rw [hne]; rfl
      have x1 : ∀ h, ((s[l]'h).toNat : Int) = (d : Int) := by
        intro h
        rw [hd]
        congr 2
        show s.data[l] = _
        rw [List.getLastD_eq_getLast?, List.getLast?_eq_getElem?, ← Array.getElem_toList]
        have hz : s.size = s.data.size := rfl
        rw [show s.data.toList.length - 1 = l by rw [hl, hz]; simp, List.getElem?_eq_getElem (by rw [Array.length_toList, ← hz]; omega)]
        rfl
      clear hc hd hm
      have k1 : (40 : Int) ≤ (s.size : Int) := by omega
      have k2 : (s.size : Int) ≤ 96 := by omega
      by_cases h3 : 128 ≤ c
      · rw [decide_eq_true h3, Bool.true_and]
        have k3 : (128 : Int) ≤ (c : Int) := by omega
        have h4 : d % 2 = 0 ∨ d % 2 = 1 := by omega
        rcases h4 with h4 | h4
        · rw [h4]
          have k4 : (d : Int) % 2 = 0 := by omega
          clear h4 h3 hl
          go_enter Tryz.func49, Tryz.ntmps49
          go_wp2
          go_ret
          exact ⟨rfl, rfl⟩
        · rw [h4]
          have k4 : (d : Int) % 2 = 1 := by omega
          clear h4 h3 hl
          go_enter Tryz.func49, Tryz.ntmps49
          go_wp2
          go_ret
          exact ⟨rfl, rfl⟩
      · rw [decide_eq_false h3, Bool.false_and]
        have k3 : ¬ (128 : Int) ≤ (c : Int) := by omega
        clear h3 hl
        go_enter Tryz.func49, Tryz.ntmps49
        go_wp2
        go_ret
        exact ⟨rfl, rfl⟩
    · have hm : isModB s = false := by unfold isModB; rw [decide_eq_false h2]; simp
      rw [hm]
      have k1 : (40 : Int) ≤ (s.size : Int) := by omega
      have k2 : ¬ (s.size : Int) ≤ 96 := by omega
      clear hm
      go_enter Tryz.func49, Tryz.ntmps49
      go_wp2
      go_ret
      exact ⟨rfl, rfl⟩
  · have hm : isModB s = false := by unfold isModB; rw [decide_eq_false h1]; simp
    rw [hm]
    have k1 : ¬ (40 : Int) ≤ (s.size : Int) := by omega
    clear hm
    go_enter Tryz.func49, Tryz.ntmps49
    go_wp2
    go_ret
    exact ⟨rfl, rfl⟩
end Go.Proofs.YtckkhpegimkefaaGreatDoor
namespace Go.Proofs.YtckkhpegimkefaaGreatDoor
open Go.RowKit Go.Shelf
set_option linter.unusedVariables false

theorem valN_odd : ∀ l : List UInt8, valN l % 2 = (l.getLastD 0).toNat % 2
  | [] => rfl
  | [b] => by rw [valN_consN]; simp [valN]
  | b :: c :: l => by
    have ih := valN_odd (c :: l)
    rw [valN_consN, show (b :: c :: l).getLastD 0 = (c :: l).getLastD 0 by simp [List.getLastD], ← ih, List.length_cons, Nat.pow_succ]
    generalize valN (c :: l) = v
    rw [show b.toNat * (256 ^ l.length * 256) + v = v + 2 * (b.toNat * (256 ^ l.length * 128)) by grind, Nat.add_mul_mod_self_left]
theorem isMod_of {s : ByteArray} (h : isModB s = true) : IsMod s := by
  unfold isModB at h
  simp only [Bool.and_eq_true, decide_eq_true_eq] at h
  obtain ⟨⟨⟨h1, h2⟩, h3⟩, h4⟩ := h
  have ho := valN_odd s.data.toList
  rw [h4] at ho
  refine ⟨h1, h2, ?_, ho⟩
  have hz : s.size = s.data.toList.length := by simp
  rw [hz] at h1 ⊢
  generalize s.data.toList = l at *
  cases l with
  | nil => simp at h1
  | cons b t =>
    rw [valN_consN] at ho ⊢
    rw [List.length_cons] at *
    have hb : 128 ≤ b.toNat := h3
    have hp : 2 ^ (8 * (t.length + 1) - 1) = 128 * 256 ^ t.length := by
      rw [show (8 * (t.length + 1) - 1) = 7 + 8 * t.length by omega, Nat.pow_add, Nat.pow_mul]
    have he : 128 * 256 ^ t.length % 2 = 0 := by omega
    have hm : 128 * 256 ^ t.length ≤ b.toNat * 256 ^ t.length := Nat.mul_le_mul_right _ hb
    rw [hp]
    omega
end Go.Proofs.YtckkhpegimkefaaGreatDoor
