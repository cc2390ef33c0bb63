/- power of the program. -/
import Derived.Test.YtckkhpegimkefaaM19
import Derived.Deep.RegionHeld3
import Derived.WalkSmall
namespace Go.Proofs.Ytckkhpegimkefaa
open Go.RowKit Go.Shelf
set_option linter.unusedVariables false

theorem pow_step0 (x d i : Nat) (h : d / 2 ^ i % 2 = 0) : x ^ (d / 2 ^ i) = x ^ (d / 2 ^ (i + 1)) * x ^ (d / 2 ^ (i + 1)) := by
  have : d / 2 ^ (i + 1) = d / 2 ^ i / 2 := by rw [Nat.pow_succ, Nat.div_div_eq_div_mul]
  rw [← Nat.pow_add]
  congr 1
  omega
theorem pow_step1 (x d i : Nat) (h : d / 2 ^ i % 2 = 1) : x ^ (d / 2 ^ i) = x ^ (d / 2 ^ (i + 1)) * x ^ (d / 2 ^ (i + 1)) * x := by
  have : d / 2 ^ (i + 1) = d / 2 ^ i / 2 := by rw [Nat.pow_succ, Nat.div_div_eq_div_mul]
  rw [← Nat.pow_add, ← Nat.pow_succ]
  congr 1
  omega
theorem and_bit (y r : Nat) (bt : Int) (hy : y < B64) (h : ((y / 2 ^ r % 2 : Nat) : Int) = bt) : bits .and .u64 ((y : Int) / 2 ^ r) 1 = bt := by
  have e : ((y : Int) / 2 ^ r) = ((y / 2 ^ r : Nat) : Int) := by simp
  have hle : y / 2 ^ r ≤ y := Nat.div_le_self _ _
  have hy' : y < 18446744073709551616 := hy
  generalize y / 2 ^ r = z at *
  rw [e, and_one_u64 _ (Int.natCast_nonneg _) (by omega), ← h]
  rfl
/-- what power has laid, and what it reads -/
structure KeptP (w : World) (gm om mc gs os sc inv n gd od : Nat) (ms sq ds on : List Nat) (wr : World) : Prop where
  box : BoxAt wr w.heap.size gm om n mc inv (some ⟨gs, os, none⟩) n sc
  one : NumAt wr (w.heap.size + 1) 0 on
  num : NumAt wr gm om ms
  sqr : NumAt wr gs os sq
  exp : NumAt wr gd od ds
  bel : Below w.heap.size w wr
theorem KeptP.below {w : World} {gm om mc gs os sc inv n gd od : Nat} {ms sq ds on : List Nat} {wr w' : World} (h : KeptP w gm om mc gs os sc inv n gd od ms sq ds on wr) (hb : Below wr.heap.size wr w') : KeptP w gm om mc gs os sc inv n gd od ms sq ds on w' :=
  ⟨h.box.below hb, h.one.below hb, h.num.below hb, h.sqr.below hb, h.exp.below hb, h.bel.trans (hb.mono h.bel.size)⟩
theorem KeptP.drew {w : World} {gm om mc gs os sc inv n gd od : Nat} {ms sq ds on : List Nat} {wr : World} (h : KeptP w gm om mc gs os sc inv n gd od ms sq ds on wr) : KeptP w gm om mc gs os sc inv n gd od ms sq ds on wr.drew :=
  h.below (Below.refl _ _).drew
theorem times_at {w : World} {gm om mc gs os sc inv n gd od m0 : Nat} {ms sq ds on : List Nat} {wr : World} (h : KeptP w gm om mc gs os sc inv n gd od ms sq ds on wr) (hm : ModOK ms sq m0 inv n)
    (xs ys : List Nat) (gx ox xc gy oy yc : Nat) (hX : NumAt wr gx ox xs) (hY : NumAt wr gy oy ys) (hx : okW xs) (hy : okW ys) (hxl : xs.length = n) (hyl : ys.length = n) (hxm : natW xs < natW ms) :
    Calls Try.prog 66 #[.agg #[.slice (some ⟨gm, om, none⟩) n mc, .int .u64 (inv : Nat), .slice (some ⟨gs, os, none⟩) n sc], .slice (some ⟨gx, ox, none⟩) n xc, .slice (some ⟨gy, oy, none⟩) n yc] wr fun e w' => ∃ zg zo zc zs, e = .returned (.slice (some ⟨zg, zo, none⟩) n zc) ∧ NumAt w' zg zo zs ∧ zs.length = n ∧ okW zs ∧ natW zs = natW xs * natW ys * unTwo (natW ms) (64 * n) % natW ms ∧ Below wr.heap.size wr w' ∧ KeptP w gm om mc gs os sc inv n gd od ms sq ds on w' :=
  (times_val hm xs ys gx ox xc gy oy yc gm om mc (some ⟨gs, os, none⟩) n sc wr hX hY h.num hx hy hxl hyl hxm).mono fun _ _ ⟨zg, zo, zc, zs, h0, h1, h2, h3, h4, h5⟩ => ⟨zg, zo, zc, zs, h0, h1, h2, h3, h4, h5, h.below h5⟩

theorem times_from {w : World} {gm om mc gs os sc inv n gd od m0 : Nat} {ms sq ds on : List Nat} {W w2 : World} (h : KeptP w gm om mc gs os sc inv n gd od ms sq ds on W) (hm : ModOK ms sq m0 inv n)
    (xs ys : List Nat) (gx ox xc gy oy yc : Nat) (hX : NumAt W gx ox xs) (hY : NumAt W gy oy ys) (hx : okW xs) (hy : okW ys) (hxl : xs.length = n) (hyl : ys.length = n) (hxm : natW xs < natW ms) (hb : Below W.heap.size W w2) :
    Calls Try.prog 66 #[.agg #[.slice (some ⟨gm, om, none⟩) n mc, .int .u64 (inv : Nat), .slice (some ⟨gs, os, none⟩) n sc], .slice (some ⟨gx, ox, none⟩) n xc, .slice (some ⟨gy, oy, none⟩) n yc] w2 fun e w' => ∃ zg zo zc zs, e = .returned (.slice (some ⟨zg, zo, none⟩) n zc) ∧ NumAt w' zg zo zs ∧ zs.length = n ∧ okW zs ∧ natW zs = natW xs * natW ys * unTwo (natW ms) (64 * n) % natW ms ∧ Below w2.heap.size w2 w' ∧ Below W.heap.size W w' ∧ KeptP w gm om mc gs os sc inv n gd od ms sq ds on w' :=
  (times_at (h.below hb) hm xs ys gx ox xc gy oy yc (hX.below hb) (hY.below hb) hx hy hxl hyl hxm).mono fun _ _ ⟨zg, zo, zc, zs, h0, h1, h2, h3, h4, h5, h6⟩ => ⟨zg, zo, zc, zs, h0, h1, h2, h3, h4, h5, hb.trans (h5.mono hb.size), h6⟩

set_option maxHeartbeats 2000000 in
set_option maxRecDepth 100000 in
theorem power_any {ms sq : List Nat} {m0 inv n : Nat} (hm : ModOK ms sq m0 inv n) (xs ds : List Nat) (gx ox xc gd od dc gm om mc gs os sc : Nat) (w : World)
    (hX : NumAt w gx ox xs) (hD : NumAt w gd od ds) (hM : NumAt w gm om ms) (hS : NumAt w gs os sq) (hx : okW xs) (hd : okW ds) (hxl : xs.length = n) (hdl : (ds.length : Int) ≤ 100) (hxm : natW xs < natW ms) :
    Calls Try.prog 36 #[.agg #[.slice (some ⟨gm, om, none⟩) n mc, .int .u64 (inv : Nat), .slice (some ⟨gs, os, none⟩) n sc], .slice (some ⟨gx, ox, none⟩) n xc, .slice (some ⟨gd, od, none⟩) ds.length dc] w fun e w' => ∃ zg zo zc zs, e = .returned (.slice (some ⟨zg, zo, none⟩) n zc) ∧ NumAt w' zg zo zs ∧ zs.length = n ∧ okW zs ∧ natW zs = natW xs ^ natW ds % natW ms ∧ Below w.heap.size w w' := by
  obtain ⟨i0, hi, hz0, hz1, hz2⟩ := info_partsN infoU64
  have hn4 : (4 : Int) ≤ (n : Int) := by have := hm.n4; omega
  have hn12 : (n : Int) ≤ 12 := by have := hm.n12; omega
  have HM := hide hm; have HX := hide hX; have HD := hide hD; have HMM := hide hM; have HS := hide hS; have Hx := hide hx; have Hd := hide hd; have HXL := hide hxl; have HXM := hide hxm
  clear hm hX hD hM hS hx hd hxl hxm
  go_enter Try.func36, Try.ntmps36
  go_wp2_with (at_make; refine wpList_make_full _ rfl _ _ 41 rfl (w.heap.size + 1) 39 i0 (.int .u64 0) 1 Try.underlying41 hi hz0 hz1 .i64 .i64 _ _ n rfl rfl rfl rfl (by rw [hz2]; omega) (by unfold maxLen; omega) (by simp) ?_)
  intro w1 hown hgrow
  obtain ⟨hBX, hU, hbel⟩ := box_made hown hgrow
  clear hown hgrow hi hz0 hz1 hz2
  have c0 := hU.cell 0 0 (by rw [List.getElem?_replicate, if_pos (by omega)])
  have f0 := hU.frozen 0
  have hset := hU.set 0 1
  have hon : Only (w.heap.size + 1) w1 (w1.setCell ⟨w.heap.size + 1, 0, none⟩ (.int .u64 ((1 : Nat) : Int))) := (Only.refl _ _).setCell _ _
  have hsw : w.heap.size + 1 ≤ w1.heap.size := by have := hU.lt; omega
  have hkp : KeptP w gm om mc gs os sc inv n gd od ms sq ds ((List.replicate n 0).set 0 1) (w1.setCell ⟨w.heap.size + 1, 0, none⟩ (.int .u64 ((1 : Nat) : Int))) := by
    have k1 := (unhide HMM).1; have k2 := (unhide HS).1; have k3 := (unhide HD).1
    exact ⟨hBX.only hon (by omega), hset.numAt 0, ((unhide HMM).below hbel).only hon (by omega), ((unhide HS).below hbel).only hon (by omega), ((unhide HD).below hbel).only hon (by omega), hbel.trans (hon.below (by omega))⟩
  have hX2 : NumAt (w1.setCell ⟨w.heap.size + 1, 0, none⟩ (.int .u64 ((1 : Nat) : Int))) gx ox xs := ((unhide HX).below hbel).only hon (by have := (unhide HX).1; omega)
  have HK := hide hkp
  have HX2 := hide hX2
  have HON := hide (one_bit n 0 0 0 (by omega) (by omega))
  have HOL := hide (show ((List.replicate n 0).set 0 1).length = n by simp)
  have HOO := hide (okW_set (okW_zeros n) 0 1 (by decide))
  rw [Nat.pow_zero] at HON
  generalize (List.replicate n 0).set 0 1 = on at *
  clear hBX hU hbel hset hon hkp hX2
  go_wp2_with fail
  obtain ⟨W, hW⟩ : ∃ W, W = w1.setCell ⟨w.heap.size + 1, 0, none⟩ (.int .u64 ((1 : Nat) : Int)) := ⟨_, rfl⟩
  have hW' : w1.setCell ⟨w.heap.size + 1, 0, none⟩ (.int .u64 1) = W := hW.symm
  rw [hW']
  rw [← hW] at HK HX2
  clear hW hW' c0 f0 hsw
  have TA := hide (fun w2 (hb : Below W.heap.size W w2) => times_from (unhide HK) (unhide HM) xs sq gx ox xc gs os sc (unhide HX2) (unhide HK).sqr (unhide Hx) (unhide HM).os (unhide HXL) (unhide HM).ls (unhide HXM) hb)
  have TB := hide (fun w2 (hb : Below W.heap.size W w2) => times_from (unhide HK) (unhide HM) on sq (w.heap.size + 1) 0 n gs os sc (unhide HK).one (unhide HK).sqr (unhide HOO) (unhide HM).os (unhide HOL) (unhide HM).ls (by rw [unhide HON]; have := (unhide HM).big; omega) hb)
  have b0 := (unhide HK).box.cell0
  have b1 := (unhide HK).box.cell1
  have b2 := (unhide HK).box.cell2
  go_cut [8, 9] (fun bv ov wx => ∃ bg bo bc og oo oc bs zs, bv = .slice (some ⟨bg, bo, none⟩) n bc ∧ ov = .slice (some ⟨og, oo, none⟩) n oc ∧ NumAt wx bg bo bs ∧ NumAt wx og oo zs ∧ bs.length = n ∧ zs.length = n ∧ okW bs ∧ okW zs ∧ natW bs = natW xs * natW sq * unTwo (natW ms) (64 * n) % natW ms ∧ natW zs = natW on * natW sq * unTwo (natW ms) (64 * n) % natW ms ∧ KeptP w gm om mc gs os sc inv n gd od ms sq ds on wx)
  case first =>
    clear HX2 HX HD HMM HS Hx Hd HXL HXM HK HOO HOL HON HM
    go_region_held3 (fun w' => w'.cell? ⟨w.heap.size, 0, none⟩ = some (.slice (some ⟨gm, om, none⟩) n mc) ∧ w'.cell? ⟨w.heap.size, 1, none⟩ = some (.int .u64 (inv : Nat)) ∧ w'.cell? ⟨w.heap.size, 2, none⟩ = some (.slice (some ⟨gs, os, none⟩) n sc))
      (first
        | (have hq := k7; exact ⟨k7.box.cell0, k7.box.cell1, k7.box.cell2⟩)
        | (have hq := h7; exact ⟨h7.box.cell0, h7.box.cell1, h7.box.cell2⟩)
        | exact ⟨b0, b1, b2⟩
        | go_keep)
      ((first
        | (go_at_call 66; rename Below W.heap.size W _ => hq; refine (unhide TB _ hq).mono ?_; rintro e y2 ⟨og, oo, oc, os', rfl, k1, k2, k3, k4, k5, k6, k7⟩)
        | (go_at_call 66; refine (unhide TA _ (Below.refl _ _).drew).mono ?_; rintro e y1 ⟨zg, zo, zc, zs, rfl, h1, h2, h3, h4, h5, h6, h7⟩)))
    all_goals
      go_wp2_with fail
      go_meet
      exact ⟨zg, zo, zc, og, oo, oc, zs, os', rfl, rfl, h1.below k5, k1, h2, k2, h3, k3, h4, k4, k7⟩
  case rest =>
    obtain ⟨bg, bo, bc, og, oo, oc, bs, zs, rfl, rfl, hb1, hz1, hbl, hzl, hbo, hzo, hbn, hzn, hk⟩ := hcut
    have hMg := unhide HM
    have hRi := unTwo_mul (natW ms) (64 * n) hMg.odd
    rw [← B64_two] at hRi
    rw [hMg.hsq, mont_in _ _ _ _ hRi] at hbn
    rw [hMg.hsq, mont_in _ _ _ _ hRi, unhide HON] at hzn
    have N1 := hide (length_any ds gd od dc wc hk.exp (unhide Hd) (by omega))
    have HB1 := hide hb1; have HZ1 := hide hz1; have HBL := hide hbl; have HZL := hide hzl; have HBO := hide hbo; have HZO := hide hzo; have HBN := hide hbn; have HZN := hide hzn; have HKK := hide hk; have HRI := hide hRi
    clear hb1 hz1 hbl hzl hbo hzo hbn hzn hk hRi hMg b0 b1 b2 TA TB HK HX2
    go_wp2_with fail
    refine (unhide N1).mono ?_
    rintro e w3 ⟨L, rfl, hL, hLb, rfl⟩
    have HL := hide hL
    have hLi : (L : Int) ≤ 6400 := by omega
    have HLB := hide hLb
    clear N1 hL hLb
    go_wp2_with fail
    go_loopw [9, 32] (fun o i wr => ∃ (k zg zo zc : Nat) (zs : List Nat), k ≤ L ∧ i = .int .i64 k ∧ o = .slice (some ⟨zg, zo, none⟩) n zc ∧ NumAt wr zg zo zs ∧ zs.length = n ∧ okW zs ∧ natW zs = natW xs ^ (natW ds / 2 ^ (L - k)) * B64 ^ n % natW ms ∧ NumAt wr bg bo bs ∧ KeptP w gm om mc gs os sc inv n gd od ms sq ds on wr) (fun _ i _ => L - (intOf i).toNat)
    case atStart => exact ⟨0, og, oo, oc, zs, Nat.zero_le _, rfl, rfl, unhide HZ1, unhide HZL, unhide HZO, by rw [Nat.sub_zero, Nat.div_eq_of_lt (unhide HL).1, Nat.pow_zero]; exact unhide HZN, unhide HB1, unhide HKK⟩
    case round =>
      clear HZ1 HZL HZO HZN HB1 HKK
      obtain ⟨k, zg, zo, zc, zs, hk, rfl, rfl, hz, hzl, hzo, hzn, hb, hkp⟩ := hrel
      have hMg := unhide HM
      have hMpos : 0 < natW ms := by have := hMg.big; omega
      have hzlt : natW zs < natW ms := by rw [hzn]; exact Nat.mod_lt _ hMpos
      have b0 := hkp.box.cell0
      have b1 := hkp.box.cell1
      have b2 := hkp.box.cell2
      by_cases hlt : k < L
      · obtain ⟨i, hi⟩ : ∃ i, i = L - 1 - k := ⟨_, rfl⟩
        obtain ⟨q, hq⟩ : ∃ q, q = i / 64 := ⟨_, rfl⟩
        obtain ⟨r, hr⟩ : ∃ r, r = i % 64 := ⟨_, rfl⟩
        have hLB := unhide HLB
        have hqd : q < ds.length := by omega
        obtain ⟨y, hy⟩ : ∃ y, ds[q]? = some y := ⟨ds[q]'hqd, List.getElem?_eq_getElem hqd⟩
        have hyb := okW_get (unhide Hd) hy
        have hbit := natW_bit (unhide Hd) (i := i) (q := q) (r := r) (by omega) (by omega) hy
        have hiL : L - k = i + 1 := by omega
        have hiL' : L - (k + 1) = i := by omega
        rw [hiL] at hzn
        have hii : (L : Int) - 1 - (k : Int) = (i : Int) := by omega
        have hqi : (i : Int) / 64 = (q : Int) := by omega
        have hri : (i : Int) % 64 = (r : Int) := by omega
        have hr64 : (r : Int) < 64 := by omega
        have hib : (i : Int) < 6400 := by omega
        have hqb : (q : Int) < (ds.length : Int) := by omega
        have T1 := times_at hkp hMg zs zs zg zo zc zg zo zc hz hz hzo hzo hzl hzl hzlt
        rw [mont_mul _ _ _ _ _ _ _ (unhide HRI) hzn hzn] at T1
        have HT1 := hide T1
        have HBW := hide hb; have HBIT := hide hbit; have HY := hide hy; have HIL := hide hiL'
        have hki : (k : Int) < (L : Int) := by omega
        clear T1 hz hzl hzo hzn hzlt hMpos hkp hb hbit hy hi hq hr hLB hqd hiL hiL' hMg hk
        go_wp2_with fail
        refine (unhide HT1).mono ?_
        rintro e y1 ⟨zg1, zo1, zc1, zs1, rfl, g1, g2, g3, g4, g5, g6⟩
        have HB2 := hide ((unhide HBW).below g5)
        have cy : y1.cell? ⟨gd, od + q, none⟩ = some (.int .u64 (y : Nat)) := g6.exp.2 q y (unhide HY)
        have d0 := g6.box.cell0
        have d1 := g6.box.cell1
        have d2 := g6.box.cell2
        have G1 := hide g1; have G2 := hide g2; have G3 := hide g3; have G4 := hide g4; have G6 := hide g6
        clear HT1 g1 g2 g3 g4 g5 g6 b0 b1 b2 HBW
        have h2 : y / 2 ^ r % 2 = 0 ∨ y / 2 ^ r % 2 = 1 := by omega
        rcases h2 with h2 | h2
        · have hq1 := and_bit y r 0 hyb (by rw [h2]; rfl)
          have HF := hide (show natW zs1 = natW xs ^ (natW ds / 2 ^ (L - (k + 1))) * B64 ^ n % natW ms by
            rw [unhide HIL, pow_step0 _ _ _ ((unhide HBIT).trans h2)]; exact unhide G4)
          clear h2 G4
          go_wp2
          go_roundw
          case rel => exact ⟨k + 1, zg1, zo1, zc1, zs1, hlt, by go_num, rfl, unhide G1, unhide G2, unhide G3, unhide HF, unhide HB2, unhide G6⟩
          case measure => simp [intOf]; omega
        · have hq1 := and_bit y r 1 hyb (by rw [h2]; rfl)
          have hMpos : 0 < natW ms := by have := (unhide HM).big; omega
          have T2 := times_at (unhide G6) (unhide HM) zs1 bs zg1 zo1 zc1 bg bo bc (unhide G1) (unhide HB2) (unhide G3) (unhide HBO) (unhide G2) (unhide HBL) (by rw [unhide G4]; exact Nat.mod_lt _ hMpos)
          rw [mont_mul _ _ _ _ _ _ _ (unhide HRI) (unhide G4) (unhide HBN), ← pow_step1 _ _ _ ((unhide HBIT).trans h2), ← unhide HIL] at T2
          have HT2 := hide T2
          clear T2 h2 hMpos
          go_wp2_with fail
          refine (unhide HT2).mono ?_
          rintro e y2 ⟨zg2, zo2, zc2, zs2, rfl, j1, j2, j3, j4, j5, j6⟩
          have J1 := hide j1; have J2 := hide j2; have J3 := hide j3; have J4 := hide j4; have J6 := hide j6
          have HB3 := hide ((unhide HB2).below j5)
          clear HT2 j1 j2 j3 j4 j5 j6 d0 d1 d2 cy
          go_wp2
          go_roundw
          case rel => exact ⟨k + 1, zg2, zo2, zc2, zs2, hlt, by go_num, rfl, unhide J1, unhide J2, unhide J3, unhide J4, unhide HB3, unhide J6⟩
          case measure => simp [intOf]; omega
      · have hkl : k = L := by omega
        subst hkl
        have hfin := mont_out (natW zs) _ (B64 ^ n) _ _ (unhide HRI) hzn
        rw [Nat.sub_self, Nat.pow_zero, Nat.div_one] at hfin
        have T3 := times_at hkp hMg zs on zg zo zc (w.heap.size + 1) 0 n hz hkp.one hzo (unhide HOO) hzl (unhide HOL) hzlt
        rw [unhide HON, hfin] at T3
        have HT3 := hide T3
        clear T3 hfin hz hzl hzo hzn hzlt hMpos hkp hMg hb hk
        go_wp2_with fail
        refine (unhide HT3).mono ?_
        rintro e y2 ⟨zg2, zo2, zc2, zs2, rfl, j1, j2, j3, j4, j5, j6⟩
        have J1 := hide j1; have J2 := hide j2; have J3 := hide j3; have J4 := hide j4; have J6 := hide j6
        clear HT3 j1 j2 j3 j4 j5 j6 b0 b1 b2
        go_wp2
        refine bodyPost_ret (v := .slice (some ⟨zg2, zo2, none⟩) n zc2) (by simp [results, Try.results36, go_sem]) rfl ?_
        exact ⟨zg2, zo2, zc2, zs2, rfl, unhide J1, unhide J2, unhide J3, unhide J4, (unhide J6).bel⟩
end Go.Proofs.Ytckkhpegimkefaa
namespace Go.Proofs.Ytckkhpegimkefaa
open Go.RowKit Go.Shelf
set_option linter.unusedVariables false

/-- is it a modulus? -/
def isModB (s : ByteArray) : Bool := decide (40 ≤ s.size) && decide (s.size ≤ 96) && decide (128 ≤ (s.data.toList.headD 0).toNat) && decide ((s.data.toList.getLastD 0).toNat % 2 = 1)

set_option maxHeartbeats 1000000 in
set_option maxRecDepth 100000 in
theorem isModulus_any (s : ByteArray) (w : World) :
    Calls Try.prog 34 #[.string s] w fun e w' => e = .returned (.bool (isModB s)) ∧ w' = w := by
  by_cases h1 : 40 ≤ s.size
  · by_cases h2 : s.size ≤ 96
    · obtain ⟨c, hc⟩ : ∃ c : Nat, c = (s.data.toList.headD 0).toNat := ⟨_, rfl⟩
      obtain ⟨d, hd⟩ : ∃ d : Nat, d = (s.data.toList.getLastD 0).toNat := ⟨_, rfl⟩
      have hm : isModB s = (decide (128 ≤ c) && decide (d % 2 = 1)) := by
        unfold isModB
        rw [← hc, ← hd, decide_eq_true h1, decide_eq_true h2]
        simp
      rw [hm]
      have hcb : c < 256 := by rw [hc]; exact UInt8.toNat_lt _
      have hdb : d < 256 := by rw [hd]; exact UInt8.toNat_lt _
      obtain ⟨l, hl⟩ : ∃ l, l = s.size - 1 := ⟨_, rfl⟩
      have hli : (s.size : Int) - 1 = (l : Int) := by omega
      have hls : l < s.size := by omega
      have x0 : ∀ h, ((s[0]'h).toNat : Int) = (c : Int) := by
        intro h
        rw [hc]
        congr 2
        have hne : s.data.toList = s[0] :: s.data.toList.tail := by
          have : s.data.toList ≠ [] := by
            intro hh
            have hz : s.size = s.data.toList.length := by simp
            rw [hh, List.length_nil] at hz
            omega
          cases hh : s.data.toList with
          | nil => exact absurd hh this
          | cons a t =>
            have : s[0] = a := by
              show s.data[0] = a
              rw [← Array.getElem_toList]
              simp [hh]
            rw [this]; rfl
        rw [hne]; rfl
      have x1 : ∀ h, ((s[l]'h).toNat : Int) = (d : Int) := by
        intro h
        rw [hd]
        congr 2
        show s.data[l] = _
        rw [List.getLastD_eq_getLast?, List.getLast?_eq_getElem?, ← Array.getElem_toList]
        have hz : s.size = s.data.size := rfl
        rw [show s.data.toList.length - 1 = l by rw [hl, hz]; simp, List.getElem?_eq_getElem (by rw [Array.length_toList, ← hz]; omega)]
        rfl
      clear hc hd hm
      have k1 : (40 : Int) ≤ (s.size : Int) := by omega
      have k2 : (s.size : Int) ≤ 96 := by omega
      by_cases h3 : 128 ≤ c
      · rw [decide_eq_true h3, Bool.true_and]
        have k3 : (128 : Int) ≤ (c : Int) := by omega
        have h4 : d % 2 = 0 ∨ d % 2 = 1 := by omega
        rcases h4 with h4 | h4
        · rw [h4]
          have k4 : (d : Int) % 2 = 0 := by omega
          clear h4 h3 hl
          go_enter Try.func34, Try.ntmps34
          go_wp2
          go_ret
          exact ⟨rfl, rfl⟩
        · rw [h4]
          have k4 : (d : Int) % 2 = 1 := by omega
          clear h4 h3 hl
          go_enter Try.func34, Try.ntmps34
          go_wp2
          go_ret
          exact ⟨rfl, rfl⟩
      · rw [decide_eq_false h3, Bool.false_and]
        have k3 : ¬ (128 : Int) ≤ (c : Int) := by omega
        clear h3 hl
        go_enter Try.func34, Try.ntmps34
        go_wp2
        go_ret
        exact ⟨rfl, rfl⟩
    · have hm : isModB s = false := by unfold isModB; rw [decide_eq_false h2]; simp
      rw [hm]
      have k1 : (40 : Int) ≤ (s.size : Int) := by omega
      have k2 : ¬ (s.size : Int) ≤ 96 := by omega
      clear hm
      go_enter Try.func34, Try.ntmps34
      go_wp2
      go_ret
      exact ⟨rfl, rfl⟩
  · have hm : isModB s = false := by unfold isModB; rw [decide_eq_false h1]; simp
    rw [hm]
    have k1 : ¬ (40 : Int) ≤ (s.size : Int) := by omega
    clear hm
    go_enter Try.func34, Try.ntmps34
    go_wp2
    go_ret
    exact ⟨rfl, rfl⟩
end Go.Proofs.Ytckkhpegimkefaa
