/- open of the program: a secret's modulus and D. -/
import Derived.Test.YtckkhpegimkefaaGreatDoorM35
import Derived.Deep.RegionHeld3
import Derived.Deep.DeepCutAuto
import Derived.Test.YtckkhpegimkefaaGreatDoorM32
import Derived.Test.YtckkhpegimkefaaGreatDoorM29
namespace Go.Proofs.YtckkhpegimkefaaGreatDoor
open Go.RowKit Go.Shelf
set_option linter.unusedVariables false
set_option linter.unusedSimpArgs false
set_option maxRecDepth 100000

def noneO (k : Int) : Ending := .returned (.tuple #[.string ⟨#[]⟩, .slice none 0 0, .int .i64 k])
/-- what comes of a secret: of its two numbers a and b -/
inductive OpenPost (a b : Nat) (f : Bool) (w : World) (e : Ending) (w' : World) : Prop where
  | form (hf : f = false) (he : e = noneO 1) : OpenPost a b f w e w'
  | mod (L : Nat) (hf : f = true) (hL : IsLenW (a * b) L) (hm : isModB (strOfNums (bigL (a * b) ((L + 7) / 8))) = false) (he : e = noneO 1) : OpenPost a b f w e w'
  | third (L : Nat) (hf : f = true) (hL : IsLenW (a * b) L) (hm : isModB (strOfNums (bigL (a * b) ((L + 7) / 8))) = true) (h3 : (a - 1) * (b - 1) % 3 = 0) (he : e = noneO 5) : OpenPost a b f w e w'
  | ok (L g : Nat) (row : List Nat) (hf : f = true) (hL : IsLenW (a * b) L) (hm : isModB (strOfNums (bigL (a * b) ((L + 7) / 8))) = true) (h3 : (a - 1) * (b - 1) % 3 ≠ 0)
      (he : e = .returned (.tuple #[.string (strOfNums (bigL (a * b) ((L + 7) / 8))), .slice (some ⟨g, 0, none⟩) row.length row.length, .int .i64 0])) (hU : URow w' g row) (ho : okW row) (hg : w.heap.size ≤ g)
      (hn : natW row = (1 + (3 - (a - 1) * (b - 1) % 3) * ((a - 1) * (b - 1))) / 3) (hlr : row.length ≤ 100) : OpenPost a b f w e w'
theorem len_room {L l : Nat} (h : L ≤ 64 * l) : (L + 7) / 8 ≤ 8 * l := by omega
set_option maxHeartbeats 4000000 in
theorem open_any (p q : ByteArray) (w : World) :
    Calls Tryz.prog 24 #[.agg #[.string p, .string q]] w fun e w' => OpenPost (valN p.data.toList) (valN q.data.toList) (isFacB p && isFacB q) w e w' ∧ Below w.heap.size w w' := by
  obtain ⟨W1, hW1⟩ : ∃ W1, W1 = w.alloc (.cells #[.string p, .string q] 34) := ⟨_, rfl⟩
  have hB1 : Below w.heap.size w W1 := by rw [hW1]; exact (Below.refl _ _).alloc (Nat.le_refl _) _
  have hX1 : W1.heap[w.heap.size]? = some (.cells #[.string p, .string q] 34 (0, 0)) := by rw [hW1]; exact heap_alloc_new _ _
  have hl1 : w.heap.size < W1.heap.size := by rw [hW1]; simp
  have hc : ∀ W, Below W1.heap.size W1 W → W.cell? ⟨w.heap.size, 0, none⟩ = some (.string p) ∧ W.cell? ⟨w.heap.size, 1, none⟩ = some (.string q) := fun W hb => by
    have hx := (hb.block _ hl1).trans hX1
    exact ⟨cell_of_row _ _ 0 _ _ _ hx, cell_of_row _ _ 1 _ _ _ hx⟩
  have NP := hide (fun W => isFactor_any p W)
  have NQ := hide (fun W => isFactor_any q W)
  have HZ : Hid (isFacB p = true → 1 ≤ p.size ∧ p.size ≤ 96) := hide (fun h => by
    unfold isFacB at h
    simp only [Bool.and_eq_true, decide_eq_true_eq] at h
    exact h.1)
  have HZQ : Hid (isFacB q = true → 1 ≤ q.size ∧ q.size ≤ 96) := hide (fun h => by
    unfold isFacB at h
    simp only [Bool.and_eq_true, decide_eq_true_eq] at h
    exact h.1)
  have HC := hide hc; have HB1 := hide hB1; have HW1 := hide hW1
  obtain ⟨c0, c1⟩ := hc W1 (Below.refl _ _)
  clear hc hB1 hX1 hW1 hl1
  cases hfp : isFacB p with
  | false =>
    rw [hfp] at NP
    clear HZ HZQ
    go_enter Tryz.func24, Tryz.ntmps24
    go_upto_region 1 with fail
    rw [← unhide HW1]
    go_wp2_with fail
    refine (unhide NP _).mono ?_
    rintro e y ⟨rfl, hy⟩
    have hy' := hy.symm
    subst hy'
    go_wp2
    exact bodyPost_ret (v := .tuple #[.string ⟨#[]⟩, .slice none 0 0, .int .i64 1]) (by simp [results, Tryz.results24, go_sem]) rfl ⟨.form rfl rfl, unhide HB1⟩
  | true =>
  cases hfq : isFacB q with
  | false =>
    rw [hfp] at NP
    rw [hfq] at NQ
    clear HZ HZQ
    go_enter Tryz.func24, Tryz.ntmps24
    go_upto_region 1 with fail
    rw [← unhide HW1]
    go_wp2_with fail
    refine (unhide NP _).mono ?_
    rintro e y ⟨rfl, hy⟩
    have hy' := hy.symm
    subst hy'
    go_wp2_with fail
    refine (unhide NQ _).mono ?_
    rintro e y2 ⟨rfl, hy⟩
    have hy' := hy.symm
    subst hy'
    go_wp2
    exact bodyPost_ret (v := .tuple #[.string ⟨#[]⟩, .slice none 0 0, .int .i64 1]) (by simp [results, Tryz.results24, go_sem]) rfl ⟨.form rfl rfl, unhide HB1⟩
  | true =>
  obtain ⟨zp1, zp2⟩ := unhide HZ hfp
  obtain ⟨zq1, zq2⟩ := unhide HZQ hfq
  rw [hfp] at NP
  rw [hfq] at NQ
  have RP := hide (fun W => cread_any p (by omega) W)
  have RQ := hide (fun W => cread_any q (by omega) W)
  generalize valN p.data.toList = a at *
  generalize valN q.data.toList = b at *
  have HZP := hide (And.intro zp1 (And.intro zp2 (And.intro zq1 zq2)))
  clear HZ HZQ hfp hfq zp1 zp2 zq1 zq2
  go_enter Tryz.func24, Tryz.ntmps24
  go_upto_region 1 with fail
  rw [← unhide HW1]
  go_wp2_with fail
  refine (unhide NP _).mono ?_
  rintro e y ⟨rfl, hy⟩
  have hy' := hy.symm
  subst hy'
  clear hy
  go_wp2_with fail
  refine (unhide NQ _).mono ?_
  rintro e y2 ⟨rfl, hy⟩
  have hy' := hy.symm
  subst hy'
  clear hy
  go_upto_region 3 with fail
  go_cut [5, 6] (fun u v wx => ∃ (g h : Nat) (r s : List Nat), u = .slice (some ⟨g, 0, none⟩) r.length r.length ∧ v = .slice (some ⟨h, 0, none⟩) s.length s.length ∧ URow wx g r ∧ URow wx h s ∧ g ≠ h ∧ w.heap.size ≤ g ∧ w.heap.size ≤ h ∧ r.length = (p.size + 7) / 8 ∧ s.length = (q.size + 7) / 8 ∧ okW r ∧ okW s ∧ natW r = a ∧ natW s = b ∧ Below w.heap.size w wx)
  case first =>
    have hS0 := unhide HC _ (Below.refl W1.heap.size W1).drew
    go_wp2_with fail
    go_region_held3 (fun W => W.cell? ⟨w.heap.size, 0, none⟩ = some (.string p) ∧ W.cell? ⟨w.heap.size, 1, none⟩ = some (.string q))
      (first | (with_reducible exact hS0) | (with_reducible exact unhide HC _ b2) | (with_reducible exact unhide HC _ b1) | exact hS0 | go_keep)
      ((first | (have hq := b1; go_at_call 45; refine (unhide RQ _).mono ?_; rintro e z2 ⟨row2, rfl, hU2, hl2, ho2, hn2, k2⟩; have HL2 := hide hl2; clear hl2; have b2 : Below W1.heap.size W1 z2 := b1.trans (k2.mono b1.size)) | (go_at_call 45; refine (unhide RP _).mono ?_; rintro e z1 ⟨row1, rfl, hU1, hl1, ho1, hn1, k1⟩; have HL1 := hide hl1; clear hl1; have b1 : Below W1.heap.size W1 z1 := (Below.refl _ _).drew.trans k1)))
    all_goals
      have hlt := hU1.lt
      have hs1 := k1.size
      have hw1 := (unhide HB1).size
      have hU12 := hU1.below k2
      have HF := hide (And.intro hU12 (And.intro hU2 ((unhide HB1).trans (b2.mono (unhide HB1).size))))
      go_wp2
      go_meet
      exact ⟨_, _, row1, row2, rfl, rfl, (unhide HF).1, (unhide HF).2.1, Nat.ne_of_lt hlt, hw1, Nat.le_trans hw1 b1.size, unhide HL1, unhide HL2, ho1, ho2, hn1, hn2, (unhide HF).2.2⟩
  case rest =>
  obtain ⟨g, h, r, s, rfl, rfl, hUr, hUs, hgh, hg, hh, hlr, hls, hor, hos, hnr, hns, hb⟩ := hcut
  obtain ⟨zp1, zp2, zq1, zq2⟩ := unhide HZP
  have hr1 : 1 ≤ r.length ∧ r.length ≤ 12 := by omega
  have hs1 : 1 ≤ s.length ∧ s.length ≤ 12 := by omega
  have hna : ∀ (W : World) (g : Nat) (r : List Nat), URow W g r → NumAt W g 0 r := fun W g r h => by have := h.numAt 0; rw [List.drop_zero] at this; exact this
  have PR := hide (product_any r s g 0 r.length h 0 s.length wc (hna _ _ _ hUr) (hna _ _ _ hUs) hor hos (by omega) (by omega))
  have HUr := hide hUr; have HUs := hide hUs; have HR := hide (And.intro hr1 (And.intro hs1 (And.intro hor (And.intro hos (And.intro hnr hns))))); have HBC := hide hb; have HGH := hide (And.intro hgh (And.intro hg hh)); have HNA := hide hna
  clear hUr hUs hlr hls hor hos hnr hns hb hgh hg hh zp1 zp2 zq1 zq2 hr1 hs1 hna c0 c1 NP NQ RP RQ HZP HW1
  go_wp2_with fail
  refine (unhide PR).mono ?_
  rintro e y1 ⟨row, rfl, hU3, hl3, ho3, hn3, k3⟩
  have LN := hide (length_any row wc.heap.size 0 row.length y1 (unhide HNA _ _ _ hU3) ho3 (by have := unhide HR; omega))
  have HU3 := hide hU3; have H3 := hide (And.intro hl3 (And.intro ho3 hn3)); have K3 := hide k3
  clear hU3 hl3 ho3 hn3 k3 PR
  go_wp2_with fail
  refine (unhide LN).mono ?_
  rintro e y2 ⟨L, rfl, hIL, hL64, hy⟩
  have hy' := hy.symm
  subst hy'
  clear hy
  have hL2 : L ≤ 1536 := by have := unhide HR; have := (unhide H3).1; omega
  obtain ⟨k, hk⟩ : ∃ k, k = (L + 7) / 8 := ⟨_, rfl⟩
  have e0 : wrap64 ((L : Int) + 7) = (L : Int) + 7 := by first | (unfold wrap64; omega) | (simp [wrap64]; omega)
  have e1 : IntKind.i64.wrap ((L : Int) + 7) = (L : Int) + 7 := by rw [IntKind.wrap_i64]; omega
  have e2 : ((L : Int) + 7).tdiv 8 = (k : Int) := by rw [Int.tdiv_eq_ediv_of_nonneg (by omega)]; omega
  have e3 : ((L : Int) + 7) / 8 = (k : Int) := by omega
  have e4 : IntKind.i64.wrap (k : Int) = (k : Int) := by rw [IntKind.wrap_i64]; omega
  have e5 : wrap64 (k : Int) = (k : Int) := by first | (unfold wrap64; omega) | (simp [wrap64]; omega)
  have CT := hide (ctext_any row wc.heap.size 0 row.length k y1 (unhide HNA _ _ _ (unhide HU3)) (unhide H3).2.1 (by rw [hk]; exact len_room hL64) (by omega))
  have HKL := hide hk; have HIL := hide hIL
  clear hIL hL64 hL2 hk LN
  go_wp2_with fail
  refine (unhide CT).mono ?_
  rintro e y3 ⟨rfl, k4⟩
  obtain ⟨m, hm⟩ : ∃ m, m = strOfNums (bigL (natW row) k) := ⟨_, rfl⟩
  have hmab : m = strOfNums (bigL (a * b) ((L + 7) / 8)) := by rw [hm, (unhide H3).2.2, unhide HKL]; obtain ⟨_, _, _, _, h1, h2⟩ := unhide HR; rw [h1, h2]
  have hIL2 : IsLenW (a * b) L := by have := unhide HIL; rw [(unhide H3).2.2] at this; obtain ⟨_, _, _, _, h1, h2⟩ := unhide HR; rw [h1, h2] at this; exact this
  rw [← hm]
  have NM := hide (fun W => isModulus_any m W)
  have HMA := hide hmab; have HI2 := hide hIL2
  have b13 : Below wc.heap.size wc y3 := (unhide K3).trans (k4.mono (unhide K3).size)
  have B13 := hide b13
  have BW3 := hide ((unhide HBC).trans (b13.mono (unhide HBC).size))
  clear hm hmab hIL2 k4 b13 e0 e1 e2 e3 e4 e5 CT
  cases hmd : isModB m with
  | false =>
    rw [hmd] at NM
    have HMD := hide hmd
    clear hmd
    go_wp2_with fail
    refine (unhide NM _).mono ?_
    rintro e y4 ⟨rfl, hy⟩
    have hy' := hy.symm
    subst hy'
    clear hy
    go_wp2
    exact bodyPost_ret (v := .tuple #[.string ⟨#[]⟩, .slice none 0 0, .int .i64 1]) (by simp [results, Tryz.results24, go_sem]) rfl ⟨.mod L rfl (unhide HI2) (by rw [← unhide HMA]; exact unhide HMD) rfl, unhide BW3⟩
  | true =>
  rw [hmd] at NM
  have hodd := mod_odd (n := a * b) (k := (L + 7) / 8) (by rw [← unhide HMA]; exact hmd)
  obtain ⟨oa, ob⟩ := odd_mul hodd
  obtain ⟨hr1, hs1, hor, hos, hnr, hns⟩ := unhide HR
  obtain ⟨x, hx⟩ : ∃ x, r[0]? = some x := ⟨_, List.getElem?_eq_getElem (by omega)⟩
  obtain ⟨z, hz⟩ : ∃ z, s[0]? = some z := ⟨_, List.getElem?_eq_getElem (by omega)⟩
  obtain ⟨x1, nx, ox⟩ := dec_row hx hor (by rw [hnr]; exact oa)
  obtain ⟨z1, nz, oz⟩ := dec_row hz hos (by rw [hns]; exact ob)
  have x64 := okW_get hor hx
  have z64 := okW_get hos hz
  have wx : IntKind.u64.wrap ((x : Int) - 1) = ((x - 1 : Nat) : Int) := wrN (by omega) (by unfold B64 at x64; omega)
  have wz : IntKind.u64.wrap ((z : Int) - 1) = ((z - 1 : Nat) : Int) := wrN (by omega) (by unfold B64 at z64; omega)
  obtain ⟨hgh, hg, hh⟩ := unhide HGH
  have u1 := (unhide HUr).below (unhide B13)
  have u2 := (unhide HUs).below (unhide B13)
  have q1 : y3.cell? ⟨g, 0, none⟩ = some (.int .u64 (x : Nat)) := u1.cell 0 x hx
  have f1 : y3.frozen? ⟨g, 0, none⟩ = false := u1.frozen 0
  obtain ⟨x', hx'⟩ : ∃ x', x' = x - 1 := ⟨_, rfl⟩
  obtain ⟨z', hz'⟩ : ∃ z', z' = z - 1 := ⟨_, rfl⟩
  rw [← hx'] at wx nx ox
  rw [← hz'] at wz nz oz
  obtain ⟨W5, hW5⟩ : ∃ W5, W5 = y3.setCell ⟨g, 0, none⟩ (.int .u64 (x' : Nat)) := ⟨_, rfl⟩
  have v1 : URow W5 g (r.set 0 x') := by rw [hW5]; exact u1.set 0 x'
  have v2 : URow W5 h s := by
    have ho := (Only.refl g y3).setCell 0 (.int .u64 (x' : Nat))
    rw [← hW5] at ho
    unfold URow
    rw [ho.block h (Ne.symm hgh)]
    exact u2
  obtain ⟨W6, hW6⟩ : ∃ W6, W6 = W5.setCell ⟨h, 0, none⟩ (.int .u64 (z' : Nat)) := ⟨_, rfl⟩
  have p2 : URow W6 h (s.set 0 z') := by rw [hW6]; exact v2.set 0 z'
  have p1 : URow W6 g (r.set 0 x') := by
    have ho := (Only.refl h W5).setCell 0 (.int .u64 (z' : Nat))
    rw [← hW6] at ho
    unfold URow
    rw [ho.block g hgh]
    exact v1
  have q2 : W5.cell? ⟨h, 0, none⟩ = some (.int .u64 (z : Nat)) := v2.cell 0 z hz
  have f2 : W5.frozen? ⟨h, 0, none⟩ = false := v2.frozen 0
  have b6 : Below w.heap.size w W6 := by rw [hW6, hW5]; exact Below.setCell (p := ⟨h, 0, none⟩) (Below.setCell (p := ⟨g, 0, none⟩) (unhide BW3) hg _) hh _
  have PR2 := hide (product_any (r.set 0 x') (s.set 0 z') g 0 r.length h 0 s.length W6 (unhide HNA _ _ _ p1) (unhide HNA _ _ _ p2) ox oz (by rw [List.length_set]; omega) (by rw [List.length_set]; omega))
  rw [nx, nz, hnr, hns, List.length_set, List.length_set] at PR2
  have HW5 := hide hW5; have HW6 := hide hW6; have B6 := hide b6; have HMD := hide hmd
  have lr : (0 : Int) < (r.length : Int) := by omega
  have ls : (0 : Int) < (s.length : Int) := by omega
  clear hmd hodd oa ob hr1 hs1 hor hos hnr hns hx hz x1 nx ox z1 nz oz x64 z64 hgh hg hh u1 u2 hx' hz' hW5 hW6 v1 v2 p1 p2 b6 HUr HUs HU3 BW3 B13
  go_wp2_with fail
  refine (unhide NM _).mono ?_
  rintro e y4 ⟨rfl, hy⟩
  have hy' := hy.symm
  subst hy'
  clear hy NM
  go_upto_region 9 with fail
  rw [← unhide HW5]
  clear q1 f1 wx
  go_upto_region 10 with fail
  rw [← unhide HW6]
  clear q2 f2 wz lr ls
  go_wp2_with fail
  refine (unhide PR2).mono ?_
  rintro e y5 ⟨row5, rfl, hU5, hl5, ho5, hn5, k5⟩
  have TH := third_any row5 W6.heap.size 0 row5.length y5 (unhide HNA _ _ _ hU5) ho5 (by have := unhide HR; omega)
  rw [hn5] at TH
  have HR5 : Hid (row5.length ≤ 60) := hide (by have := unhide HR; omega)
  have HT := hide TH; have B5 := hide ((unhide B6).trans (k5.mono (unhide B6).size))
  clear TH hU5 hl5 ho5 hn5 k5 PR2
  go_wp2_with fail
  refine (unhide HT).mono ?_
  rintro e y6 ⟨hcase, k6⟩
  have B66 := hide ((unhide B5).trans (k6.mono (unhide B5).size))
  have hs5 := (unhide B5).size
  clear k6
  rcases hcase with ⟨h3, rfl⟩ | ⟨h3, q5, row6, rfl, hq5, hU6, hl6, ho6, hn6⟩
  · have H3' := hide h3
    clear h3
    go_wp2
    exact bodyPost_ret (v := .tuple #[.string ⟨#[]⟩, .slice none 0 0, .int .i64 5]) (by simp [results, Tryz.results24, go_sem]) rfl ⟨.third L rfl (unhide HI2) (by rw [← unhide HMA]; exact unhide HMD) (unhide H3') rfl, unhide B66⟩
  · have HF := hide (And.intro h3 (And.intro hq5 (And.intro hU6 (And.intro hl6 (And.intro ho6 hn6)))))
    clear h3 hq5 hU6 hl6 ho6 hn6
    go_wp2
    obtain ⟨h3, hq5, hU6, hl6, ho6, hn6⟩ := unhide HF
    refine bodyPost_ret (v := .tuple #[.string m, .slice (some ⟨q5, 0, none⟩) (row5.length + 1) (row5.length + 1), .int .i64 0]) (by simp [results, Tryz.results24, go_sem]) rfl ⟨.ok L q5 row6 rfl (unhide HI2) (by rw [← unhide HMA]; exact unhide HMD) h3 (by rw [← unhide HMA, hl6]) hU6 ho6 (by omega) hn6 (by have := unhide HR5; omega), unhide B66⟩
end Go.Proofs.YtckkhpegimkefaaGreatDoor
namespace Go.Proofs.YtckkhpegimkefaaGreatDoor
open Go.RowKit Go.Shelf
set_option linter.unusedVariables false
set_option linter.unusedSimpArgs false
set_option maxRecDepth 100000

/-- how many bits a number has -/
def lenBN (n : Nat) : Nat := if n = 0 then 0 else n.log2 + 1
theorem isLen_lenBN {n L : Nat} (h : IsLenW n L) : L = lenBN n := by
  obtain ⟨h1, h2⟩ := h
  unfold lenBN
  by_cases h0 : n = 0
  · rw [if_pos h0]
    rcases h2 with h2 | h2
    · exact h2
    · have := Nat.two_pow_pos (L - 1)
      omega
  · rw [if_neg h0]
    have hL : 1 ≤ L := by
      rcases Nat.eq_zero_or_pos L with hz | hz
      · subst hz; simp at h1; omega
      · exact hz
    rcases h2 with h2 | h2
    · omega
    · have : n.log2 = L - 1 := (Nat.log2_eq_iff h0).2 ⟨h2, by rw [Nat.sub_add_cancel hL]; exact h1⟩
      omega
/-- the modulus that two numbers make; what is wrong with a secret; its modulus -/
def secT (a b : Nat) : ByteArray := strOfNums (bigL (a * b) ((lenBN (a * b) + 7) / 8))
def secE (p q : ByteArray) : Int := bif isFacB p && isFacB q then (bif isModB (secT (valN p.data.toList) (valN q.data.toList)) then (if (valN p.data.toList - 1) * (valN q.data.toList - 1) % 3 = 0 then 5 else 0) else 1) else 1
def secM (p q : ByteArray) : ByteArray := if secE p q = 0 then secT (valN p.data.toList) (valN q.data.toList) else ⟨#[]⟩
theorem open_first {p q : ByteArray} {w w' : World} {e : Ending} (h : OpenPost (valN p.data.toList) (valN q.data.toList) (isFacB p && isFacB q) w e w') : ∃ v, e = .returned (.tuple #[.string (secM p q), v, .int .i64 (secE p q)]) := by
  cases h with
  | form hf he =>
    have hE : secE p q = 1 := by unfold secE; rw [hf]; rfl
    have hM : secM p q = ⟨#[]⟩ := by unfold secM; rw [hE]; rfl
    rw [hE, hM]; exact ⟨_, he⟩
  | mod L hf hL hm he =>
    rw [isLen_lenBN hL] at hm
    have hE : secE p q = 1 := by unfold secE secT; rw [hf, hm]; rfl
    have hM : secM p q = ⟨#[]⟩ := by unfold secM; rw [hE]; rfl
    rw [hE, hM]; exact ⟨_, he⟩
  | third L hf hL hm h3 he =>
    rw [isLen_lenBN hL] at hm
    have hE : secE p q = 5 := by unfold secE secT; rw [hf, hm, if_pos h3]; rfl
    have hM : secM p q = ⟨#[]⟩ := by unfold secM; rw [hE]; rfl
    rw [hE, hM]; exact ⟨_, he⟩
  | ok L g row hf hL hm h3 he hU ho hg hn hlr =>
    rw [isLen_lenBN hL] at hm he
    have hE : secE p q = 0 := by unfold secE secT; rw [hf, hm, if_neg h3]; rfl
    have hM : secM p q = secT (valN p.data.toList) (valN q.data.toList) := by unfold secM; rw [if_pos hE]
    rw [hE, hM]; exact ⟨_, he⟩
set_option maxHeartbeats 1000000 in
theorem modulus_any (p q : ByteArray) (w : World) :
    Calls Tryz.prog 9 #[.agg #[.string p, .string q]] w fun e w' => e = .returned (.tuple #[.string (secM p q), .int .i64 (secE p q)]) ∧ Below w.heap.size w w' := by
  have n0 : ∀ W, Calls Tryz.prog 24 #[.agg #[.string p, .string q]] W fun e w' => (∃ v, e = .returned (.tuple #[.string (secM p q), v, .int .i64 (secE p q)])) ∧ Below W.heap.size W w' := fun W => (open_any p q W).mono fun e w' h => ⟨open_first h.1, h.2⟩
  have N0 := hide n0
  have HB := hide (fun o : Obj => (Below.refl w.heap.size w).alloc (Nat.le_refl _) o)
  clear n0
  generalize secM p q = mm at *
  generalize secE p q = me at *
  go_enter Tryz.func9, Tryz.ntmps9
  go_wp2_with fail
  refine (unhide N0 _).mono ?_
  rintro e y ⟨⟨v, rfl⟩, k⟩
  have HK := hide ((unhide HB _).trans (k.mono (unhide HB _).size))
  clear k
  go_wp2
  go_ret2
  exact ⟨rfl, unhide HK⟩
end Go.Proofs.YtckkhpegimkefaaGreatDoor
namespace Go.Proofs.YtckkhpegimkefaaGreatDoor
open Go.RowKit
set_option linter.unusedVariables false
set_option linter.unusedSimpArgs false
set_option maxRecDepth 100000

/-- D -/
def secD (p q : ByteArray) : Nat := ((valN p.data.toList - 1) * (valN q.data.toList - 1) * (3 - (valN p.data.toList - 1) * (valN q.data.toList - 1) % 3) + 1) / 3
/-- what Own answers -/
inductive OwnPost (p q : ByteArray) (e : Ending) (w : World) : Prop where
  | bad (h : secE p q ≠ 0) (he : e = .returned (.tuple #[.string ⟨#[]⟩, .pointer none, .int .i64 (secE p q)]))
  | good (g : Nat) (h : secE p q = 0) (he : e = .returned (.tuple #[.string (secM p q), .pointer (some ⟨g, 0, none⟩), .int .i64 0])) (hi : IntAt w g (secD p q))
theorem isLen_lenB {n L : Nat} (h : IsLen n L) : L = lenBN n := by
  obtain ⟨h1, h2, h3⟩ := h
  unfold lenBN
  by_cases h0 : n = 0
  · rw [if_pos h0]; exact h2 h0
  · rw [if_neg h0]
    obtain ⟨h4, h5⟩ := h3 h0
    have : n.log2 = L - 1 := (Nat.log2_eq_iff h0).2 ⟨h5, by rw [Nat.sub_add_cancel h4]; exact h1⟩
    omega
theorem head_at (s : ByteArray) (h : 0 < s.size) : ∀ h', ((s[0]'h').toNat : Int) = (((s.data.toList.headD 0).toNat : Nat) : Int) := by
  intro h'
  congr 2
  have hl : s.data.toList.length = s.size := by simp
  cases hh : s.data.toList with
  | nil => rw [hh] at hl; simp at hl; omega
  | cons a t =>
    have : s[0] = a := by
      show s.data[0] = a
      rw [← Array.getElem_toList]
      simp [hh]
    rw [this]; rfl
theorem fac_pos {s : ByteArray} (h : isFacB s = true) : 1 ≤ s.size ∧ s.size ≤ 96 ∧ 1 ≤ valN s.data.toList := by
  unfold isFacB at h
  simp only [Bool.and_eq_true, decide_eq_true_eq] at h
  refine ⟨h.1.1, h.1.2, ?_⟩
  have hl : s.data.toList.length = s.size := by simp
  cases hh : s.data.toList with
  | nil => rw [hh] at hl; simp at hl; omega
  | cons a t =>
    rw [hh] at h
    have h2 : ¬ a.toNat = 0 := h.2
    rw [valN_consN]
    have := Nat.mul_le_mul (Nat.one_le_iff_ne_zero.2 h2) (Nat.one_le_iff_ne_zero.2 (Nat.ne_of_gt (Nat.pow_pos (n := t.length) (show 0 < 256 by decide))))
    omega
theorem valN_96 (s : ByteArray) (h : s.size ≤ 96) : valN s.data.toList < B32 ^ 24 := valN_small _ 24 (by have : s.data.toList.length = s.size := by simp
                                                                                                         omega)
/-- what is wrong with one of the two -/
theorem fac_cases (x : ByteArray) : (isFacB x = false ∧ (x.size = 0 ∨ (0 < x.size ∧ 96 < x.size) ∨ (0 < x.size ∧ x.size ≤ 96 ∧ (x.data.toList.headD 0).toNat = 0))) ∨ (isFacB x = true ∧ 0 < x.size ∧ x.size ≤ 96 ∧ (x.data.toList.headD 0).toNat ≠ 0) := by
  unfold isFacB
  by_cases h1 : 1 ≤ x.size
  · by_cases h2 : x.size ≤ 96
    · by_cases h3 : (x.data.toList.headD 0).toNat = 0
      · exact .inl ⟨by rw [h3]; simp, .inr (.inr ⟨h1, h2, h3⟩)⟩
      · exact .inr ⟨by rw [decide_eq_true h1, decide_eq_true h2, decide_eq_true h3]; rfl, h1, h2, h3⟩
    · exact .inl ⟨by rw [decide_eq_false h2]; simp, .inr (.inl ⟨h1, by omega⟩)⟩
  · exact .inl ⟨by rw [decide_eq_false h1]; rfl, .inl (by omega)⟩
theorem secE_form {p q : ByteArray} (h : (isFacB p && isFacB q) = false) : secE p q = 1 := by unfold secE; rw [h]; rfl
theorem secE_mod {p q : ByteArray} (h : isModB (secT (valN p.data.toList) (valN q.data.toList)) = false) : secE p q = 1 := by
  unfold secE; rw [h]; cases (isFacB p && isFacB q) <;> rfl
theorem secE_good {p q : ByteArray} (h : (isFacB p && isFacB q) = true) (h2 : isModB (secT (valN p.data.toList) (valN q.data.toList)) = true) : secE p q = if (valN p.data.toList - 1) * (valN q.data.toList - 1) % 3 = 0 then 5 else 0 := by
  unfold secE; rw [h, h2]; rfl
theorem yconv {w : World} {g k : Nat} {L : List Int} (h : YRow w g L) (hl : L.length = k) : (convert 43 9 (.slice (some ⟨g, 0, none⟩) k k)).run Tryz.prog w = .ok (.string (strOfNums L)) w :=
  run_convert_bytes_arg (P := Tryz.prog) _ 43 5 Tryz.underlying43 Tryz.underlying5 g 0 k k L hl (fun i hi => by
    have hi' : i < L.length := by omega
    rw [cell_of_row _ _ _ _ _ _ h]
    simp [List.getElem?_eq_getElem hi']) 9 Tryz.underlying9
theorem lt_up {x j : Nat} (h : x < B32 ^ j) (K : Nat) (hj : j ≤ K) : x < B32 ^ K := Nat.lt_of_lt_of_le h (B32_mono hj)
theorem boxO_below (w : World) : Below w.heap.size w (w.alloc (.cells #[.bool false, .slice none 0 0] 101)) := (Below.refl _ _).alloc (Nat.le_refl _) _
theorem odd_rest (a b : Nat) (h : ¬ a * b % 3 = 0) : ∃ k : Nat, (k = 1 ∨ k = 2) ∧ 3 - a * b % 3 = k ∧ (1 + a * b * k) % 3 = 0 ∧ (k = 2 → ¬ (1 + a * b * 1) % 3 = 0) := by
  generalize a * b = n at *
  have : n % 3 < 3 := Nat.mod_lt _ (by decide)
  refine ⟨3 - n % 3, by omega, rfl, ?_, by omega⟩
  rcases (show n % 3 = 1 ∨ n % 3 = 2 by omega) with h1 | h1
  · rw [h1]; omega
  · rw [h1]; omega
theorem secT_22 {a b : Nat} (h : isModB (secT a b) = true) : ¬ (a - 1) * (b - 1) = 1 := by
  intro e
  have h1 := Nat.eq_one_of_mul_eq_one_right e
  have h2 := Nat.eq_one_of_mul_eq_one_left e
  have ha : a = 2 := by omega
  have hb : b = 2 := by omega
  subst ha hb
  unfold isModB at h
  simp only [Bool.and_eq_true, decide_eq_true_eq] at h
  have h3 := h.1.1.1
  unfold secT at h3
  rw [strOfNums_size, bigL_length] at h3
  have : lenBN (2 * 2) = 3 := by decide
  rw [this] at h3
  omega
theorem BoxAt3.other {w w' : World} {p : Nat} {b : Bool} {v : Value} (h : BoxAt3 w p b v) (hh : w'.heap[p]? = w.heap[p]?) : BoxAt3 w' p b v := ⟨hh.trans h.1, h.2⟩
abbrev boxI : Obj := .cells #[.bool false, .slice none 0 0] 101
theorem d_of {N k : Nat} (h : (1 + N * k) % 3 = 0) (hk : k = 1 ∨ k = 2) : ¬ N % 3 = 0 ∧ (N * (3 - N % 3) + 1) / 3 = (1 + N * k) / 3 := by
  rcases hk with rfl | rfl
  · have : N % 3 = 2 := by omega
    rw [this]
    exact ⟨by decide, by rw [Nat.add_comm]⟩
  · have : N % 3 = 1 := by omega
    rw [this]
    exact ⟨by decide, by rw [Nat.add_comm]⟩
theorem none_third {N : Nat} (h1 : ¬ (1 + N * 1) % 3 = 0) (h2 : ¬ (1 + N * 2) % 3 = 0) : N % 3 = 0 := by
  have h3 := Nat.mod_lt N (show 0 < 3 by decide)
  rcases (show N % 3 = 0 ∨ N % 3 = 1 ∨ N % 3 = 2 by omega) with h | h | h
  · exact h
  · exact absurd (show (1 + N * 2) % 3 = 0 by omega) h2
  · exact absurd (show (1 + N * 1) % 3 = 0 by omega) h1
end Go.Proofs.YtckkhpegimkefaaGreatDoor
