/- divide of the program, by 3. -/
import Derived.Test.YtckkhpegimkefaaGreatDoorM34
import Derived.Test.YtckkhpegimkefaaGreatDoorM09
import Derived.Deep.RegionHeld3
namespace Go.Proofs.YtckkhpegimkefaaGreatDoor
open Go.RowKit Go.Shelf
set_option linter.unusedVariables false
set_option linter.unusedSimpArgs false
set_option maxRecDepth 100000

theorem div3_any (hi lo : Nat) (h1 : hi ≤ 2) (hlo : lo < B64) (w : World) :
    Calls Tryz.prog 101 #[.int .u64 hi, .int .u64 lo, .int .u64 3] w fun e w' => e = .returned (.tuple #[.int .u64 ((hi * B64 + lo) / 3 : Nat), .int .u64 ((hi * B64 + lo) % 3 : Nat)]) ∧ Below w.heap.size w w' := by
  by_cases h0 : hi = 0
  · subst h0
    have := div3_zero lo hlo w
    rw [Nat.zero_mul, Nat.zero_add]
    exact this
  · refine (div3_two hi lo (by omega) h1 hlo w).mono ?_
    rintro e w' ⟨rfl, rfl⟩
    exact ⟨rfl, Below.refl _ _⟩
theorem drop_consN {xs : List Nat} {j x : Nat} (h : xs[j]? = some x) : xs.drop j = x :: xs.drop (j + 1) := by
  have hj : j < xs.length := (List.getElem?_eq_some_iff.1 h).1
  rw [List.drop_eq_getElem_cons hj]
  congr 1
  rw [List.getElem?_eq_getElem hj] at h
  exact Option.some.inj h
/-- one word more -/
theorem div_step {x N : Nat} (hx : x < B64) : (N % 3 * B64 + x) / 3 < B64 ∧ (x + B64 * N) / 3 = (N % 3 * B64 + x) / 3 + B64 * (N / 3) ∧ (x + B64 * N) % 3 = (N % 3 * B64 + x) % 3 := by
  unfold B64 at *
  omega
set_option maxHeartbeats 4000000 in
theorem divide3_any (xs : List Nat) (g o c : Nat) (w : World) (hX : NumAt w g o xs) (hx : okW xs) (hxl : (xs.length : Int) ≤ 2000) :
    Calls Tryz.prog 73 #[.slice (some ⟨g, o, none⟩) xs.length c, .int .u64 3] w fun e w' => ∃ row : List Nat, e = .returned (.tuple #[.slice (some ⟨w.heap.size, 0, none⟩) xs.length xs.length, .int .u64 (natW xs % 3 : Nat)]) ∧ URow w' w.heap.size row ∧ row.length = xs.length ∧ okW row ∧ natW row = natW xs / 3 ∧ Below w.heap.size w w' := by
  obtain ⟨i0, hi, hz0, hz1, hz2⟩ := info_partsN infoU64
  go_enter Tryz.func73, Tryz.ntmps73
  go_wp2_with (at_make; refine wpList_make_full _ rfl _ _ 58 rfl w.heap.size 82 i0 (.int .u64 0) 1 Tryz.underlying58 hi hz0 hz1 .i64 .i64 _ _ xs.length rfl rfl (by simp) (by simp) (by rw [hz2]; omega) (by unfold maxLen; omega) (Nat.le_refl _) ?_)
  intro w1 hown hgrow
  have hU := made_urow hown
  have hb : Below w.heap.size w w1 := (Below.refl _ _).grown hgrow (Nat.le_refl _) (fun q hq => by cases hq)
  clear hown hgrow hi hz0 hz1 hz2
  have HX := hide hX
  have hgl := hX.1
  have HXO := hide hx
  clear hX hx
  obtain ⟨n, hn⟩ : ∃ n, n = xs.length := ⟨_, rfl⟩
  rw [← hn] at hU hxl ⊢
  have HN := hide hn
  clear hn
  go_wp2
  go_loopw [15, 7] (fun i r wr => ∃ (k : Nat) (row : List Nat) (rr : Nat), k ≤ n ∧ i = .int .i64 k ∧ r = .int .u64 rr ∧ rr = natW (xs.drop (n - k)) % 3 ∧ row.length = n ∧ okW row ∧ natW (row.drop (n - k)) = natW (xs.drop (n - k)) / 3 ∧ URow wr w.heap.size row ∧ Below w.heap.size w wr) (fun i _ _ => n - (intOf i).toNat)
  case atStart =>
    have h0 : xs.drop (n - 0) = [] := by rw [Nat.sub_zero, unhide HN, List.drop_length]
    exact ⟨0, _, 0, Nat.zero_le _, rfl, rfl, by rw [h0]; rfl, by simp, okW_zeros _, by rw [h0, Nat.sub_zero, List.drop_of_length_le (by simp)]; rfl, hU, hb⟩
  case round =>
    clear hU hb
    obtain ⟨k, row, rr, hk, rfl, rfl, hrr, hrl, hrow, hr, hU, hbel⟩ := hrel
    by_cases hlt : k < n
    · obtain ⟨j, hj⟩ : ∃ j, j = n - 1 - k := ⟨_, rfl⟩
      have hjn : j < n := by omega
      obtain ⟨x, hxj⟩ : ∃ x, xs[j]? = some x := ⟨_, List.getElem?_eq_getElem (by have := unhide HN; omega)⟩
      obtain ⟨y, hyj⟩ : ∃ y, row[j]? = some y := ⟨_, List.getElem?_eq_getElem (by omega)⟩
      have hx64 := okW_get (unhide HXO) hxj
      have hjk : n - k = j + 1 := by omega
      rw [hjk] at hrr hr
      have hstep := div_step (x := x) (N := natW (xs.drop (j + 1))) hx64
      rw [← hrr] at hstep
      have hr2 : rr ≤ 2 := by omega
      have ND := hide (fun W => div3_any rr x hr2 hx64 W)
      obtain ⟨Q, hQ⟩ : ∃ Q, Q = (rr * B64 + x) / 3 := ⟨_, rfl⟩
      obtain ⟨R, hR⟩ : ∃ R, R = (rr * B64 + x) % 3 := ⟨_, rfl⟩
      rw [← hQ, ← hR] at ND
      rw [← hQ, ← hR] at hstep
      have hk1 : n - (k + 1) = j := by omega
      have hnx : natW (xs.drop j) = x + B64 * natW (xs.drop (j + 1)) := by rw [drop_consN hxj]; rfl
      have hset : (row.set j Q)[j]? = some Q := by rw [List.getElem?_set_self (by omega)]
      have hnr : natW ((row.set j Q).drop (n - (k + 1))) = natW (xs.drop (n - (k + 1))) / 3 := by
        rw [hk1, drop_consN hset, hnx, hstep.2.1, ← hr, List.drop_set_of_lt (by omega)]
        rfl
      have hR2 : R = natW (xs.drop (n - (k + 1))) % 3 := by rw [hk1, hnx]; exact hstep.2.2.symm
      have hok2 := okW_set hrow j Q hstep.1
      have cx : wr.cell? ⟨g, o + j, none⟩ = some (.int .u64 (x : Nat)) := (hbel.cell (p := ⟨g, o + j, none⟩) hgl).trans ((unhide HX).2 j x hxj)
      have hki : (k : Int) < (n : Int) := by omega
      have HJ := hide hj; have HU := hide hU; have HB := hide hbel; have HNR := hide hnr; have HR2 := hide hR2; have HOK := hide hok2; have HYJ := hide hyj
      have hj0 : (0 : Int) ≤ (j : Int) := by omega
      have hj1 : (j : Int) < (n : Int) := by omega
      have HJN := hide hjn
      clear hj hU hbel hnr hR2 hok2 hyj hxj hx64 hrr hr hstep hQ hR hset hnx hjk hk1
      go_upto_region 6 with fail
      go_cut [9] (fun v wx => v = .int .i64 (j : Nat) ∧ wx = wr)
      case first =>
        go_wp2
        go_meet
        refine ⟨?_, rfl⟩
        have h := unhide HJ
        have h2 := unhide HJN
        simp [wrap64]
        omega
      case rest =>
      obtain ⟨rfl, hwc⟩ := hcut
      have hwc' := hwc.symm
      subst hwc'
      clear hwc
      go_wp2_with fail
      refine (unhide ND _).mono ?_
      rintro e y1 ⟨rfl, k1⟩
      have hU1 := (unhide HU).below k1
      have q1 : y1.cell? ⟨w.heap.size, j, none⟩ = some (.int .u64 (y : Nat)) := hU1.cell j y (unhide HYJ)
      have f1 : y1.frozen? ⟨w.heap.size, j, none⟩ = false := hU1.frozen j
      have H2 := hide (hU1.set j Q)
      have B2 := hide (Below.setCell (p := ⟨w.heap.size, j, none⟩) ((unhide HB).trans (k1.mono (unhide HB).size)) (Nat.le_refl _) (.int .u64 (Q : Nat)))
      clear hU1 k1 cx
      go_wp2
      go_roundw
      case rel => exact ⟨k + 1, row.set j Q, R, by omega, by go_num, rfl, unhide HR2, by rw [List.length_set]; exact hrl, unhide HOK, unhide HNR, unhide H2, unhide B2⟩
      case measure => simp [intOf]; omega
    · have hkn : k = n := by omega
      subst hkn
      rw [Nat.sub_self, List.drop_zero] at hrr hr
      rw [List.drop_zero] at hr
      have HU := hide hU; have HB := hide hbel; have HR := hide hr; have HRR := hide hrr
      clear hU hbel hr hrr
      go_wp2
      go_ret2
      refine ⟨row, ?_, unhide HU, hrl.trans (unhide HN), hrow, unhide HR, unhide HB⟩
      rw [← unhide HRR, ← unhide HN]
      rfl
end Go.Proofs.YtckkhpegimkefaaGreatDoor
namespace Go.Proofs.YtckkhpegimkefaaGreatDoor
open Go.RowKit Go.Shelf
set_option linter.unusedVariables false
set_option linter.unusedSimpArgs false
set_option maxRecDepth 100000

theorem third_room {N n : Nat} (h : N < B64 ^ n) : 1 + (3 - N % 3) * N < B64 ^ (n + 1) := by
  rw [Nat.pow_succ]
  generalize B64 ^ n = P at *
  have h3 : 3 - N % 3 ≤ 3 := by omega
  have h4 : (3 - N % 3) * N ≤ 3 * N := Nat.mul_le_mul_right _ h3
  unfold B64
  omega
set_option maxHeartbeats 4000000 in
theorem third_any (xs : List Nat) (g o c : Nat) (w : World) (hX : NumAt w g o xs) (hx : okW xs) (hxl : (xs.length : Int) ≤ 1000) :
    Calls Tryz.prog 50 #[.slice (some ⟨g, o, none⟩) xs.length c] w fun e w' => ((natW xs % 3 = 0 ∧ e = .returned (.tuple #[.slice none 0 0, .bool false])) ∨
      (natW xs % 3 ≠ 0 ∧ ∃ (q : Nat) (row : List Nat), e = .returned (.tuple #[.slice (some ⟨q, 0, none⟩) (xs.length + 1) (xs.length + 1), .bool true]) ∧ w.heap.size ≤ q ∧ URow w' q row ∧ row.length = xs.length + 1 ∧ okW row ∧ natW row = (1 + (3 - natW xs % 3) * natW xs) / 3)) ∧ Below w.heap.size w w' := by
  obtain ⟨i0, hi, hz0, hz1, hz2⟩ := info_partsN infoU64
  have D1 := hide (divide3_any xs g o c w hX hx (by omega))
  obtain ⟨N, hN⟩ : ∃ N, N = natW xs := ⟨_, rfl⟩
  have hroom := third_room (natW_lt hx)
  rw [← hN] at D1 hroom ⊢
  have HN := hide hN; have HX := hide hX; have HXO := hide hx; have HRM := hide hroom
  have hgl := hX.1
  clear hX hx hN hroom
  by_cases h0 : N % 3 = 0
  · rw [h0] at D1
    have H0 := hide h0
    clear h0 hi hz0 hz1 hz2
    go_enter Tryz.func50, Tryz.ntmps50
    go_wp2_with fail
    refine (unhide D1).mono ?_
    rintro e y1 ⟨row, rfl, _, _, _, _, k1⟩
    have HK := hide k1
    clear k1
    go_wp2
    go_ret2
    exact ⟨.inl ⟨unhide H0, rfl⟩, unhide HK⟩
  obtain ⟨r, hr⟩ : ∃ r, r = N % 3 := ⟨_, rfl⟩
  rw [← hr] at D1 h0 ⊢
  have hr2 : r < 3 := by omega
  have t0 : ((r : Int) == 0) = false := by simp; omega
  have tw : IntKind.u64.wrap (3 - (r : Int)) = ((3 - r : Nat) : Int) := wrN (by omega) (by omega)
  have hln : (xs.length : Int) ≤ 1000 := hxl
  have hwl : wrap64 ((xs.length : Int) + 1) = (xs.length : Int) + 1 := by first | (unfold wrap64; omega) | (simp [wrap64]; omega)
  have HR := hide hr; have H0 := hide h0; have HR2 := hide hr2
  clear hr h0
  go_enter Tryz.func50, Tryz.ntmps50
  go_wp2_with fail
  refine (unhide D1).mono ?_
  rintro e y1 ⟨row, rfl, _, _, _, _, k1⟩
  have K1 := hide k1
  clear k1
  go_wp2_with (at_make; refine wpList_make_full _ rfl _ _ 58 rfl y1.heap.size 82 i0 (.int .u64 0) 1 Tryz.underlying58 hi hz0 hz1 .i64 .i64 _ _ (xs.length + 1) rfl rfl (by simp) (by simp) (by rw [hz2]; omega) (by unfold maxLen; omega) (Nat.le_refl _) ?_)
  intro w1 hown hgrow
  have hU := made_urow hown
  have hb : Below y1.heap.size y1 w1 := (Below.refl _ _).grown hgrow (Nat.le_refl _) (fun q hq => by cases hq)
  clear hown hgrow hi hz0 hz1 hz2
  have q0 : w1.cell? ⟨y1.heap.size, 0, none⟩ = some (.int .u64 (0 : Nat)) := hU.cell 0 0 (by simp)
  have f0 : w1.frozen? ⟨y1.heap.size, 0, none⟩ = false := hU.frozen 0
  obtain ⟨W2, hW2⟩ : ∃ W2, W2 = w1.setCell ⟨y1.heap.size, 0, none⟩ (.int .u64 1) := ⟨_, rfl⟩
  have hU2 : URow W2 y1.heap.size ([] ++ (List.replicate (xs.length + 1) 0).set 0 1) := by rw [hW2]; exact hU.set 0 1
  have b2 : Below y1.heap.size y1 W2 := by rw [hW2]; exact Below.setCell (p := ⟨y1.heap.size, 0, none⟩) hb (Nat.le_refl _) _
  have b20 : Below w.heap.size w W2 := (unhide K1).trans (b2.mono (unhide K1).size)
  have hX2 : NumAt W2 g o xs := ⟨Nat.lt_of_lt_of_le hgl b20.size, fun i x hi => (b20.cell (p := ⟨g, o + i, none⟩) hgl).trans ((unhide HX).2 i x hi)⟩
  have hone : natW ((List.replicate (xs.length + 1) 0).set 0 1) = 1 := by
    rw [List.replicate_succ, List.set_cons_zero]
    show 1 + B64 * natW (List.replicate xs.length 0) = 1
    rw [natW_zeros]; rfl
  have hlen1 : ((List.replicate (xs.length + 1) 0).set 0 1).length = xs.length + 1 := by simp
  have hsz := (unhide K1).size
  have A1 := fun tc => addTimes_any [] ((List.replicate (xs.length + 1) 0).set 0 1) xs (3 - r) y1.heap.size tc g o c W2 hU2 hX2 (by omega) (by rw [hlen1]; omega) (by unfold B64; omega) (unhide HXO) (okW_set (okW_zeros _) 0 1 (by unfold B64; decide)) (by rw [hone, hlen1, ← unhide HN, unhide HR]; exact unhide HRM) (by rw [hlen1]; omega)
  rw [hlen1, hone, ← unhide HN] at A1
  have HA := hide A1; have HW2 := hide hW2; have HB20 := hide b20
  clear A1 hU hb hU2 b2 b20 hX2 hone hW2 hsz hlen1
  go_upto_region 6 with fail
  rw [← unhide HW2]
  clear q0 f0
  go_wp2_with fail
  refine (unhide HA _).mono ?_
  rintro e y2 ⟨rfl, u, hU3, hul, huo, hun, hon⟩
  have b3 : Below w.heap.size w y2 := (unhide HB20).trans (hon.below (unhide K1).size)
  have hU3' : URow y2 y1.heap.size u := hU3
  have D2 := divide3_any u y1.heap.size 0 (xs.length + 1) y2 (by have := hU3'.numAt 0; rw [List.drop_zero] at this; exact this) huo (by rw [hul]; omega)
  rw [hul, hun] at D2
  have HD2 := hide D2; have HB3 := hide b3
  clear D2 b3 hU3 hU3' hul huo hun hon HA
  go_wp2_with fail
  refine (unhide HD2).mono ?_
  rintro e y3 ⟨row3, rfl, hU4, hl4, ho4, hn4, k4⟩
  have HB4 := hide ((unhide HB3).trans (k4.mono (unhide HB3).size)); have HU4 := hide hU4; have HN4 := hide hn4
  have HS3 := hide (unhide HB3).size
  clear k4 hU4 hn4
  go_wp2
  go_ret2
  exact ⟨.inr ⟨unhide H0, y2.heap.size, row3, rfl, unhide HS3, unhide HU4, hl4, ho4, unhide HN4⟩, unhide HB4⟩
end Go.Proofs.YtckkhpegimkefaaGreatDoor
namespace Go.Proofs.YtckkhpegimkefaaGreatDoor
open Go.RowKit Go.Shelf
set_option linter.unusedVariables false
set_option linter.unusedSimpArgs false
set_option maxRecDepth 100000

theorem bigL_last (n : Nat) : ∀ k, (bigL n (k + 1))[k]? = some ((n % 256 : Nat) : Int)
  | 0 => by simp [bigL]
  | k + 1 => by
    have := bigL_last n k
    rw [bigL, List.getElem?_cons_succ]
    exact this
/-- the modulus of a product, if it is one, is odd -/
theorem mod_odd {n k : Nat} (h : isModB (strOfNums (bigL n k)) = true) : n % 2 = 1 := by
  unfold isModB at h
  simp only [Bool.and_eq_true, decide_eq_true_eq] at h
  obtain ⟨⟨⟨h40, _⟩, _⟩, ho⟩ := h
  rw [strOfNums_size, bigL_length] at h40
  obtain ⟨j, rfl⟩ : ∃ j, k = j + 1 := ⟨k - 1, by omega⟩
  rw [strOfNums_data, List.getLastD_eq_getLast?, List.getLast?_eq_getElem?, List.length_map, bigL_length, Nat.add_sub_cancel, List.getElem?_map, bigL_last] at ho
  simp at ho
  omega
theorem dec_row {r : List Nat} {x : Nat} (h0 : r[0]? = some x) (hr : okW r) (ho : natW r % 2 = 1) : 1 ≤ x ∧ natW (r.set 0 (x - 1)) = natW r - 1 ∧ okW (r.set 0 (x - 1)) := by
  cases r with
  | nil => cases h0
  | cons y t =>
    obtain rfl : y = x := by simpa using h0
    have e : natW (y :: t) = y + B64 * natW t := rfl
    have hx := okW_get hr h0
    have h1 : 1 ≤ y := by
      rw [e] at ho
      unfold B64 at ho
      omega
    refine ⟨h1, ?_, okW_set hr 0 _ (by omega)⟩
    rw [List.set_cons_zero, e]
    show y - 1 + B64 * natW t = _
    omega
theorem odd_mul {a b : Nat} (h : a * b % 2 = 1) : a % 2 = 1 ∧ b % 2 = 1 := by
  rw [Nat.mul_mod] at h
  rcases Nat.mod_two_eq_zero_or_one a with ha | ha <;> rcases Nat.mod_two_eq_zero_or_one b with hb | hb <;> rw [ha, hb] at h <;> simp_all
end Go.Proofs.YtckkhpegimkefaaGreatDoor
