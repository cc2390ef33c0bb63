/- divide of the program, by 3. -/
import Derived.Test.YtajkbkljonejnaaGreatDoorM31
import Derived.Test.YtajkbkljonejnaaGreatDoorM28
import Derived.Deep.RegionHeld3
import Derived.Deep.DeepCutAuto
namespace Go.Proofs.YtajkbkljonejnaaGreatDoor
open Go.RowKit Go.Shelf
set_option linter.unusedVariables false
set_option linter.unusedSimpArgs false
set_option maxRecDepth 100000
theorem div3_any (hi lo : Nat) (h1 : hi ≤ 2) (hlo : lo < B64) (w : World) :
    Calls Tryz.prog 157 #[.int .u64 hi, .int .u64 lo, .int .u64 3] w fun e w' => e = .returned (.tuple #[.int .u64 ((hi * B64 + lo) / 3 : Nat), .int .u64 ((hi * B64 + lo) % 3 : Nat)]) ∧ Below w.heap.size w w' := by
  by_cases h0 : hi = 0
  · subst h0
    have := div3_zero lo hlo w
    rw [Nat.zero_mul, Nat.zero_add]
    exact this
  · refine (div3_two hi lo (by omega) h1 hlo w).mono ?_
    rintro e w' ⟨rfl, rfl⟩
    exact ⟨rfl, Below.refl _ _⟩
theorem drop_consN {xs : List Nat} {j x : Nat} (h : xs[j]? = some x) : xs.drop j = x :: xs.drop (j + 1) := by
  have hj : j < xs.length := (List.getElem?_eq_some_iff.1 h).1
  rw [List.drop_eq_getElem_cons hj]
  congr 1
  rw [List.getElem?_eq_getElem hj] at h
  exact Option.some.inj h
theorem div_step {x N : Nat} (hx : x < B64) : (N % 3 * B64 + x) / 3 < B64 ∧ (x + B64 * N) / 3 = (N % 3 * B64 + x) / 3 + B64 * (N / 3) ∧ (x + B64 * N) % 3 = (N % 3 * B64 + x) % 3 := by
  unfold B64 at *
  omega
set_option maxHeartbeats 4000000 in
theorem divide3_any (xs : List Nat) (g o c : Nat) (w : World) (hX : NumAt w g o xs) (hx : okW xs) (hxl : (xs.length : Int) ≤ 2000) :
    Calls Tryz.prog 151 #[.slice (some ⟨g, o, none⟩) xs.length c, .int .u64 3] w fun e w' => ∃ row : List Nat, e = .returned (.tuple #[.slice (some ⟨w.heap.size, 0, none⟩) xs.length xs.length, .int .u64 (natW xs % 3 : Nat)]) ∧ URow w' w.heap.size row ∧ row.length = xs.length ∧ okW row ∧ natW row = natW xs / 3 ∧ Below w.heap.size w w' := by
  obtain ⟨i0, hi, hz0, hz1, hz2⟩ := info_partsN infoU64
  go_enter Tryz.func151, Tryz.ntmps151
  go_wp2_with (at_make; refine wpList_make_full _ rfl _ _ 146 rfl w.heap.size 137 i0 (.int .u64 0) 1 Tryz.underlying146 hi hz0 hz1 .i64 .i64 _ _ xs.length rfl rfl (by simp) (by simp) (by rw [hz2]; omega) (by unfold maxLen; omega) (Nat.le_refl _) ?_)
  intro w1 hown hgrow
  have hU := made_urow hown
  have hb : Below w.heap.size w w1 := (Below.refl _ _).grown hgrow (Nat.le_refl _) (fun q hq => by cases hq)
  clear hown hgrow hi hz0 hz1 hz2
  have HX := hide hX
  have hgl := hX.1
  have HXO := hide hx
  clear hX hx
  obtain ⟨n, hn⟩ : ∃ n, n = xs.length := ⟨_, rfl⟩
  rw [← hn] at hU hxl ⊢
  have HN := hide hn
  clear hn
  go_wp2
  go_loopw [15, 7] (fun i r wr => ∃ (k : Nat) (row : List Nat) (rr : Nat), k ≤ n ∧ i = .int .i64 k ∧ r = .int .u64 rr ∧ rr = natW (xs.drop (n - k)) % 3 ∧ row.length = n ∧ okW row ∧ natW (row.drop (n - k)) = natW (xs.drop (n - k)) / 3 ∧ URow wr w.heap.size row ∧ Below w.heap.size w wr) (fun i _ _ => n - (intOf i).toNat)
  case atStart =>
    have h0 : xs.drop (n - 0) = [] := by rw [Nat.sub_zero, unhide HN, List.drop_length]
    exact ⟨0, _, 0, Nat.zero_le _, rfl, rfl, by rw [h0]; rfl, by simp, okW_zeros _, by rw [h0, Nat.sub_zero, List.drop_of_length_le (by simp)]; rfl, hU, hb⟩
  case round =>
    clear hU hb
    obtain ⟨k, row, rr, hk, rfl, rfl, hrr, hrl, hrow, hr, hU, hbel⟩ := hrel
    by_cases hlt : k < n
    · obtain ⟨j, hj⟩ : ∃ j, j = n - 1 - k := ⟨_, rfl⟩
      have hjn : j < n := by omega
      obtain ⟨x, hxj⟩ : ∃ x, xs[j]? = some x := ⟨_, List.getElem?_eq_getElem (by have := unhide HN; omega)⟩
      obtain ⟨y, hyj⟩ : ∃ y, row[j]? = some y := ⟨_, List.getElem?_eq_getElem (by omega)⟩
      have hx64 := okW_get (unhide HXO) hxj
      have hjk : n - k = j + 1 := by omega
      rw [hjk] at hrr hr
      have hstep := div_step (x := x) (N := natW (xs.drop (j + 1))) hx64
      rw [← hrr] at hstep
      have hr2 : rr ≤ 2 := by omega
      have ND := hide (fun W => div3_any rr x hr2 hx64 W)
      obtain ⟨Q, hQ⟩ : ∃ Q, Q = (rr * B64 + x) / 3 := ⟨_, rfl⟩
      obtain ⟨R, hR⟩ : ∃ R, R = (rr * B64 + x) % 3 := ⟨_, rfl⟩
      rw [← hQ, ← hR] at ND
      rw [← hQ, ← hR] at hstep
      have hk1 : n - (k + 1) = j := by omega
      have hnx : natW (xs.drop j) = x + B64 * natW (xs.drop (j + 1)) := by rw [drop_consN hxj]; rfl
      have hset : (row.set j Q)[j]? = some Q := by rw [List.getElem?_set_self (by omega)]
      have hnr : natW ((row.set j Q).drop (n - (k + 1))) = natW (xs.drop (n - (k + 1))) / 3 := by
        rw [hk1, drop_consN hset, hnx, hstep.2.1, ← hr, List.drop_set_of_lt (by omega)]
        rfl
      have hR2 : R = natW (xs.drop (n - (k + 1))) % 3 := by rw [hk1, hnx]; exact hstep.2.2.symm
      have hok2 := okW_set hrow j Q hstep.1
      have cx : wr.cell? ⟨g, o + j, none⟩ = some (.int .u64 (x : Nat)) := (hbel.cell (p := ⟨g, o + j, none⟩) hgl).trans ((unhide HX).2 j x hxj)
      have hki : (k : Int) < (n : Int) := by omega
      have HJ := hide hj; have HU := hide hU; have HB := hide hbel; have HNR := hide hnr; have HR2 := hide hR2; have HOK := hide hok2; have HYJ := hide hyj
      have hj0 : (0 : Int) ≤ (j : Int) := by omega
      have hj1 : (j : Int) < (n : Int) := by omega
      have HJN := hide hjn
      clear hj hU hbel hnr hR2 hok2 hyj hxj hx64 hrr hr hstep hQ hR hset hnx hjk hk1
      go_upto_region 6 with fail
      go_cut [9] (fun v wx => v = .int .i64 (j : Nat) ∧ wx = wr)
      case first =>
        go_wp2
        go_meet
        refine ⟨?_, rfl⟩
        have h := unhide HJ
        have h2 := unhide HJN
        simp [wrap64]
        omega
      case rest =>
      obtain ⟨rfl, hwc⟩ := hcut
      have hwc' := hwc.symm
      subst hwc'
      clear hwc
      go_wp2_with fail
      refine (unhide ND _).mono ?_
      rintro e y1 ⟨rfl, k1⟩
      have hU1 := (unhide HU).below k1
      have q1 : y1.cell? ⟨w.heap.size, j, none⟩ = some (.int .u64 (y : Nat)) := hU1.cell j y (unhide HYJ)
      have f1 : y1.frozen? ⟨w.heap.size, j, none⟩ = false := hU1.frozen j
      have H2 := hide (hU1.set j Q)
      have B2 := hide (Below.setCell (p := ⟨w.heap.size, j, none⟩) ((unhide HB).trans (k1.mono (unhide HB).size)) (Nat.le_refl _) (.int .u64 (Q : Nat)))
      clear hU1 k1 cx
      go_wp2
      go_roundw
      case rel => exact ⟨k + 1, row.set j Q, R, by omega, by go_num, rfl, unhide HR2, by rw [List.length_set]; exact hrl, unhide HOK, unhide HNR, unhide H2, unhide B2⟩
      case measure => simp [intOf]; omega
    · have hkn : k = n := by omega
      subst hkn
      rw [Nat.sub_self, List.drop_zero] at hrr hr
      rw [List.drop_zero] at hr
      have HU := hide hU; have HB := hide hbel; have HR := hide hr; have HRR := hide hrr
      clear hU hbel hr hrr
      go_wp2
      go_ret2
      refine ⟨row, ?_, unhide HU, hrl.trans (unhide HN), hrow, unhide HR, unhide HB⟩
      rw [← unhide HRR, ← unhide HN]
      rfl
end Go.Proofs.YtajkbkljonejnaaGreatDoor
namespace Go.Proofs.YtajkbkljonejnaaGreatDoor
open Go.RowKit Go.Shelf
set_option linter.unusedVariables false
set_option linter.unusedSimpArgs false
set_option maxRecDepth 100000
theorem third_room {N n : Nat} (h : N < B64 ^ n) : 1 + (3 - N % 3) * N < B64 ^ (n + 1) := by
  rw [Nat.pow_succ]
  generalize B64 ^ n = P at *
  have h3 : 3 - N % 3 ≤ 3 := by omega
  have h4 : (3 - N % 3) * N ≤ 3 * N := Nat.mul_le_mul_right _ h3
  unfold B64
  omega
set_option maxHeartbeats 4000000 in
theorem third_any (xs : List Nat) (g o c : Nat) (w : World) (hX : NumAt w g o xs) (hx : okW xs) (hxl : (xs.length : Int) ≤ 1000) :
    Calls Tryz.prog 130 #[.slice (some ⟨g, o, none⟩) xs.length c] w fun e w' => ((natW xs % 3 = 0 ∧ e = .returned (.tuple #[.slice none 0 0, .bool false])) ∨
      (natW xs % 3 ≠ 0 ∧ ∃ (q : Nat) (row : List Nat), e = .returned (.tuple #[.slice (some ⟨q, 0, none⟩) (xs.length + 1) (xs.length + 1), .bool true]) ∧ w.heap.size ≤ q ∧ URow w' q row ∧ row.length = xs.length + 1 ∧ okW row ∧ natW row = (1 + (3 - natW xs % 3) * natW xs) / 3)) ∧ Below w.heap.size w w' := by
  obtain ⟨i0, hi, hz0, hz1, hz2⟩ := info_partsN infoU64
  have D1 := hide (divide3_any xs g o c w hX hx (by omega))
  obtain ⟨N, hN⟩ : ∃ N, N = natW xs := ⟨_, rfl⟩
  have hroom := third_room (natW_lt hx)
  rw [← hN] at D1 hroom ⊢
  have HN := hide hN; have HX := hide hX; have HXO := hide hx; have HRM := hide hroom
  have hgl := hX.1
  clear hX hx hN hroom
  by_cases h0 : N % 3 = 0
  · rw [h0] at D1
    have H0 := hide h0
    clear h0 hi hz0 hz1 hz2
    go_enter Tryz.func130, Tryz.ntmps130
    go_wp2_with fail
    refine (unhide D1).mono ?_
    rintro e y1 ⟨row, rfl, _, _, _, _, k1⟩
    have HK := hide k1
    clear k1
    go_wp2
    go_ret2
    exact ⟨.inl ⟨unhide H0, rfl⟩, unhide HK⟩
  obtain ⟨r, hr⟩ : ∃ r, r = N % 3 := ⟨_, rfl⟩
  rw [← hr] at D1 h0 ⊢
  have hr2 : r < 3 := by omega
  have t0 : ((r : Int) == 0) = false := by simp; omega
  have tw : IntKind.u64.wrap (3 - (r : Int)) = ((3 - r : Nat) : Int) := wrN (by omega) (by omega)
  have hln : (xs.length : Int) ≤ 1000 := hxl
  have hwl : wrap64 ((xs.length : Int) + 1) = (xs.length : Int) + 1 := by first | (unfold wrap64; omega) | (simp [wrap64]; omega)
  have HR := hide hr; have H0 := hide h0; have HR2 := hide hr2
  clear hr h0
  go_enter Tryz.func130, Tryz.ntmps130
  go_wp2_with fail
  refine (unhide D1).mono ?_
  rintro e y1 ⟨row, rfl, _, _, _, _, k1⟩
  have K1 := hide k1
  clear k1
  go_wp2_with (at_make; refine wpList_make_full _ rfl _ _ 146 rfl y1.heap.size 137 i0 (.int .u64 0) 1 Tryz.underlying146 hi hz0 hz1 .i64 .i64 _ _ (xs.length + 1) rfl rfl (by simp) (by simp) (by rw [hz2]; omega) (by unfold maxLen; omega) (Nat.le_refl _) ?_)
  intro w1 hown hgrow
  have hU := made_urow hown
  have hb : Below y1.heap.size y1 w1 := (Below.refl _ _).grown hgrow (Nat.le_refl _) (fun q hq => by cases hq)
  clear hown hgrow hi hz0 hz1 hz2
  have q0 : w1.cell? ⟨y1.heap.size, 0, none⟩ = some (.int .u64 (0 : Nat)) := hU.cell 0 0 (by simp)
  have f0 : w1.frozen? ⟨y1.heap.size, 0, none⟩ = false := hU.frozen 0
  obtain ⟨W2, hW2⟩ : ∃ W2, W2 = w1.setCell ⟨y1.heap.size, 0, none⟩ (.int .u64 1) := ⟨_, rfl⟩
  have hU2 : URow W2 y1.heap.size ([] ++ (List.replicate (xs.length + 1) 0).set 0 1) := by rw [hW2]; exact hU.set 0 1
  have b2 : Below y1.heap.size y1 W2 := by rw [hW2]; exact Below.setCell (p := ⟨y1.heap.size, 0, none⟩) hb (Nat.le_refl _) _
  have b20 : Below w.heap.size w W2 := (unhide K1).trans (b2.mono (unhide K1).size)
  have hX2 : NumAt W2 g o xs := ⟨Nat.lt_of_lt_of_le hgl b20.size, fun i x hi => (b20.cell (p := ⟨g, o + i, none⟩) hgl).trans ((unhide HX).2 i x hi)⟩
  have hone : natW ((List.replicate (xs.length + 1) 0).set 0 1) = 1 := by
    rw [List.replicate_succ, List.set_cons_zero]
    show 1 + B64 * natW (List.replicate xs.length 0) = 1
    rw [natW_zeros]; rfl
  have hlen1 : ((List.replicate (xs.length + 1) 0).set 0 1).length = xs.length + 1 := by simp
  have hsz := (unhide K1).size
  have A1 := fun tc => addTimes_any [] ((List.replicate (xs.length + 1) 0).set 0 1) xs (3 - r) y1.heap.size tc g o c W2 hU2 hX2 (by omega) (by rw [hlen1]; omega) (by unfold B64; omega) (unhide HXO) (okW_set (okW_zeros _) 0 1 (by unfold B64; decide)) (by rw [hone, hlen1, ← unhide HN, unhide HR]; exact unhide HRM) (by rw [hlen1]; omega)
  rw [hlen1, hone, ← unhide HN] at A1
  have HA := hide A1; have HW2 := hide hW2; have HB20 := hide b20
  clear A1 hU hb hU2 b2 b20 hX2 hone hW2 hsz hlen1
  go_upto_region 6 with fail
  rw [← unhide HW2]
  clear q0 f0
  go_wp2_with fail
  refine (unhide HA _).mono ?_
  rintro e y2 ⟨rfl, u, hU3, hul, huo, hun, hon⟩
  have b3 : Below w.heap.size w y2 := (unhide HB20).trans (hon.below (unhide K1).size)
  have hU3' : URow y2 y1.heap.size u := hU3
  have D2 := divide3_any u y1.heap.size 0 (xs.length + 1) y2 (by have := hU3'.numAt 0; rw [List.drop_zero] at this; exact this) huo (by rw [hul]; omega)
  rw [hul, hun] at D2
  have HD2 := hide D2; have HB3 := hide b3
  clear D2 b3 hU3 hU3' hul huo hun hon HA
  go_wp2_with fail
  refine (unhide HD2).mono ?_
  rintro e y3 ⟨row3, rfl, hU4, hl4, ho4, hn4, k4⟩
  have HB4 := hide ((unhide HB3).trans (k4.mono (unhide HB3).size)); have HU4 := hide hU4; have HN4 := hide hn4
  have HS3 := hide (unhide HB3).size
  clear k4 hU4 hn4
  go_wp2
  go_ret2
  exact ⟨.inr ⟨unhide H0, y2.heap.size, row3, rfl, unhide HS3, unhide HU4, hl4, ho4, unhide HN4⟩, unhide HB4⟩
end Go.Proofs.YtajkbkljonejnaaGreatDoor
namespace Go.Proofs.YtajkbkljonejnaaGreatDoor
open Go.RowKit Go.Shelf
set_option linter.unusedVariables false
set_option linter.unusedSimpArgs false
set_option maxRecDepth 100000
theorem bigL_last (n : Nat) : ∀ k, (bigL n (k + 1))[k]? = some ((n % 256 : Nat) : Int)
  | 0 => by simp [bigL]
  | k + 1 => by
    have := bigL_last n k
    rw [bigL, List.getElem?_cons_succ]
    exact this
theorem mod_odd {n k : Nat} (h : isModB (strOfNums (bigL n k)) = true) : n % 2 = 1 := by
  unfold isModB at h
  simp only [Bool.and_eq_true, decide_eq_true_eq] at h
  obtain ⟨⟨⟨h40, _⟩, _⟩, ho⟩ := h
  rw [strOfNums_size, bigL_length] at h40
  obtain ⟨j, rfl⟩ : ∃ j, k = j + 1 := ⟨k - 1, by omega⟩
  rw [strOfNums_data, List.getLastD_eq_getLast?, List.getLast?_eq_getElem?, List.length_map, bigL_length, Nat.add_sub_cancel, List.getElem?_map, bigL_last] at ho
  simp at ho
  omega
theorem dec_row {r : List Nat} {x : Nat} (h0 : r[0]? = some x) (hr : okW r) (ho : natW r % 2 = 1) : 1 ≤ x ∧ natW (r.set 0 (x - 1)) = natW r - 1 ∧ okW (r.set 0 (x - 1)) := by
  cases r with
  | nil => cases h0
  | cons y t =>
    obtain rfl : y = x := by simpa using h0
    have e : natW (y :: t) = y + B64 * natW t := rfl
    have hx := okW_get hr h0
    have h1 : 1 ≤ y := by
      rw [e] at ho
      unfold B64 at ho
      omega
    refine ⟨h1, ?_, okW_set hr 0 _ (by omega)⟩
    rw [List.set_cons_zero, e]
    show y - 1 + B64 * natW t = _
    omega
theorem odd_mul {a b : Nat} (h : a * b % 2 = 1) : a % 2 = 1 ∧ b % 2 = 1 := by
  rw [Nat.mul_mod] at h
  rcases Nat.mod_two_eq_zero_or_one a with ha | ha <;> rcases Nat.mod_two_eq_zero_or_one b with hb | hb <;> rw [ha, hb] at h <;> simp_all
end Go.Proofs.YtajkbkljonejnaaGreatDoor
namespace Go.Proofs.YtajkbkljonejnaaGreatDoor
open Go.RowKit Go.Shelf
set_option linter.unusedVariables false
set_option linter.unusedSimpArgs false
set_option maxRecDepth 100000
def noneO (k : Int) : Ending := .returned (.tuple #[.string ⟨#[]⟩, .slice none 0 0, .int .i64 k])
inductive OpenPost (a b : Nat) (f : Bool) (w : World) (e : Ending) (w' : World) : Prop where
  | form (hf : f = false) (he : e = noneO 1) : OpenPost a b f w e w'
  | mod (L : Nat) (hf : f = true) (hL : IsLenW (a * b) L) (hm : isModB (strOfNums (bigL (a * b) ((L + 7) / 8))) = false) (he : e = noneO 1) : OpenPost a b f w e w'
  | third (L : Nat) (hf : f = true) (hL : IsLenW (a * b) L) (hm : isModB (strOfNums (bigL (a * b) ((L + 7) / 8))) = true) (h3 : (a - 1) * (b - 1) % 3 = 0) (he : e = noneO 5) : OpenPost a b f w e w'
  | ok (L g : Nat) (row : List Nat) (hf : f = true) (hL : IsLenW (a * b) L) (hm : isModB (strOfNums (bigL (a * b) ((L + 7) / 8))) = true) (h3 : (a - 1) * (b - 1) % 3 ≠ 0)
      (he : e = .returned (.tuple #[.string (strOfNums (bigL (a * b) ((L + 7) / 8))), .slice (some ⟨g, 0, none⟩) row.length row.length, .int .i64 0])) (hU : URow w' g row) (ho : okW row) (hg : w.heap.size ≤ g)
      (hn : natW row = (1 + (3 - (a - 1) * (b - 1) % 3) * ((a - 1) * (b - 1))) / 3) (hlr : row.length ≤ 100) : OpenPost a b f w e w'
theorem len_room {L l : Nat} (h : L ≤ 64 * l) : (L + 7) / 8 ≤ 8 * l := by omega
set_option maxHeartbeats 4000000 in
theorem open_any (p q : ByteArray) (w : World) :
    Calls Tryz.prog 93 #[.agg #[.string p, .string q]] w fun e w' => OpenPost (valN p.data.toList) (valN q.data.toList) (isFacB p && isFacB q) w e w' ∧ Below w.heap.size w w' := by
  obtain ⟨W1, hW1⟩ : ∃ W1, W1 = w.alloc (.cells #[.string p, .string q] 23) := ⟨_, rfl⟩
  have hB1 : Below w.heap.size w W1 := by rw [hW1]; exact (Below.refl _ _).alloc (Nat.le_refl _) _
  have hX1 : W1.heap[w.heap.size]? = some (.cells #[.string p, .string q] 23 (0, 0)) := by rw [hW1]; exact heap_alloc_new _ _
  have hl1 : w.heap.size < W1.heap.size := by rw [hW1]; simp
  have hc : ∀ W, Below W1.heap.size W1 W → W.cell? ⟨w.heap.size, 0, none⟩ = some (.string p) ∧ W.cell? ⟨w.heap.size, 1, none⟩ = some (.string q) := fun W hb => by
    have hx := (hb.block _ hl1).trans hX1
    exact ⟨cell_of_row _ _ 0 _ _ _ hx, cell_of_row _ _ 1 _ _ _ hx⟩
  have NP := hide (fun W => isFactor_any p W)
  have NQ := hide (fun W => isFactor_any q W)
  have HZ : Hid (isFacB p = true → 1 ≤ p.size ∧ p.size ≤ 96) := hide (fun h => by
    unfold isFacB at h
    simp only [Bool.and_eq_true, decide_eq_true_eq] at h
    exact h.1)
  have HZQ : Hid (isFacB q = true → 1 ≤ q.size ∧ q.size ≤ 96) := hide (fun h => by
    unfold isFacB at h
    simp only [Bool.and_eq_true, decide_eq_true_eq] at h
    exact h.1)
  have HC := hide hc; have HB1 := hide hB1; have HW1 := hide hW1
  obtain ⟨c0, c1⟩ := hc W1 (Below.refl _ _)
  clear hc hB1 hX1 hW1 hl1
  cases hfp : isFacB p with
  | false =>
    rw [hfp] at NP
    clear HZ HZQ
    go_enter Tryz.func93, Tryz.ntmps93
    go_upto_region 1 with fail
    rw [← unhide HW1]
    go_wp2_with fail
    refine (unhide NP _).mono ?_
    rintro e y ⟨rfl, hy⟩
    have hy' := hy.symm
    subst hy'
    go_wp2
    exact bodyPost_ret (v := .tuple #[.string ⟨#[]⟩, .slice none 0 0, .int .i64 1]) (by simp [results, Tryz.results93, go_sem]) rfl ⟨.form rfl rfl, unhide HB1⟩
  | true =>
  cases hfq : isFacB q with
  | false =>
    rw [hfp] at NP
    rw [hfq] at NQ
    clear HZ HZQ
    go_enter Tryz.func93, Tryz.ntmps93
    go_upto_region 1 with fail
    rw [← unhide HW1]
    go_wp2_with fail
    refine (unhide NP _).mono ?_
    rintro e y ⟨rfl, hy⟩
    have hy' := hy.symm
    subst hy'
    go_wp2_with fail
    refine (unhide NQ _).mono ?_
    rintro e y2 ⟨rfl, hy⟩
    have hy' := hy.symm
    subst hy'
    go_wp2
    exact bodyPost_ret (v := .tuple #[.string ⟨#[]⟩, .slice none 0 0, .int .i64 1]) (by simp [results, Tryz.results93, go_sem]) rfl ⟨.form rfl rfl, unhide HB1⟩
  | true =>
  obtain ⟨zp1, zp2⟩ := unhide HZ hfp
  obtain ⟨zq1, zq2⟩ := unhide HZQ hfq
  rw [hfp] at NP
  rw [hfq] at NQ
  have RP := hide (fun W => cread_any p (by omega) W)
  have RQ := hide (fun W => cread_any q (by omega) W)
  generalize valN p.data.toList = a at *
  generalize valN q.data.toList = b at *
  have HZP := hide (And.intro zp1 (And.intro zp2 (And.intro zq1 zq2)))
  clear HZ HZQ hfp hfq zp1 zp2 zq1 zq2
  go_enter Tryz.func93, Tryz.ntmps93
  go_upto_region 1 with fail
  rw [← unhide HW1]
  go_wp2_with fail
  refine (unhide NP _).mono ?_
  rintro e y ⟨rfl, hy⟩
  have hy' := hy.symm
  subst hy'
  clear hy
  go_wp2_with fail
  refine (unhide NQ _).mono ?_
  rintro e y2 ⟨rfl, hy⟩
  have hy' := hy.symm
  subst hy'
  clear hy
  go_upto_region 3 with fail
  go_cut [5, 6] (fun u v wx => ∃ (g h : Nat) (r s : List Nat), u = .slice (some ⟨g, 0, none⟩) r.length r.length ∧ v = .slice (some ⟨h, 0, none⟩) s.length s.length ∧ URow wx g r ∧ URow wx h s ∧ g ≠ h ∧ w.heap.size ≤ g ∧ w.heap.size ≤ h ∧ r.length = (p.size + 7) / 8 ∧ s.length = (q.size + 7) / 8 ∧ okW r ∧ okW s ∧ natW r = a ∧ natW s = b ∧ Below w.heap.size w wx)
  case first =>
    have hS0 := unhide HC _ (Below.refl W1.heap.size W1).drew
    go_wp2_with fail
    go_region_held3 (fun W => W.cell? ⟨w.heap.size, 0, none⟩ = some (.string p) ∧ W.cell? ⟨w.heap.size, 1, none⟩ = some (.string q))
      (first | (with_reducible exact hS0) | (with_reducible exact unhide HC _ b2) | (with_reducible exact unhide HC _ b1) | exact hS0 | go_keep)
      ((first | (have hq := b1; go_at_call 125; refine (unhide RQ _).mono ?_; rintro e z2 ⟨row2, rfl, hU2, hl2, ho2, hn2, k2⟩; have HL2 := hide hl2; clear hl2; have b2 : Below W1.heap.size W1 z2 := b1.trans (k2.mono b1.size)) | (go_at_call 125; refine (unhide RP _).mono ?_; rintro e z1 ⟨row1, rfl, hU1, hl1, ho1, hn1, k1⟩; have HL1 := hide hl1; clear hl1; have b1 : Below W1.heap.size W1 z1 := (Below.refl _ _).drew.trans k1)))
    all_goals
      have hlt := hU1.lt
      have hs1 := k1.size
      have hw1 := (unhide HB1).size
      have hU12 := hU1.below k2
      have HF := hide (And.intro hU12 (And.intro hU2 ((unhide HB1).trans (b2.mono (unhide HB1).size))))
      go_wp2
      go_meet
      exact ⟨_, _, row1, row2, rfl, rfl, (unhide HF).1, (unhide HF).2.1, Nat.ne_of_lt hlt, hw1, Nat.le_trans hw1 b1.size, unhide HL1, unhide HL2, ho1, ho2, hn1, hn2, (unhide HF).2.2⟩
  case rest =>
  obtain ⟨g, h, r, s, rfl, rfl, hUr, hUs, hgh, hg, hh, hlr, hls, hor, hos, hnr, hns, hb⟩ := hcut
  obtain ⟨zp1, zp2, zq1, zq2⟩ := unhide HZP
  have hr1 : 1 ≤ r.length ∧ r.length ≤ 12 := by omega
  have hs1 : 1 ≤ s.length ∧ s.length ≤ 12 := by omega
  have hna : ∀ (W : World) (g : Nat) (r : List Nat), URow W g r → NumAt W g 0 r := fun W g r h => by have := h.numAt 0; rw [List.drop_zero] at this; exact this
  have PR := hide (product_any r s g 0 r.length h 0 s.length wc (hna _ _ _ hUr) (hna _ _ _ hUs) hor hos (by omega) (by omega))
  have HUr := hide hUr; have HUs := hide hUs; have HR := hide (And.intro hr1 (And.intro hs1 (And.intro hor (And.intro hos (And.intro hnr hns))))); have HBC := hide hb; have HGH := hide (And.intro hgh (And.intro hg hh)); have HNA := hide hna
  clear hUr hUs hlr hls hor hos hnr hns hb hgh hg hh zp1 zp2 zq1 zq2 hr1 hs1 hna c0 c1 NP NQ RP RQ HZP HW1
  go_wp2_with fail
  refine (unhide PR).mono ?_
  rintro e y1 ⟨row, rfl, hU3, hl3, ho3, hn3, k3⟩
  have LN := hide (length_any row wc.heap.size 0 row.length y1 (unhide HNA _ _ _ hU3) ho3 (by have := unhide HR; omega))
  have HU3 := hide hU3; have H3 := hide (And.intro hl3 (And.intro ho3 hn3)); have K3 := hide k3
  clear hU3 hl3 ho3 hn3 k3 PR
  go_wp2_with fail
  refine (unhide LN).mono ?_
  rintro e y2 ⟨L, rfl, hIL, hL64, hy⟩
  have hy' := hy.symm
  subst hy'
  clear hy
  have hL2 : L ≤ 1536 := by have := unhide HR; have := (unhide H3).1; omega
  obtain ⟨k, hk⟩ : ∃ k, k = (L + 7) / 8 := ⟨_, rfl⟩
  have e0 : wrap64 ((L : Int) + 7) = (L : Int) + 7 := by first | (unfold wrap64; omega) | (simp [wrap64]; omega)
  have e1 : IntKind.i64.wrap ((L : Int) + 7) = (L : Int) + 7 := by rw [IntKind.wrap_i64]; omega
  have e2 : ((L : Int) + 7).tdiv 8 = (k : Int) := by rw [Int.tdiv_eq_ediv_of_nonneg (by omega)]; omega
  have e3 : ((L : Int) + 7) / 8 = (k : Int) := by omega
  have e4 : IntKind.i64.wrap (k : Int) = (k : Int) := by rw [IntKind.wrap_i64]; omega
  have e5 : wrap64 (k : Int) = (k : Int) := by first | (unfold wrap64; omega) | (simp [wrap64]; omega)
  have CT := hide (ctext_any row wc.heap.size 0 row.length k y1 (unhide HNA _ _ _ (unhide HU3)) (unhide H3).2.1 (by rw [hk]; exact len_room hL64) (by omega))
  have HKL := hide hk; have HIL := hide hIL
  clear hIL hL64 hL2 hk LN
  go_wp2_with fail
  refine (unhide CT).mono ?_
  rintro e y3 ⟨rfl, k4⟩
  obtain ⟨m, hm⟩ : ∃ m, m = strOfNums (bigL (natW row) k) := ⟨_, rfl⟩
  have hmab : m = strOfNums (bigL (a * b) ((L + 7) / 8)) := by rw [hm, (unhide H3).2.2, unhide HKL]; obtain ⟨_, _, _, _, h1, h2⟩ := unhide HR; rw [h1, h2]
  have hIL2 : IsLenW (a * b) L := by have := unhide HIL; rw [(unhide H3).2.2] at this; obtain ⟨_, _, _, _, h1, h2⟩ := unhide HR; rw [h1, h2] at this; exact this
  rw [← hm]
  have NM := hide (fun W => isModulus_any m W)
  have HMA := hide hmab; have HI2 := hide hIL2
  have b13 : Below wc.heap.size wc y3 := (unhide K3).trans (k4.mono (unhide K3).size)
  have B13 := hide b13
  have BW3 := hide ((unhide HBC).trans (b13.mono (unhide HBC).size))
  clear hm hmab hIL2 k4 b13 e0 e1 e2 e3 e4 e5 CT
  cases hmd : isModB m with
  | false =>
    rw [hmd] at NM
    have HMD := hide hmd
    clear hmd
    go_wp2_with fail
    refine (unhide NM _).mono ?_
    rintro e y4 ⟨rfl, hy⟩
    have hy' := hy.symm
    subst hy'
    clear hy
    go_wp2
    exact bodyPost_ret (v := .tuple #[.string ⟨#[]⟩, .slice none 0 0, .int .i64 1]) (by simp [results, Tryz.results93, go_sem]) rfl ⟨.mod L rfl (unhide HI2) (by rw [← unhide HMA]; exact unhide HMD) rfl, unhide BW3⟩
  | true =>
  rw [hmd] at NM
  have hodd := mod_odd (n := a * b) (k := (L + 7) / 8) (by rw [← unhide HMA]; exact hmd)
  obtain ⟨oa, ob⟩ := odd_mul hodd
  obtain ⟨hr1, hs1, hor, hos, hnr, hns⟩ := unhide HR
  obtain ⟨x, hx⟩ : ∃ x, r[0]? = some x := ⟨_, List.getElem?_eq_getElem (by omega)⟩
  obtain ⟨z, hz⟩ : ∃ z, s[0]? = some z := ⟨_, List.getElem?_eq_getElem (by omega)⟩
  obtain ⟨x1, nx, ox⟩ := dec_row hx hor (by rw [hnr]; exact oa)
  obtain ⟨z1, nz, oz⟩ := dec_row hz hos (by rw [hns]; exact ob)
  have x64 := okW_get hor hx
  have z64 := okW_get hos hz
  have wx : IntKind.u64.wrap ((x : Int) - 1) = ((x - 1 : Nat) : Int) := wrN (by omega) (by unfold B64 at x64; omega)
  have wz : IntKind.u64.wrap ((z : Int) - 1) = ((z - 1 : Nat) : Int) := wrN (by omega) (by unfold B64 at z64; omega)
  obtain ⟨hgh, hg, hh⟩ := unhide HGH
  have u1 := (unhide HUr).below (unhide B13)
  have u2 := (unhide HUs).below (unhide B13)
  have q1 : y3.cell? ⟨g, 0, none⟩ = some (.int .u64 (x : Nat)) := u1.cell 0 x hx
  have f1 : y3.frozen? ⟨g, 0, none⟩ = false := u1.frozen 0
  obtain ⟨x', hx'⟩ : ∃ x', x' = x - 1 := ⟨_, rfl⟩
  obtain ⟨z', hz'⟩ : ∃ z', z' = z - 1 := ⟨_, rfl⟩
  rw [← hx'] at wx nx ox
  rw [← hz'] at wz nz oz
  obtain ⟨W5, hW5⟩ : ∃ W5, W5 = y3.setCell ⟨g, 0, none⟩ (.int .u64 (x' : Nat)) := ⟨_, rfl⟩
  have v1 : URow W5 g (r.set 0 x') := by rw [hW5]; exact u1.set 0 x'
  have v2 : URow W5 h s := by
    have ho := (Only.refl g y3).setCell 0 (.int .u64 (x' : Nat))
    rw [← hW5] at ho
    unfold URow
    rw [ho.block h (Ne.symm hgh)]
    exact u2
  obtain ⟨W6, hW6⟩ : ∃ W6, W6 = W5.setCell ⟨h, 0, none⟩ (.int .u64 (z' : Nat)) := ⟨_, rfl⟩
  have p2 : URow W6 h (s.set 0 z') := by rw [hW6]; exact v2.set 0 z'
  have p1 : URow W6 g (r.set 0 x') := by
    have ho := (Only.refl h W5).setCell 0 (.int .u64 (z' : Nat))
    rw [← hW6] at ho
    unfold URow
    rw [ho.block g hgh]
    exact v1
  have q2 : W5.cell? ⟨h, 0, none⟩ = some (.int .u64 (z : Nat)) := v2.cell 0 z hz
  have f2 : W5.frozen? ⟨h, 0, none⟩ = false := v2.frozen 0
  have b6 : Below w.heap.size w W6 := by rw [hW6, hW5]; exact Below.setCell (p := ⟨h, 0, none⟩) (Below.setCell (p := ⟨g, 0, none⟩) (unhide BW3) hg _) hh _
  have PR2 := hide (product_any (r.set 0 x') (s.set 0 z') g 0 r.length h 0 s.length W6 (unhide HNA _ _ _ p1) (unhide HNA _ _ _ p2) ox oz (by rw [List.length_set]; omega) (by rw [List.length_set]; omega))
  rw [nx, nz, hnr, hns, List.length_set, List.length_set] at PR2
  have HW5 := hide hW5; have HW6 := hide hW6; have B6 := hide b6; have HMD := hide hmd
  have lr : (0 : Int) < (r.length : Int) := by omega
  have ls : (0 : Int) < (s.length : Int) := by omega
  clear hmd hodd oa ob hr1 hs1 hor hos hnr hns hx hz x1 nx ox z1 nz oz x64 z64 hgh hg hh u1 u2 hx' hz' hW5 hW6 v1 v2 p1 p2 b6 HUr HUs HU3 BW3 B13
  go_wp2_with fail
  refine (unhide NM _).mono ?_
  rintro e y4 ⟨rfl, hy⟩
  have hy' := hy.symm
  subst hy'
  clear hy NM
  go_upto_region 9 with fail
  rw [← unhide HW5]
  clear q1 f1 wx
  go_upto_region 10 with fail
  rw [← unhide HW6]
  clear q2 f2 wz lr ls
  go_wp2_with fail
  refine (unhide PR2).mono ?_
  rintro e y5 ⟨row5, rfl, hU5, hl5, ho5, hn5, k5⟩
  have TH := third_any row5 W6.heap.size 0 row5.length y5 (unhide HNA _ _ _ hU5) ho5 (by have := unhide HR; omega)
  rw [hn5] at TH
  have HR5 : Hid (row5.length ≤ 60) := hide (by have := unhide HR; omega)
  have HT := hide TH; have B5 := hide ((unhide B6).trans (k5.mono (unhide B6).size))
  clear TH hU5 hl5 ho5 hn5 k5 PR2
  go_wp2_with fail
  refine (unhide HT).mono ?_
  rintro e y6 ⟨hcase, k6⟩
  have B66 := hide ((unhide B5).trans (k6.mono (unhide B5).size))
  have hs5 := (unhide B5).size
  clear k6
  rcases hcase with ⟨h3, rfl⟩ | ⟨h3, q5, row6, rfl, hq5, hU6, hl6, ho6, hn6⟩
  · have H3' := hide h3
    clear h3
    go_wp2
    exact bodyPost_ret (v := .tuple #[.string ⟨#[]⟩, .slice none 0 0, .int .i64 5]) (by simp [results, Tryz.results93, go_sem]) rfl ⟨.third L rfl (unhide HI2) (by rw [← unhide HMA]; exact unhide HMD) (unhide H3') rfl, unhide B66⟩
  · have HF := hide (And.intro h3 (And.intro hq5 (And.intro hU6 (And.intro hl6 (And.intro ho6 hn6)))))
    clear h3 hq5 hU6 hl6 ho6 hn6
    go_wp2
    obtain ⟨h3, hq5, hU6, hl6, ho6, hn6⟩ := unhide HF
    refine bodyPost_ret (v := .tuple #[.string m, .slice (some ⟨q5, 0, none⟩) (row5.length + 1) (row5.length + 1), .int .i64 0]) (by simp [results, Tryz.results93, go_sem]) rfl ⟨.ok L q5 row6 rfl (unhide HI2) (by rw [← unhide HMA]; exact unhide HMD) h3 (by rw [← unhide HMA, hl6]) hU6 ho6 (by omega) hn6 (by have := unhide HR5; omega), unhide B66⟩
end Go.Proofs.YtajkbkljonejnaaGreatDoor
namespace Go.Proofs.YtajkbkljonejnaaGreatDoor
open Go.RowKit Go.Shelf
set_option linter.unusedVariables false
set_option linter.unusedSimpArgs false
set_option maxRecDepth 100000
def lenBN (n : Nat) : Nat := if n = 0 then 0 else n.log2 + 1
theorem isLen_lenBN {n L : Nat} (h : IsLenW n L) : L = lenBN n := by
  obtain ⟨h1, h2⟩ := h
  unfold lenBN
  by_cases h0 : n = 0
  · rw [if_pos h0]
    rcases h2 with h2 | h2
    · exact h2
    · have := Nat.two_pow_pos (L - 1)
      omega
  · rw [if_neg h0]
    have hL : 1 ≤ L := by
      rcases Nat.eq_zero_or_pos L with hz | hz
      · subst hz; simp at h1; omega
      · exact hz
    rcases h2 with h2 | h2
    · omega
    · have : n.log2 = L - 1 := (Nat.log2_eq_iff h0).2 ⟨h2, by rw [Nat.sub_add_cancel hL]; exact h1⟩
      omega
def secT (a b : Nat) : ByteArray := strOfNums (bigL (a * b) ((lenBN (a * b) + 7) / 8))
def secE (p q : ByteArray) : Int := bif isFacB p && isFacB q then (bif isModB (secT (valN p.data.toList) (valN q.data.toList)) then (if (valN p.data.toList - 1) * (valN q.data.toList - 1) % 3 = 0 then 5 else 0) else 1) else 1
def secM (p q : ByteArray) : ByteArray := if secE p q = 0 then secT (valN p.data.toList) (valN q.data.toList) else ⟨#[]⟩
theorem open_first {p q : ByteArray} {w w' : World} {e : Ending} (h : OpenPost (valN p.data.toList) (valN q.data.toList) (isFacB p && isFacB q) w e w') : ∃ v, e = .returned (.tuple #[.string (secM p q), v, .int .i64 (secE p q)]) := by
  cases h with
  | form hf he =>
    have hE : secE p q = 1 := by unfold secE; rw [hf]; rfl
    have hM : secM p q = ⟨#[]⟩ := by unfold secM; rw [hE]; rfl
    rw [hE, hM]; exact ⟨_, he⟩
  | mod L hf hL hm he =>
    rw [isLen_lenBN hL] at hm
    have hE : secE p q = 1 := by unfold secE secT; rw [hf, hm]; rfl
    have hM : secM p q = ⟨#[]⟩ := by unfold secM; rw [hE]; rfl
    rw [hE, hM]; exact ⟨_, he⟩
  | third L hf hL hm h3 he =>
    rw [isLen_lenBN hL] at hm
    have hE : secE p q = 5 := by unfold secE secT; rw [hf, hm, if_pos h3]; rfl
    have hM : secM p q = ⟨#[]⟩ := by unfold secM; rw [hE]; rfl
    rw [hE, hM]; exact ⟨_, he⟩
  | ok L g row hf hL hm h3 he hU ho hg hn hlr =>
    rw [isLen_lenBN hL] at hm he
    have hE : secE p q = 0 := by unfold secE secT; rw [hf, hm, if_neg h3]; rfl
    have hM : secM p q = secT (valN p.data.toList) (valN q.data.toList) := by unfold secM; rw [if_pos hE]
    rw [hE, hM]; exact ⟨_, he⟩
set_option maxHeartbeats 1000000 in
theorem modulus_any (p q : ByteArray) (w : World) :
    Calls Tryz.prog 42 #[.agg #[.string p, .string q]] w fun e w' => e = .returned (.tuple #[.string (secM p q), .int .i64 (secE p q)]) ∧ Below w.heap.size w w' := by
  have n0 : ∀ W, Calls Tryz.prog 93 #[.agg #[.string p, .string q]] W fun e w' => (∃ v, e = .returned (.tuple #[.string (secM p q), v, .int .i64 (secE p q)])) ∧ Below W.heap.size W w' := fun W => (open_any p q W).mono fun e w' h => ⟨open_first h.1, h.2⟩
  have N0 := hide n0
  have HB := hide (fun o : Obj => (Below.refl w.heap.size w).alloc (Nat.le_refl _) o)
  clear n0
  generalize secM p q = mm at *
  generalize secE p q = me at *
  go_enter Tryz.func42, Tryz.ntmps42
  go_wp2_with fail
  refine (unhide N0 _).mono ?_
  rintro e y ⟨⟨v, rfl⟩, k⟩
  have HK := hide ((unhide HB _).trans (k.mono (unhide HB _).size))
  clear k
  go_wp2
  go_ret2
  exact ⟨rfl, unhide HK⟩
end Go.Proofs.YtajkbkljonejnaaGreatDoor
