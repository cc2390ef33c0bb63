/- divide of the program, by 3. -/
import Derived.Test.YtjipcmmaemokhaaDoorM28
import Derived.Test.YtjipcmmaemokhaaDoorM06
namespace Go.Proofs.YtjipcmmaemokhaaDoor
open Go.RowKit Go.Shelf
set_option linter.unusedVariables false
set_option linter.unusedSimpArgs false
set_option maxRecDepth 100000

theorem div3_any (hi lo : Nat) (h1 : hi ≤ 2) (hlo : lo < B64) (w : World) :
    Calls Tryd.prog 30 #[.int .u64 hi, .int .u64 lo, .int .u64 3] w fun e w' => e = .returned (.tuple #[.int .u64 ((hi * B64 + lo) / 3 : Nat), .int .u64 ((hi * B64 + lo) % 3 : Nat)]) ∧ Below w.heap.size w w' := by
  by_cases h0 : hi = 0
  · subst h0
    have := div3_zero lo hlo w
    rw [Nat.zero_mul, Nat.zero_add]
    exact this
  · refine (div3_two hi lo (by omega) h1 hlo w).mono ?_
    rintro e w' ⟨rfl, rfl⟩
    exact ⟨rfl, Below.refl _ _⟩
theorem drop_consN {xs : List Nat} {j x : Nat} (h : xs[j]? = some x) : xs.drop j = x :: xs.drop (j + 1) := by
  have hj : j < xs.length := (List.getElem?_eq_some_iff.1 h).1
  rw [List.drop_eq_getElem_cons hj]
  congr 1
  rw [List.getElem?_eq_getElem hj] at h
  exact Option.some.inj h
/-- one word more -/
theorem div_step {x N : Nat} (hx : x < B64) : (N % 3 * B64 + x) / 3 < B64 ∧ (x + B64 * N) / 3 = (N % 3 * B64 + x) / 3 + B64 * (N / 3) ∧ (x + B64 * N) % 3 = (N % 3 * B64 + x) % 3 := by
  unfold B64 at *
  omega
set_option maxHeartbeats 4000000 in
theorem divide3_any (xs : List Nat) (g o c : Nat) (w : World) (hX : NumAt w g o xs) (hx : okW xs) (hxl : (xs.length : Int) ≤ 2000) :
    Calls Tryd.prog 24 #[.slice (some ⟨g, o, none⟩) xs.length c, .int .u64 3] w fun e w' => ∃ row : List Nat, e = .returned (.tuple #[.slice (some ⟨w.heap.size, 0, none⟩) xs.length xs.length, .int .u64 (natW xs % 3 : Nat)]) ∧ URow w' w.heap.size row ∧ row.length = xs.length ∧ okW row ∧ natW row = natW xs / 3 ∧ Below w.heap.size w w' := by
  obtain ⟨i0, hi, hz0, hz1, hz2⟩ := info_partsN infoU64
  go_enter Tryd.func24, Tryd.ntmps24
  go_wp2_with (at_make; refine wpList_make_full _ rfl _ _ 36 rfl w.heap.size 40 i0 (.int .u64 0) 1 Tryd.underlying36 hi hz0 hz1 .i64 .i64 _ _ xs.length rfl rfl (by simp) (by simp) (by rw [hz2]; omega) (by unfold maxLen; omega) (Nat.le_refl _) ?_)
  intro w1 hown hgrow
  have hU := made_urow hown
  have hb : Below w.heap.size w w1 := (Below.refl _ _).grown hgrow (Nat.le_refl _) (fun q hq => by cases hq)
  clear hown hgrow hi hz0 hz1 hz2
  have HX := hide hX
  have hgl := hX.1
  have HXO := hide hx
  clear hX hx
  obtain ⟨n, hn⟩ : ∃ n, n = xs.length := ⟨_, rfl⟩
  rw [← hn] at hU hxl ⊢
  have HN := hide hn
  clear hn
  go_wp2
  go_loopw [15, 7] (fun i r wr => ∃ (k : Nat) (row : List Nat) (rr : Nat), k ≤ n ∧ i = .int .i64 k ∧ r = .int .u64 rr ∧ rr = natW (xs.drop (n - k)) % 3 ∧ row.length = n ∧ okW row ∧ natW (row.drop (n - k)) = natW (xs.drop (n - k)) / 3 ∧ URow wr w.heap.size row ∧ Below w.heap.size w wr) (fun i _ _ => n - (intOf i).toNat)
  case atStart =>
    have h0 : xs.drop (n - 0) = [] := by rw [Nat.sub_zero, unhide HN, List.drop_length]
    exact ⟨0, _, 0, Nat.zero_le _, rfl, rfl, by rw [h0]; rfl, by simp, okW_zeros _, by rw [h0, Nat.sub_zero, List.drop_of_length_le (by simp)]; rfl, hU, hb⟩
  case round =>
    clear hU hb
    obtain ⟨k, row, rr, hk, rfl, rfl, hrr, hrl, hrow, hr, hU, hbel⟩ := hrel
    by_cases hlt : k < n
    · obtain ⟨j, hj⟩ : ∃ j, j = n - 1 - k := ⟨_, rfl⟩
      have hjn : j < n := by omega
      obtain ⟨x, hxj⟩ : ∃ x, xs[j]? = some x := ⟨_, List.getElem?_eq_getElem (by have := unhide HN; omega)⟩
      obtain ⟨y, hyj⟩ : ∃ y, row[j]? = some y := ⟨_, List.getElem?_eq_getElem (by omega)⟩
      have hx64 := okW_get (unhide HXO) hxj
      have hjk : n - k = j + 1 := by omega
      rw [hjk] at hrr hr
      have hstep := div_step (x := x) (N := natW (xs.drop (j + 1))) hx64
      rw [← hrr] at hstep
      have hr2 : rr ≤ 2 := by omega
      have ND := hide (fun W => div3_any rr x hr2 hx64 W)
      obtain ⟨Q, hQ⟩ : ∃ Q, Q = (rr * B64 + x) / 3 := ⟨_, rfl⟩
      obtain ⟨R, hR⟩ : ∃ R, R = (rr * B64 + x) % 3 := ⟨_, rfl⟩
      rw [← hQ, ← hR] at ND
      rw [← hQ, ← hR] at hstep
      have hk1 : n - (k + 1) = j := by omega
      have hnx : natW (xs.drop j) = x + B64 * natW (xs.drop (j + 1)) := by rw [drop_consN hxj]; rfl
      have hset : (row.set j Q)[j]? = some Q := by rw [List.getElem?_set_self (by omega)]
      have hnr : natW ((row.set j Q).drop (n - (k + 1))) = natW (xs.drop (n - (k + 1))) / 3 := by
        rw [hk1, drop_consN hset, hnx, hstep.2.1, ← hr, List.drop_set_of_lt (by omega)]
        rfl
      have hR2 : R = natW (xs.drop (n - (k + 1))) % 3 := by rw [hk1, hnx]; exact hstep.2.2.symm
      have hok2 := okW_set hrow j Q hstep.1
      have cx : wr.cell? ⟨g, o + j, none⟩ = some (.int .u64 (x : Nat)) := (hbel.cell (p := ⟨g, o + j, none⟩) hgl).trans ((unhide HX).2 j x hxj)
      have hki : (k : Int) < (n : Int) := by omega
      have HJ := hide hj; have HU := hide hU; have HB := hide hbel; have HNR := hide hnr; have HR2 := hide hR2; have HOK := hide hok2; have HYJ := hide hyj
      have hj0 : (0 : Int) ≤ (j : Int) := by omega
      have hj1 : (j : Int) < (n : Int) := by omega
      have HJN := hide hjn
      clear hj hU hbel hnr hR2 hok2 hyj hxj hx64 hrr hr hstep hQ hR hset hnx hjk hk1
      go_upto_region 6 with fail
      go_cut [9] (fun v wx => v = .int .i64 (j : Nat) ∧ wx = wr)
      case first =>
        go_wp2
        go_meet
        refine ⟨?_, rfl⟩
        have h := unhide HJ
        have h2 := unhide HJN
        simp [wrap64]
        omega
      case rest =>
      obtain ⟨rfl, hwc⟩ := hcut
      have hwc' := hwc.symm
      subst hwc'
      clear hwc
      go_wp2_with fail
      refine (unhide ND _).mono ?_
      rintro e y1 ⟨rfl, k1⟩
      have hU1 := (unhide HU).below k1
      have q1 : y1.cell? ⟨w.heap.size, j, none⟩ = some (.int .u64 (y : Nat)) := hU1.cell j y (unhide HYJ)
      have f1 : y1.frozen? ⟨w.heap.size, j, none⟩ = false := hU1.frozen j
      have H2 := hide (hU1.set j Q)
      have B2 := hide (Below.setCell (p := ⟨w.heap.size, j, none⟩) ((unhide HB).trans (k1.mono (unhide HB).size)) (Nat.le_refl _) (.int .u64 (Q : Nat)))
      clear hU1 k1 cx
      go_wp2
      go_roundw
      case rel => exact ⟨k + 1, row.set j Q, R, by omega, by go_num, rfl, unhide HR2, by rw [List.length_set]; exact hrl, unhide HOK, unhide HNR, unhide H2, unhide B2⟩
      case measure => simp [intOf]; omega
    · have hkn : k = n := by omega
      subst hkn
      rw [Nat.sub_self, List.drop_zero] at hrr hr
      rw [List.drop_zero] at hr
      have HU := hide hU; have HB := hide hbel; have HR := hide hr; have HRR := hide hrr
      clear hU hbel hr hrr
      go_wp2
      go_ret2
      refine ⟨row, ?_, unhide HU, hrl.trans (unhide HN), hrow, unhide HR, unhide HB⟩
      rw [← unhide HRR, ← unhide HN]
      rfl
end Go.Proofs.YtjipcmmaemokhaaDoor
