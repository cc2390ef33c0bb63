/- times and twice of the program. -/
import Derived.Test.YtckkhpegimkefaaGreatDoorM09
namespace Go.Proofs.YtckkhpegimkefaaGreatDoor
open Go.RowKit Go.Shelf
set_option linter.unusedVariables false

/-- the box of a modulus -/
def BoxAt (w : World) (b gm om mn mc inv : Nat) (sa : Option Addr) (sn sc : Nat) : Prop := w.heap[b]? = some (.cells #[.slice (some ⟨gm, om, none⟩) mn mc, .int .u64 (inv : Nat), .slice sa sn sc] 89 (0, 0))
theorem BoxAt.cell0 {w : World} {b gm om mn mc inv : Nat} {sa : Option Addr} {sn sc : Nat} (h : BoxAt w b gm om mn mc inv sa sn sc) : w.cell? ⟨b, 0, none⟩ = some (.slice (some ⟨gm, om, none⟩) mn mc) := (cell_of_row _ _ 0 _ _ _ h).trans rfl
theorem BoxAt.cell1 {w : World} {b gm om mn mc inv : Nat} {sa : Option Addr} {sn sc : Nat} (h : BoxAt w b gm om mn mc inv sa sn sc) : w.cell? ⟨b, 1, none⟩ = some (.int .u64 (inv : Nat)) := (cell_of_row _ _ 1 _ _ _ h).trans rfl
theorem BoxAt.cell2 {w : World} {b gm om mn mc inv : Nat} {sa : Option Addr} {sn sc : Nat} (h : BoxAt w b gm om mn mc inv sa sn sc) : w.cell? ⟨b, 2, none⟩ = some (.slice sa sn sc) := (cell_of_row _ _ 2 _ _ _ h).trans rfl
theorem BoxAt.only {w w' : World} {b gm om mn mc inv q : Nat} {sa : Option Addr} {sn sc : Nat} (h : BoxAt w b gm om mn mc inv sa sn sc) (ho : Only q w w') (hq : b ≠ q) : BoxAt w' b gm om mn mc inv sa sn sc := by
  unfold BoxAt
  rw [ho.block b hq]
  exact h
theorem NumAt.from {w w' : World} {g off B : Nat} {ws : List Nat} (h : NumAt w g off ws) (hb : Below B w w') (hg : g < B) (hB : B ≤ w'.heap.size) : NumAt w' g off ws :=
  ⟨by omega, fun i x hi => (hb.cell (p := ⟨g, off + i, none⟩) hg).trans (h.2 i x hi)⟩
theorem NumAt.drewN1 {w : World} {g off : Nat} {ws : List Nat} (h : NumAt w g off ws) : NumAt w.drew g off ws := h
theorem wrapMulN (a b c : Nat) (h : a * b % B64 = c) : IntKind.u64.wrap ((a : Int) * (b : Int)) = (c : Int) := by
  rw [← h, ← Int.natCast_mul, Mul64.wrapM]
  rfl
theorem mont_end (X Y M q P D : Nat) (h : X * Y + q * M = P * D) : D % M * P % M = X * Y % M := by
  rw [Nat.mul_mod, Nat.mod_mod, ← Nat.mul_mod, Nat.mul_comm D, ← h, Nat.add_mul_mod_self_right]
theorem box_made {w w1 : World} {gm om n mc inv N : Nat} {sa : Option Addr} {sn sc : Nat}
    (hown : w1.ownsRow (w.heap.size + 1) 82 1 (.slice (some ⟨w.heap.size + 1, 0, none⟩) N N) N (madeCells #[Value.int .u64 0] N).toList)
    (hgrow : (w.alloc (.cells #[.slice (some ⟨gm, om, none⟩) n mc, .int .u64 (inv : Nat), .slice sa sn sc] 89)).grownBy w1 none) :
    BoxAt w1 w.heap.size gm om n mc inv sa sn sc ∧ URow w1 (w.heap.size + 1) (List.replicate N 0) ∧ Below w.heap.size w w1 := by
  have hb1 : Below (w.heap.size + 1) (w.alloc (.cells #[.slice (some ⟨gm, om, none⟩) n mc, .int .u64 (inv : Nat), .slice sa sn sc] 89)) w1 := by
    have := (Below.refl (w.heap.size + 1) (w.alloc (.cells #[.slice (some ⟨gm, om, none⟩) n mc, .int .u64 (inv : Nat), .slice sa sn sc] 89))).grown hgrow (by simp) (fun q hq => by cases hq)
    exact this
  have hb0 : Below w.heap.size w (w.alloc (.cells #[.slice (some ⟨gm, om, none⟩) n mc, .int .u64 (inv : Nat), .slice sa sn sc] 89)) := (Below.refl _ _).alloc (Nat.le_refl _) _
  refine ⟨?_, ?_, hb0.trans (hb1.mono (by omega))⟩
  · unfold BoxAt
    rw [hb1.block _ (by omega)]
    exact heap_alloc_new w _
  · have := own_wholeN hown
    rw [made_words] at this
    exact this

set_option maxHeartbeats 1000000 in
set_option maxRecDepth 100000 in
theorem times_any (xs ys ms : List Nat) (m0 inv : Nat) (gx ox xc gy oy yc gm om mc : Nat) (sa : Option Addr) (sn sc : Nat) (w : World)
    (hX : NumAt w gx ox xs) (hY : NumAt w gy oy ys) (hM : NumAt w gm om ms) (hx : okW xs) (hy : okW ys) (hm : okW ms)
    (hxl : xs.length = ms.length) (hyl : ys.length = ms.length) (hxm : natW xs < natW ms) (hm0 : ms[0]? = some m0) (hinv : (m0 * inv + 1) % B64 = 0) (hib : inv < B64) (hml : (ms.length : Int) ≤ 400) :
    Calls Tryz.prog 87 #[modV gm om ms.length mc inv (.slice sa sn sc), .slice (some ⟨gx, ox, none⟩) xs.length xc, .slice (some ⟨gy, oy, none⟩) ys.length yc] w fun e w' => ∃ zg zo zc zs, e = .returned (.slice (some ⟨zg, zo, none⟩) zs.length zc) ∧ NumAt w' zg zo zs ∧ zs.length = ms.length ∧ okW zs ∧ natW zs < natW ms ∧ natW zs * B64 ^ ms.length % natW ms = natW xs * natW ys % natW ms ∧ zs.length ≤ zc ∧ Below w.heap.size w w' := by
  obtain ⟨i0, hi, hz0, hz1, hz2⟩ := info_partsN infoU64
  unfold modV
  obtain ⟨n, hn⟩ : ∃ n, n = ms.length := ⟨_, rfl⟩
  have hxn : xs.length = n := by rw [hxl, hn]
  have hyn : ys.length = n := by rw [hyl, hn]
  rw [hxn, hyn, ← hn]
  rw [← hn] at hml
  have HN := hide hn
  have HXN := hide hxn
  have HYN := hide hyn
  have HX := hide hX; have HY := hide hY; have HM := hide hM
  have Hx := hide hx; have Hy := hide hy; have Hm := hide hm
  have HXM := hide hxm; have HM0 := hide hm0; have HI := hide hinv; have HIB := hide hib
  have gx1 := hX.1; have gy1 := hY.1; have gm1 := hM.1
  have hMpos : 0 < natW ms := Nat.lt_of_le_of_lt (Nat.zero_le _) hxm
  have HMP := hide hMpos
  clear hn hxn hyn hX hY hM hx hy hm hxl hyl hxm hm0 hinv hib hMpos
  go_enter Tryz.func87, Tryz.ntmps87
  go_wp2_with (at_make; refine wpList_make_full _ rfl _ _ 58 rfl (w.heap.size + 1) 82 i0 (.int .u64 0) 1 Tryz.underlying58 hi hz0 hz1 .i64 .i64 _ _ (2 * n + 1) rfl rfl (by simp) (by simp) (by rw [hz2]; omega) (by unfold maxLen; omega) (by simp) ?_)
  intro w1 hown hgrow
  obtain ⟨hBX, hU, hbel⟩ := box_made hown hgrow
  clear hown hgrow hi hz0 hz1 hz2
  obtain ⟨N, hNN⟩ : ∃ N, N = 2 * n + 1 := ⟨_, rfl⟩
  rw [← hNN] at hU ⊢
  have HNN := hide hNN
  have hNi : (N : Int) ≤ 1000 := by omega
  have hNn : (n : Int) < (N : Int) := by omega
  clear hNN
  go_wp2
  go_loopw [18] (fun i wr => ∃ (k q : Nat) (row : List Nat), k ≤ n ∧ i = .int .i64 k ∧ MontAt xs ys ms n k row q ∧ URow wr (w.heap.size + 1) row ∧ BoxAt wr w.heap.size gm om n mc inv sa sn sc ∧ Below w.heap.size w wr) (fun i _ => n - (intOf i).toNat)
  case atStart => exact ⟨0, 0, _, Nat.zero_le _, rfl, ⟨by rw [List.length_replicate]; exact unhide HNN, okW_zeros _, by rw [natW_zeros]; simp [natW], by simp [natW], by simp⟩, hU, hBX, hbel⟩
  case round =>
    clear hU hBX hbel
    obtain ⟨k, q, row, hk, rfl, hA, hU, hBX, hbel⟩ := hrel
    have hNN := unhide HNN
    by_cases hlt : k < n
    · obtain ⟨y, hyk⟩ : ∃ x, ys[k]? = some x := ⟨ys[k]'(by have := unhide HYN; omega), List.getElem?_eq_getElem (by have := unhide HYN; omega)⟩
      have hyb := okW_get (unhide Hy) hyk
      have cy : wr.cell? ⟨gy, oy + k, none⟩ = some (.int .u64 (y : Nat)) := (hbel.cell (p := ⟨gy, oy + k, none⟩) gy1).trans ((unhide HY).2 k y hyk)
      have hrl := hA.len
      have hpl : (row.take k).length = k := by rw [List.length_take]; omega
      have hdl : (row.drop k).length = N - k := by rw [List.length_drop]; omega
      have hU2 : URow wr (w.heap.size + 1) (row.take k ++ row.drop k) := by rw [List.take_append_drop]; exact hU
      have hwz : w.heap.size + 1 < wr.heap.size := hU.lt
      have hXr : NumAt wr gx ox xs := (unhide HX).from hbel gx1 (by omega)
      have hD := hA.drop_lt (unhide Hy) (unhide HYN) (by omega) (unhide HMP)
      have hMl := natW_lt (unhide Hm)
      have hXl := natW_lt (unhide Hx)
      rw [← unhide HN] at hMl
      rw [unhide HXN] at hXl
      have hxm := unhide HXM
      have hp2 : B64 ^ (n + 2) ≤ B64 ^ (N - k) := Nat.pow_le_pow_right B64_pos (by omega)
      rw [Nat.pow_succ, Nat.pow_succ] at hp2
      have hyx : y * natW xs ≤ (B64 - 1) * B64 ^ n := Nat.mul_le_mul (by omega) (by omega)
      have hroom1 : natW (row.drop k) + y * natW xs < B64 ^ (row.drop k).length := by
        rw [hdl]
        have := pow_room (B64 ^ n) (Nat.pow_pos B64_pos) (natW (row.drop k)) (y * natW xs) 0 0 (by omega) hyx (Nat.zero_le _)
        omega
      have A1 := fun w2 tc (hw2 : URow w2 (w.heap.size + 1) (row.take k ++ row.drop k)) (hx2 : NumAt w2 gx ox xs) => addTimes_any (row.take k) (row.drop k) xs y (w.heap.size + 1) tc gx ox xc w2 hw2 hx2 (by omega) (by rw [hdl, unhide HXN]; omega) hyb (unhide Hx) (okW_drop hA.ok k) hroom1 (by rw [hdl]; omega)
      rw [hpl, hdl, unhide HXN] at A1
      have HA1 := hide A1
      have HA := hide hA
      have HU2 := hide hU2
      have HXr := hide hXr
      have HBX := hide hBX
      have HB := hide hbel
      have hki : (k : Int) < (n : Int) := by omega
      have hkN : (k : Int) ≤ (N : Int) := by omega
      have hNk : ¬ N = k := by omega
      have HFACT := hide (show natW (row.drop k) < 2 * B64 ^ n ∧ y * natW xs ≤ (B64 - 1) * B64 ^ n ∧ natW ms ≤ B64 ^ n ∧ B64 ^ n * B64 * B64 ≤ B64 ^ (N - k) from ⟨by omega, hyx, by omega, hp2⟩)
      clear A1 hU2 hXr hroom1 hD hMl hXl hxm hp2 hyx hA hU hBX hbel hNN hrl hdl
      go_wp2_with fail
      go_region_with ((go_at_call 71; refine (unhide HA1 _ _ (unhide HU2).drew ((unhide HXr).drewN1)).mono ?_; rintro e y1 ⟨rfl, u1, hU1, hul1, huo1, hun1, hon1⟩))
      all_goals
        have hN := unhide HN
        have hNN := unhide HNN
        have hXN := unhide HXN
        obtain ⟨t, ht⟩ : ∃ t, u1[0]? = some t := ⟨u1[0]'(by rw [hul1]; omega), List.getElem?_eq_getElem (by rw [hul1]; omega)⟩
        have hpk : (row.take k).length = k := hpl
        have ct : y1.cell? ⟨w.heap.size + 1, k, none⟩ = some (.int .u64 (t : Nat)) := hU1.cell k t (by
          have := get_pre (pre := row.take k) (u := u1) (i := 0)
          rw [hpk, Nat.add_zero] at this
          rw [this]; exact ht)
        have hBX1 : BoxAt y1 w.heap.size gm om n mc inv sa sn sc := BoxAt.only (w := wr.drew) (unhide HBX) hon1 (by omega)
        have b0 := hBX1.cell0
        have b1 := hBX1.cell1
        have hon2 : Only (w.heap.size + 1) wr y1 := (Only.refl _ wr).drew.trans hon1
        have W1 := hide ((unhide HB).trans (hon2.below (Nat.le_succ _)))
        have hwz1 : w.heap.size + 1 < y1.heap.size := hU1.lt
        have hMr : NumAt y1 gm om ms := (unhide HM).from (unhide W1) gm1 (by omega)
        have hwm := wrapMulN t inv (zeroBy t inv) rfl
        obtain ⟨F1, F2, F3, F4⟩ := unhide HFACT
        have hzm : zeroBy t inv * natW ms ≤ (B64 - 1) * B64 ^ n := Nat.mul_le_mul (by have := zeroBy_lt t inv; omega) F3
        have hroom2 : natW u1 + zeroBy t inv * natW ms < B64 ^ u1.length := by
          rw [hul1, hun1]
          have := pow_room (B64 ^ n) (Nat.pow_pos B64_pos) (natW (row.drop k)) (y * natW xs) (zeroBy t inv * natW ms) 0 F1 F2 hzm
          omega
        have A2 := fun w2 tc (hw2 : URow w2 (w.heap.size + 1) (row.take k ++ u1)) (hx2 : NumAt w2 gm om ms) => addTimes_any (row.take k) u1 ms (zeroBy t inv) (w.heap.size + 1) tc gm om mc w2 hw2 hx2 (by omega) (by rw [hul1, ← hN]; omega) (zeroBy_lt t inv) (unhide Hm) huo1 hroom2 (by rw [hul1]; omega)
        rw [hpk, hul1, ← hN] at A2
        have HST := hide (fun u2 (ho2 : okW u2) (hl2 : u2.length = 2 * n + 1 - k) (hu2 : natW u2 = natW u1 + zeroBy t inv * natW ms) => (unhide HA).step (u1 := u1) (u2 := u2) (inv := inv) hlt hyk (unhide HM0) (unhide Hm) (unhide HI) hun1 ht huo1 ho2 hl2 hu2)
        have HA2 := hide A2
        have HU1 := hide hU1
        have HMr := hide hMr
        have HBX1 := hide hBX1
        generalize zeroBy t inv = zb at *
        clear A2 hroom2 hzm F1 F2 F3 F4 hMr hBX1 hU1 hon1 hon2 hun1 huo1 ht hN hNN hXN HFACT HA1
        go_wp2_with fail
        go_region_with ((go_at_call 71; refine (unhide HA2 _ _ (unhide HU1).drew ((unhide HMr).drewN1)).mono ?_; rintro e y2 ⟨rfl, u2, hU2, hul2, huo2, hun2, hon2⟩))
        all_goals
          have hon3 : Only (w.heap.size + 1) y1 y2 := (Only.refl _ y1).drew.trans hon2
          have hBX2 : BoxAt y2 w.heap.size gm om n mc inv sa sn sc := BoxAt.only (unhide HBX1) hon3 (by omega)
          have hst := unhide HST u2 huo2 (by rw [hul2]; have := unhide HNN; omega) hun2
          have H1 := hide hst
          have H2 := hide hU2
          have H3 := hide hBX2
          have H4 := hide ((unhide W1).trans (hon3.below (Nat.le_succ _)))
          clear HA2 HST HU1 HMr HBX1 W1 hon2 hon3 hBX2 hst hU2 hun2 huo2 hul2
          go_wp2
          go_roundw
          case rel => exact ⟨k + 1, _, _, hlt, by go_num, unhide H1, unhide H2, unhide H3, unhide H4⟩
          case measure => simp [intOf]; omega
    · have hkn : k = n := by omega
      subst hkn
      have hN := unhide HN
      have hrl := hA.len
      have hdl : (row.drop k).length = k + 1 := by rw [List.length_drop, hrl]; omega
      have hD := hA.drop_lt (unhide Hy) (unhide HYN) (Nat.le_refl _) (unhide HMP)
      have hxm := unhide HXM
      have hwz : w.heap.size + 1 < wr.heap.size := hU.lt
      have hTr : NumAt wr (w.heap.size + 1) k (row.drop k) := hU.numAt k
      have hMr : NumAt wr gm om ms := (unhide HM).from hbel gm1 (by omega)
      have hsum := natW_drop_eq (row := row) (i := k) (by omega) hA.low
      rw [hA.sum, List.take_of_length_le (by rw [unhide HYN]; exact Nat.le_refl _)] at hsum
      have O1 := fun w2 tc (ht2 : NumAt w2 (w.heap.size + 1) k (row.drop k)) (hm2 : NumAt w2 gm om ms) (hc : (row.drop k).length ≤ tc) => once_any (row.drop k) ms (w.heap.size + 1) k tc gm om mc inv (.slice sa sn sc) w2 ht2 hm2 (okW_drop hA.ok k) (unhide Hm) (by rw [hdl, ← hN]) (by omega) (by rw [← hN]; omega) hc ⟨_, _, _, rfl⟩
      rw [← hN, hdl] at O1
      unfold modV at O1
      have HO := hide O1
      have b0 := hBX.cell0
      have b1 := hBX.cell1
      have b2 := hBX.cell2
      have HT := hide hTr
      have HMr := hide hMr
      have HB := hide hbel
      have HS := hide hsum
      have hNk : ¬ N = k := by omega
      have hNe : N - k = k + 1 := by omega
      have hkN : (k : Int) ≤ (N : Int) := by omega
      clear O1 hTr hMr hbel hsum hA hU hBX hD hxm hN hrl hdl hNN
      go_wp2_with fail
      go_region_with ((go_at_call 107; refine (unhide HO _ _ (unhide HT).drewN1 (unhide HMr).drewN1 (Nat.le_refl _)).mono ?_; rintro e y2 ⟨zg, zo, zc, zs, rfl, hz1, hz2, hz3, hz4, hz5, hz6⟩))
      all_goals
        go_wp2
        go_ret
        have hMP := unhide HMP
        have hS := unhide HS
        refine ⟨zg, zo, zc, zs, ?_, hz1, hz2, hz3, by rw [hz4]; exact Nat.mod_lt _ hMP, ?_, hz5, (unhide HB).drew.trans (hz6.mono (Nat.le_of_lt (Nat.lt_of_succ_lt hwz)))⟩
        · rw [← hz2]
          rfl
        · rw [hz4]
          exact mont_end _ _ _ _ _ _ hS
end Go.Proofs.YtckkhpegimkefaaGreatDoor
