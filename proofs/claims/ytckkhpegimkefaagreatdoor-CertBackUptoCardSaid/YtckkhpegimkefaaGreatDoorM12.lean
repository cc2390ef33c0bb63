/- newModular of the program. -/
import Derived.Test.YtckkhpegimkefaaGreatDoorM11
import Derived.Lib.Strings
import Derived.Lib.Walk
import Derived.Lib.BitFns
namespace Go.Proofs.YtckkhpegimkefaaGreatDoor
open Go.RowKit Go.Shelf
set_option linter.unusedVariables false

theorem wrapNeg (v : Nat) (hv : v < B64) : IntKind.u64.wrap (-(v : Int)) = (negW v : Nat) := by
  rw [IntKind.wrap_u64]
  unfold negW
  have hc : ((B64 - v : Nat) : Int) = -(v : Int) + (B64 : Int) := by
    rw [Int.natCast_sub (Nat.le_of_lt hv)]
    omega
  rw [Int.natCast_emod, hc, Int.add_emod_right]
  rfl
theorem negW_lt (v : Nat) : negW v < B64 := Nat.mod_lt _ B64_pos
theorem BoxAt.below {w w' : World} {b gm om mn mc inv : Nat} {sa : Option Addr} {sn sc : Nat} (h : BoxAt w b gm om mn mc inv sa sn sc) (hb : Below w.heap.size w w') : BoxAt w' b gm om mn mc inv sa sn sc := by
  have hlt : b < w.heap.size := by
    rcases Nat.lt_or_ge b w.heap.size with h' | h'
    · exact h'
    · unfold BoxAt at h
      rw [Array.getElem?_eq_none h'] at h; cases h
  unfold BoxAt at *
  rw [hb.block b hlt, h]
theorem wrapPow (e x : Nat) (h : 2 ^ e = x) (hx : x < B64) : IntKind.u64.wrap ((2 : Int) ^ e) = (x : Int) := by
  rw [show ((2 : Int) ^ e) = ((2 ^ e : Nat) : Int) by simp, h, Mul64.wrapN x hx]
/-- the one bit that a modulus always has -/
theorem one_bit (n t e bit : Nat) (hn : t < n) (hb : bit = 64 * t + e) : natW ((List.replicate n 0).set t (2 ^ e)) = 2 ^ bit := by
  have := natW_set (List.replicate n 0) t (2 ^ e) 0 (by rw [List.getElem?_replicate, if_pos hn])
  rw [Nat.zero_mul, Nat.add_zero, natW_zeros, Nat.zero_add] at this
  rw [this, B64_two, ← Nat.pow_add, hb]
  congr 1
  omega
theorem pow_lt64 (e : Nat) (h : e < 64) : 2 ^ e < B64 := by
  have hB : B64 = 2 ^ 64 := rfl
  rw [hB]
  exact Nat.pow_lt_pow_right (by decide) h
/-- of a text that is a modulus -/
structure IsMod (s : ByteArray) : Prop where
  low : 40 ≤ s.size
  high : s.size ≤ 96
  top : 2 ^ (8 * s.size - 1) < valN s.data.toList
  odd : valN s.data.toList % 2 = 1

theorem not_box {w : World} {g o b : Nat} {zs : List Nat} {x y z : Value} {e : TypeId} (h : NumAt w g o zs) (hl : 4 ≤ zs.length) (hb : w.heap[b]? = some (.cells #[x, y, z] e (0, 0))) : g ≠ b := by
  intro hgb
  subst hgb
  have hc := h.2 3 (zs[3]'(by omega)) (List.getElem?_eq_getElem (by omega))
  rw [cell_of_row _ _ _ _ _ _ hb, Array.getElem?_eq_none (by simp)] at hc
  cases hc
theorem NumAt.setCell {w : World} {g o b j : Nat} {zs : List Nat} (h : NumAt w g o zs) (hb : g ≠ b) (v : Value) : NumAt (w.setCell ⟨b, j, none⟩ v) g o zs := h.only ((Only.refl b w).setCell j v) hb
/-- what newModular has laid -/
structure KeptM (w : World) (b n inv : Nat) (ms : List Nat) (wr : World) : Prop where
  box : BoxAt wr b (w.heap.size + 1) 0 n n inv none 0 0
  num : NumAt wr (w.heap.size + 1) 0 ms
  res : wr.heap[w.heap.size]? = some (.cells #[.slice none 0 0, .int .u64 0, .slice none 0 0] 89 (0, 0))
  bel : Below w.heap.size w wr
theorem KeptM.below {w : World} {b n inv : Nat} {ms : List Nat} {wr w' : World} (h : KeptM w b n inv ms wr) (hb : Below wr.heap.size wr w') : KeptM w b n inv ms w' := by
  refine ⟨h.box.below hb, h.num.below hb, ?_, h.bel.trans (hb.mono h.bel.size)⟩
  have hlt : w.heap.size < wr.heap.size := by
    rcases Nat.lt_or_ge w.heap.size wr.heap.size with h' | h'
    · exact h'
    · have := h.res
      rw [Array.getElem?_eq_none h'] at this; cases this
  rw [hb.block _ hlt, h.res]

set_option maxHeartbeats 2000000 in
set_option maxRecDepth 100000 in
theorem newModular_any (s : ByteArray) (hs : IsMod s) (w : World) :
    Calls Tryz.prog 55 #[.string s] w fun e w' => ∃ gm ms inv gs os sc sq, e = .returned (.agg #[.slice (some ⟨gm, 0, none⟩) ms.length ms.length, .int .u64 (inv : Nat), .slice (some ⟨gs, os, none⟩) sq.length sc]) ∧ NumAt w' gm 0 ms ∧ NumAt w' gs os sq ∧ okW ms ∧ okW sq ∧ ms.length = (s.size + 7) / 8 ∧ sq.length = ms.length ∧ natW ms = valN s.data.toList ∧ natW sq = B64 ^ ms.length * B64 ^ ms.length % natW ms ∧ (∃ m0, ms[0]? = some m0 ∧ (m0 * inv + 1) % B64 = 0) ∧ inv < B64 ∧ Below w.heap.size w w' := by
  obtain ⟨i0, hi, hz0, hz1, hz2⟩ := info_partsN infoU64
  have N1 := hide (fun w => cread_any s (by have := hs.high; omega) w)
  have hlo := hs.low
  have hhi := hs.high
  have HS := hide hs
  clear hs
  go_enter Tryz.func55, Tryz.ntmps55
  go_wp2_with fail
  obtain ⟨hbel, q0, hsz⟩ : Below w.heap.size w (w.alloc (.cells #[.slice none 0 0, .int .u64 0, .slice none 0 0] 89)) ∧ (w.alloc (.cells #[.slice none 0 0, .int .u64 0, .slice none 0 0] 89)).heap[w.heap.size]? = some (.cells #[.slice none 0 0, .int .u64 0, .slice none 0 0] 89 (0, 0)) ∧ (w.alloc (.cells #[.slice none 0 0, .int .u64 0, .slice none 0 0] 89)).heap.size = w.heap.size + 1 := ⟨(Below.refl _ _).alloc (Nat.le_refl _) _, heap_alloc_new w _, by simp⟩
  generalize w.alloc _ = W at hbel q0 hsz ⊢
  refine (unhide N1 _).mono ?_
  rintro e w1 ⟨ms, rfl, hU, hml, hmo, hmn, b1⟩
  rw [hsz] at hU b1 ⊢
  have HML := hide hml
  have hlt1 : w.heap.size + 1 < w1.heap.size := hU.lt
  have q1 : w1.heap[w.heap.size]? = some (.cells #[.slice none 0 0, .int .u64 0, .slice none 0 0] 89 (0, 0)) := by rw [b1.block _ (by omega), q0]
  have hb1 := hbel.trans (b1.mono (by omega))
  obtain ⟨m0, hm0⟩ : ∃ x, ms[0]? = some x := ⟨ms[0]'(by omega), List.getElem?_eq_getElem (by omega)⟩
  have hm0b := okW_get hmo hm0
  have hmod := natW_mod ms m0 hm0 hm0b
  have hodd : m0 % 2 = 1 := by
    have h1 := (unhide HS).odd
    rw [← hmn] at h1
    have h2 : natW ms % B64 % 2 = natW ms % 2 := Nat.mod_mod_of_dvd _ ⟨9223372036854775808, by unfold B64; rfl⟩
    rw [hmod] at h2
    omega
  have hinv := inv_end m0 hodd
  have hvl := invN_lt m0 5 hm0b
  have hneg := neg_inv m0 (invN m0 5) hvl hinv
  have N2 := hide (fun w => inverse_any m0 w)
  have hwn := wrapNeg (invN m0 5) hvl
  have c0 := hU.cell 0 m0 hm0
  have HU := hide hU
  have HMO := hide hmo
  have HMN := hide hmn
  have HNEG := hide hneg
  have HM0 := hide hm0
  have HQ1 := hide q1
  have HB1 := hide hb1
  have hml0 : (0 : Int) < (ms.length : Int) := by omega
  have hivb := negW_lt (invN m0 5)
  generalize invN m0 5 = iv at *
  generalize negW iv = inv at *
  clear N1 hU hmo hmn hneg hm0 q1 hb1 b1 hbel q0 hinv hodd hmod hvl hml hsz
  go_wp2_with fail
  refine (unhide N2 _).mono ?_
  rintro e w2 ⟨rfl, rfl⟩
  go_wp2_with (at_make; refine wpList_make_full _ rfl _ _ 58 rfl (w1.heap.size + 1) 82 i0 (.int .u64 0) 1 Tryz.underlying58 hi hz0 hz1 .i64 .i64 _ _ ms.length rfl rfl rfl rfl (by rw [hz2]; have := unhide HML; omega) (by unfold maxLen; have := unhide HML; omega) (by simp) ?_)
  intro w3 hown hgrow
  obtain ⟨hBX, hU3, hbel3⟩ := box_made hown hgrow
  have hM3 : NumAt w3 (w.heap.size + 1) 0 ms := ((unhide HU).numAt 0).below hbel3
  have hq3 : w3.heap[w.heap.size]? = some (.cells #[.slice none 0 0, .int .u64 0, .slice none 0 0] 89 (0, 0)) := by rw [hbel3.block _ (by omega), unhide HQ1]
  have hB3 := (unhide HB1).trans (hbel3.mono (by omega))
  obtain ⟨n, hn⟩ : ∃ n, n = ms.length := ⟨_, rfl⟩
  obtain ⟨bit, hbit⟩ : ∃ bit, bit = 8 * s.size - 1 := ⟨_, rfl⟩
  obtain ⟨t, ht⟩ : ∃ t, t = n - 1 := ⟨_, rfl⟩
  obtain ⟨e, he⟩ : ∃ e, e = bit % 64 := ⟨_, rfl⟩
  obtain ⟨pw, hpw⟩ : ∃ pw, pw = 2 ^ e := ⟨_, rfl⟩
  have hML := unhide HML
  have hx0 := one_bit n t e bit (by omega) (by omega)
  rw [← hpw] at hx0
  have hpl : pw < B64 := by rw [hpw]; exact pow_lt64 e (by omega)
  have hsh := wrapPow e pw hpw.symm hpl
  have hbi : 8 * (s.size : Int) - 1 = (bit : Int) := by omega
  have hti : (n : Int) - 1 = (t : Int) := by omega
  have hei : (bit : Int) % 64 = (e : Int) := by omega
  have he64 : e < 64 := by omega
  have hlimN : 64 * n - bit + n = 64 * n - bit + n := rfl
  obtain ⟨lim, hlim⟩ : ∃ lim, lim = 64 * n - bit + n := ⟨_, rfl⟩
  have hlimi : 64 * (n : Int) - (bit : Int) + (n : Int) = (lim : Int) := by omega
  have hn12 : (n : Int) ≤ 12 := by omega
  have hbit2 : (bit : Int) ≤ 800 := by omega
  have hlimb : (lim : Int) ≤ 900 := by omega
  rw [← hn] at hU3
  have cxt := hU3.cell t 0 (by rw [List.getElem?_replicate, if_pos (by omega)])
  have fxt := hU3.frozen t
  have hset := hU3.set t pw
  have hnum0 : NumAt (w3.setCell ⟨w1.heap.size + 1, t, none⟩ (.int .u64 (pw : Nat))) (w1.heap.size + 1) 0 ((List.replicate n 0).set t pw) := hset.numAt 0
  have hon3 : Only (w1.heap.size + 1) w3 (w3.setCell ⟨w1.heap.size + 1, t, none⟩ (.int .u64 (pw : Nat))) := (Only.refl _ _).setCell _ _
  have hBX4 := hBX.only hon3 (by omega)
  have hM4 := hM3.only hon3 (by omega)
  have hq4 : (w3.setCell ⟨w1.heap.size + 1, t, none⟩ (.int .u64 (pw : Nat))).heap[w.heap.size]? = some (.cells #[.slice none 0 0, .int .u64 0, .slice none 0 0] 89 (0, 0)) := by rw [hon3.block _ (by omega), hq3]
  have hB4 := hB3.trans (hon3.below (by omega))
  have hl0 : ((List.replicate n 0).set t pw).length = n := by simp
  have hok0 : okW ((List.replicate n 0).set t pw) := okW_set (okW_zeros _) _ _ hpl
  have htop := (unhide HS).top
  rw [← unhide HMN, ← hbit] at htop
  rw [← hn] at hBX4 ⊢
  have HX0 := hide hx0; have HNUM := hide hnum0; have HBX4 := hide hBX4; have HM4 := hide hM4; have HQ4 := hide hq4; have HB4 := hide hB4; have HOK := hide hok0; have HTOP := hide htop; have HLIM := hide hlim; have HL0 := hide hl0; have HNN := hide hn; have HT := hide ht
  have htn : (t : Int) < (n : Int) := by omega
  have HBN := hide (show bit ≤ 64 * n by omega)
  have HN4 := hide (show 4 ≤ n by omega)
  generalize (List.replicate n 0).set t pw = x0 at *
  clear hown hgrow hi hz0 hz1 hz2 hBX hU3 hbel3 hM3 hq3 hB3 hx0 hpl hset hnum0 hon3 hBX4 hM4 hq4 hB4 hl0 hok0 htop hlim hlimN hn hbit ht he hpw hML c0 HU HQ1 HB1
  have hkept := hide (KeptM.mk (unhide HBX4) (unhide HM4) (unhide HQ4) (unhide HB4))
  have HMl := hide (show ms.length = n from (unhide HNN).symm)
  clear HBX4 HM4 HQ4 HB4
  go_wp2_with fail
  clear hbi hei hti hlimi hsh hwn cxt fxt
  go_loopw [6, 39] (fun x i wr => ∃ (k zg zo zc : Nat) (zs : List Nat), k ≤ lim ∧ i = .int .i64 k ∧ x = .slice (some ⟨zg, zo, none⟩) n zc ∧ NumAt wr zg zo zs ∧ zs.length = n ∧ okW zs ∧ natW zs = 2 ^ (bit + k) % natW ms ∧ KeptM w w1.heap.size n inv ms wr) (fun _ i _ => lim - (intOf i).toNat)
  case atStart => exact ⟨0, _, 0, n, x0, Nat.zero_le _, rfl, rfl, unhide HNUM, unhide HL0, unhide HOK, by rw [Nat.add_zero, Nat.mod_eq_of_lt (unhide HTOP)]; exact unhide HX0, unhide hkept⟩
  case round =>
    clear hkept
    obtain ⟨k, zg, zo, zc, zs, hk, rfl, rfl, hz, hzl, hzo, hzn, hkp⟩ := hrel
    have hMpos : 0 < natW ms := Nat.lt_of_le_of_lt (Nat.zero_le _) (unhide HTOP)
    have hzlt : natW zs < natW ms := by rw [hzn]; exact Nat.mod_lt _ hMpos
    have b0 := hkp.box.cell0
    have b1 := hkp.box.cell1
    have b2 := hkp.box.cell2
    by_cases hlt : k < lim
    · have T1 := twice_any zs ms inv zg zo zc (w.heap.size + 1) 0 n none 0 0 wr hz hkp.num hzo (unhide HMO) (by rw [hzl, unhide HMl]) hzlt (by rw [unhide HMl]; omega)
      rw [hzl, unhide HMl, hzn, twice_pow] at T1
      unfold modV at T1
      have HT1 := hide T1
      have HK := hide hkp
      clear T1 hkp hz hzl hzo hzn hzlt hMpos
      go_wp2_with fail
      refine (unhide HT1).mono ?_
      rintro e y1 ⟨yg, yo, yc, ys, rfl, g1, g2, g3, g4, g5, g6⟩
      rw [g2]
      have HK2 := hide ((unhide HK).below g6)
      have G1 := hide g1; have G2 := hide g2; have G3 := hide g3; have G4 := hide g4
      clear HT1 HK g1 g2 g3 g4 g5 g6 b0 b1 b2
      go_wp2
      go_roundw
      case rel => exact ⟨k + 1, yg, yo, yc, ys, hlt, by go_num, rfl, unhide G1, unhide G2, unhide G3, unhide G4, unhide HK2⟩
      case measure => simp [intOf]; omega
    · have hkl : k = lim := by omega
      subst hkl
      have hstart : natW zs = B64 ^ n * 2 ^ (n * 2 ^ 0) % natW ms := by
        rw [hzn, B64_two, ← Nat.pow_add]
        congr 2
        rw [Nat.pow_zero, Nat.mul_one]
        have h1 := unhide HLIM
        have h2 := unhide HBN
        omega
      have HZ := hide hz; have HZL := hide hzl; have HZO := hide hzo; have HST := hide hstart; have HK := hide hkp
      clear hz hzl hzo hzn hzlt hMpos hkp hstart b0 b1 b2
      go_wp2_with fail
      go_loopw [6, 45] (fun x i wr => ∃ (k zg zo zc : Nat) (zs : List Nat), k ≤ 6 ∧ i = .int .i64 k ∧ x = .slice (some ⟨zg, zo, none⟩) n zc ∧ NumAt wr zg zo zs ∧ zs.length = n ∧ okW zs ∧ natW zs = B64 ^ n * 2 ^ (n * 2 ^ k) % natW ms ∧ KeptM w w1.heap.size n inv ms wr) (fun _ i _ => 6 - (intOf i).toNat)
      case atStart => exact ⟨0, zg, zo, zc, zs, by omega, rfl, rfl, unhide HZ, unhide HZL, unhide HZO, unhide HST, unhide HK⟩
      case round =>
        clear HZ HZL HZO HST HK
        obtain ⟨k, zg, zo, zc, zs, hk, rfl, rfl, hz, hzl, hzo, hzn, hkp⟩ := hrel
        have hMpos : 0 < natW ms := Nat.lt_of_le_of_lt (Nat.zero_le _) (unhide HTOP)
        have hzlt : natW zs < natW ms := by rw [hzn]; exact Nat.mod_lt _ hMpos
        have b0 := hkp.box.cell0
        have b1 := hkp.box.cell1
        have b2 := hkp.box.cell2
        by_cases hlt : k < 6
        · have T1 := times_any zs zs ms m0 inv zg zo zc zg zo zc (w.heap.size + 1) 0 n none 0 0 wr hz hz hkp.num hzo hzo (unhide HMO) (by rw [hzl, unhide HMl]) (by rw [hzl, unhide HMl]) hzlt (unhide HM0) (unhide HNEG) hivb (by rw [unhide HMl]; omega)
          rw [hzl, unhide HMl] at T1
          unfold modV at T1
          have hodd : natW ms % 2 = 1 := by rw [unhide HMN]; exact (unhide HS).odd
          have hRi := unTwo_mul (natW ms) (64 * n) hodd
          rw [← B64_two] at hRi
          have HNX := hide (fun (z : Nat) (h1 : z < natW ms) (h2 : z * B64 ^ n % natW ms = natW zs * natW zs % natW ms) => by
            have e1 := mont_val z (natW zs * natW zs) (B64 ^ n) (unTwo (natW ms) (64 * n)) (natW ms) h1 hRi h2
            have e2 := mont_sq (natW zs) (2 ^ (n * 2 ^ k)) (B64 ^ n) (unTwo (natW ms) (64 * n)) (natW ms) hRi hzn
            rw [e2, sq_pow] at e1
            exact e1)
          have HT1 := hide T1
          have HK := hide hkp
          clear T1 hkp hz hzl hzo hzn hzlt hMpos hodd hRi
          go_wp2_with fail
          refine (unhide HT1).mono ?_
          rintro e y1 ⟨yg, yo, yc, ys, rfl, g1, g2, g3, g4, g5, g6, g7⟩
          have hnx := unhide HNX _ g4 g5
          rw [g2]
          have HK2 := hide ((unhide HK).below g7)
          have G1 := hide g1; have G2 := hide g2; have G3 := hide g3; have G4 := hide hnx
          clear HT1 HK HNX g1 g2 g3 g4 g5 g6 g7 hnx b0 b1 b2
          go_wp2
          go_roundw
          case rel => exact ⟨k + 1, yg, yo, yc, ys, hlt, by go_num, rfl, unhide G1, unhide G2, unhide G3, unhide G4, unhide HK2⟩
          case measure => simp [intOf]; omega
        · have hk6 : k = 6 := by omega
          subst hk6
          have hfin : natW zs = B64 ^ n * B64 ^ n % natW ms := by
            rw [hzn]
            congr 2
            rw [B64_two]
            congr 1
            omega
          have f2 : wr.frozen? ⟨w1.heap.size, 2, none⟩ = false := frozen_of_row _ _ 2 _ _ hkp.box
          have z0 : wr.cell? ⟨w.heap.size, 0, none⟩ = some (.slice none 0 0) := (cell_of_row _ _ 0 _ _ _ hkp.res).trans rfl
          have z1 : wr.cell? ⟨w.heap.size, 1, none⟩ = some (.int .u64 0) := (cell_of_row _ _ 1 _ _ _ hkp.res).trans rfl
          have z2 : wr.cell? ⟨w.heap.size, 2, none⟩ = some (.slice none 0 0) := (cell_of_row _ _ 2 _ _ _ hkp.res).trans rfl
          have e0 : wr.frozen? ⟨w.heap.size, 0, none⟩ = false := frozen_of_row _ _ 0 _ _ hkp.res
          have e1 : wr.frozen? ⟨w.heap.size, 1, none⟩ = false := frozen_of_row _ _ 1 _ _ hkp.res
          have e2 : wr.frozen? ⟨w.heap.size, 2, none⟩ = false := frozen_of_row _ _ 2 _ _ hkp.res
          have HF := hide hfin; have HZ := hide hz; have HZL := hide hzl; have HZO := hide hzo; have HK := hide hkp
          have hne1 : w1.heap.size ≠ w.heap.size := by omega
          have nb1 := not_box hz (by rw [hzl]; exact unhide HN4) hkp.box
          have nb2 := not_box hz (by rw [hzl]; exact unhide HN4) hkp.res
          have nb3 : w.heap.size + 1 ≠ w1.heap.size := by omega
          have nb4 : w.heap.size + 1 ≠ w.heap.size := by omega
          have hB1 : w.heap.size ≤ w1.heap.size := by omega
          clear hz hzl hzo hzn hzlt hMpos hkp hfin
          go_wp2
          refine bodyPost_ret (v := .agg #[.slice (some ⟨w.heap.size + 1, 0, none⟩) n n, .int .u64 (inv : Nat), .slice (some ⟨zg, zo, none⟩) n zc]) (by simp [results, Tryz.results55, go_sem, z0, z1, z2]) rfl ⟨w.heap.size + 1, ms, inv, zg, zo, zc, zs, ?_, ?_, ?_, unhide HMO, unhide HZO, unhide HML, ?_, unhide HMN, ?_, ⟨m0, unhide HM0, unhide HNEG⟩, hivb, ?_⟩
          · rw [unhide HMl, unhide HZL]
          · exact ((((unhide HK).num.setCell nb3 _).setCell nb4 _).setCell nb4 _).setCell nb4 _
          · exact ((((unhide HZ).setCell nb1 _).setCell nb2 _).setCell nb2 _).setCell nb2 _
          · rw [unhide HZL, unhide HMl]
          · rw [unhide HMl]; exact unhide HF
          · exact (((((unhide HK).bel.setCell hB1 _).setCell (Nat.le_refl _) _).setCell (Nat.le_refl _) _).setCell (Nat.le_refl _) _)
end Go.Proofs.YtckkhpegimkefaaGreatDoor
namespace Go.Proofs.YtckkhpegimkefaaGreatDoor
open Go.RowKit Go.Shelf
set_option linter.unusedVariables false

theorem pow_split (r : Nat) (hr : r < 8) : B64 = 2 ^ (8 * r) * (2 ^ (56 - 8 * r) * 256) := by
  have h256 : (256 : Nat) = 2 ^ 8 := rfl
  have hB : B64 = 2 ^ 64 := rfl
  rw [hB, h256, ← Nat.pow_add, ← Nat.pow_add]
  congr 1
  omega
theorem word_byte (x h E F : Nat) (hE : 0 < E) : (x + E * (F * 256) * h) / E % 256 = x / E % 256 := by
  rw [show E * (F * 256) * h = E * (F * h * 256) by grind, Nat.add_mul_div_left _ _ hE, Nat.add_mul_mod_self_right]
theorem natW_byte {xs : List Nat} {i q r x : Nat} (hx : okW xs) (hi : i = 8 * q + r) (hr : r < 8) (hq : xs[q]? = some x) : natW xs / 256 ^ i % 256 = x / 2 ^ (8 * r) % 256 := by
  have hl : q < xs.length := by
    rcases Nat.lt_or_ge q xs.length with h | h
    · exact h
    · rw [List.getElem?_eq_none h] at hq; cases hq
  have e := natW_split xs q (by omega)
  have hd : xs.drop q = x :: xs.drop (q + 1) := by
    rw [List.drop_eq_getElem_cons hl]
    rw [List.getElem?_eq_getElem hl] at hq
    rw [Option.some.inj hq]
  rw [hd, natW] at e
  have hlow := natW_lt (okW_take hx q)
  rw [List.length_take, Nat.min_eq_left (by omega)] at hlow
  have hp : 0 < B64 ^ q := Nat.pow_pos B64_pos
  rw [hi, pow_256W, ← Nat.div_div_eq_div_mul, e, Nat.add_mul_div_left _ _ hp, Nat.div_eq_of_lt hlow, Nat.zero_add]
  conv => lhs; rw [pow_split r hr]
  exact word_byte x _ _ _ (Nat.pow_pos (by decide))

/-- the row behind j rounds: zeros, then the low j bytes -/
def rowTx (n k j : Nat) : List Int := List.replicate (k - j) 0 ++ bigL n j
theorem rowTx_length (n k j : Nat) (h : j ≤ k) : (rowTx n k j).length = k := by simp [rowTx, bigL_length]; omega
theorem rowTx_set (n k j : Nat) (h : j < k) : (rowTx n k j).set (k - 1 - j) ((n / 256 ^ j % 256 : Nat) : Int) = rowTx n k (j + 1) := by
  unfold rowTx
  rw [show k - j = (k - (j + 1)) + 1 by omega, List.replicate_succ', List.append_assoc, show k - 1 - j = (List.replicate (k - (j + 1)) (0 : Int)).length + 0 by simp; omega, List.set_append_right _ _ (by omega)]
  simp [bigL]
theorem made_rowTx (k : Nat) (n : Nat) : (madeCells #[Value.int .u8 0] k).toList = (rowTx n k 0).map (Value.int .u8) := by
  have e : rowTx n k 0 = List.replicate k 0 := by simp [rowTx, bigL]
  rw [e, List.map_replicate]
  apply List.ext_getElem
  · simp [madeCells]
  · intro i h1 h2
    simp [madeCells, Nat.mod_one]
theorem below_num {w w' : World} {B g off : Nat} {ws : List Nat} (h : NumAt w g off ws) (hb : Below B w w') (hg : g < B) : ∀ i x, ws[i]? = some x → w'.cell? ⟨g, off + i, none⟩ = some (.int .u64 (x : Nat)) :=
  fun i x hi => (hb.cell (p := ⟨g, off + i, none⟩) hg).trans (h.2 i x hi)

set_option maxHeartbeats 1000000 in
set_option maxRecDepth 100000 in
theorem ctext_any (xs : List Nat) (g o c k : Nat) (w : World) (hX : NumAt w g o xs) (hx : okW xs) (hk : k ≤ 8 * xs.length) (hkb : (k : Int) ≤ 1000) :
    Calls Tryz.prog 47 #[.slice (some ⟨g, o, none⟩) xs.length c, .int .i64 k] w fun e w' => e = .returned (.string (strOfNums (bigL (natW xs) k))) ∧ Below w.heap.size w w' := by
  obtain ⟨i0, hi, hz0, hz1, hz2⟩ := info_partsN (t := 5) infoByte
  have HX := hide hX
  have g1 := hX.1
  have Hx := hide hx
  clear hX hx
  go_enter Tryz.func47, Tryz.ntmps47
  go_wp2_with (at_make; refine wpList_make_full _ rfl _ _ 43 rfl w.heap.size 5 i0 (.int .u8 0) 1 Tryz.underlying43 hi hz0 hz1 .i64 .i64 _ _ k rfl rfl rfl rfl (by rw [hz2]; omega) (by unfold maxLen; omega) (Nat.le_refl _) ?_)
  intro w1 hown hgrow
  rw [made_rowTx k (natW xs)] at hown
  have hb : Below w.heap.size w w1 := (Below.refl _ _).grown hgrow (Nat.le_refl _) (fun q hq => by cases hq)
  clear hgrow hi hz0 hz1 hz2
  go_wp2
  go_loopw [10] (fun i wr => ∃ j : Nat, j ≤ k ∧ i = .int .i64 j ∧ wr.ownsRow w.heap.size 5 1 (.slice (some ⟨w.heap.size, 0, none⟩) k k) k ((rowTx (natW xs) k j).map (Value.int .u8)) ∧ Below w.heap.size w wr)
    (fun i _ => k - (intOf i).toNat)
  case atStart => exact ⟨0, Nat.zero_le _, rfl, hown, hb⟩
  case round =>
    clear hown hb
    obtain ⟨j, hj, rfl, hown, hnx⟩ := hrel
    by_cases hlt : j < k
    · obtain ⟨p, hp⟩ : ∃ p, p = k - 1 - j := ⟨_, rfl⟩
      have hfz := hown.frozenAt p
      have hca : wr.cell? ⟨w.heap.size, p, none⟩ = some (.int .u8 ((rowTx (natW xs) k j).getD p 0)) := by
        rw [hown.cellAt p (by omega)]
        simp [List.getElem?_eq_getElem (show p < (rowTx (natW xs) k j).length by rw [rowTx_length _ _ _ hj]; omega)]
      obtain ⟨q, hq⟩ : ∃ q, q = j / 8 := ⟨_, rfl⟩
      obtain ⟨r, hr⟩ : ∃ r, r = j % 8 := ⟨_, rfl⟩
      obtain ⟨x, hxq⟩ : ∃ x, xs[q]? = some x := ⟨xs[q]'(by omega), List.getElem?_eq_getElem (by omega)⟩
      have hby := natW_byte (i := j) (unhide Hx) (by omega) (by omega) hxq (r := r)
      have cx := below_num (unhide HX) hnx g1 q x hxq
      have hset := (hown.stored p (.int .u8 ((natW xs / 256 ^ j % 256 : Nat) : Int))).1
      rw [hp, ← List.map_set, rowTx_set _ _ _ hlt, ← hp, hby] at hset
      obtain ⟨e8, he8⟩ : ∃ e8, e8 = 8 * r := ⟨_, rfl⟩
      rw [← he8] at hset
      have hdiv : (x : Int) / 2 ^ e8 % 256 = ((x / 2 ^ e8 % 256 : Nat) : Int) := by simp
      have hqi : (j : Int) / 8 = (q : Int) := by omega
      have hri : (j : Int) % 8 * 8 = (e8 : Int) := by omega
      have hpi : (k : Int) - 1 - (j : Int) = (p : Int) := by omega
      have hql : (q : Int) < (xs.length : Int) := by omega
      have hpk : (p : Int) < (k : Int) := by omega
      have he64 : e8 ≤ 56 := by omega
      have HS := hide hset
      have HB := hide (hnx.setCell (p := ⟨w.heap.size, p, none⟩) (Nat.le_refl _) (.int .u8 ((x / 2 ^ e8 % 256 : Nat) : Int)))
      generalize x / 2 ^ e8 % 256 = y at *
      clear hset hown hnx hby hxq hq hr hp he8
      go_wp2
      go_roundw
      case rel => exact ⟨j + 1, hlt, by go_num, unhide HS, unhide HB⟩
      case measure => simp [intOf]; omega
    · have hkl : j = k := by omega
      subst hkl
      rcases owned_cells hown with ⟨hv, hn⟩ | ⟨g2, cap', hv, _, hcl⟩
      · simp at hv
      · simp only [Value.slice.injEq, Option.some.injEq, Addr.mk.injEq, and_true, true_and] at hv
        obtain ⟨hg, hcap⟩ := hv
        subst hg hcap
        have hcv := run_convert_bytes_arg (P := Tryz.prog) wr 43 5 Tryz.underlying43 Tryz.underlying5 w.heap.size 0 j j _ (by rw [rowTx_length _ _ _ hj]) hcl 9 Tryz.underlying9
        rw [show rowTx (natW xs) j j = bigL (natW xs) j by simp [rowTx]] at hcv
        clear hown hcl
        go_wp2
        go_ret
        exact ⟨rfl, hnx⟩
end Go.Proofs.YtckkhpegimkefaaGreatDoor
namespace Go.Proofs.YtckkhpegimkefaaGreatDoor
open Go.RowKit Go.Shelf
set_option linter.unusedVariables false

theorem tab_size : (Lib.len8tab.size : Int) = 256 := by
  rw [Lib.len8tab_size]
  rfl
/-- the bits of the byte that is left when k bits are cut off -/
theorem len_at (x y : Int) (k : Nat) (hx : 0 ≤ x) (h64 : x ≤ 18446744073709551615) (hy : y = x / 2 ^ k) (hlow : k = 0 ∨ (2 ^ k : Int) ≤ x) (hb0 : 0 ≤ y) (hb : y ≤ 255) : (k : Int) + Lib.len8 y = (Lib.bitLen x.toNat : Int) := by
  obtain ⟨n, rfl⟩ := Int.eq_ofNat_of_zero_le hx
  have e : y = ((n / 2 ^ k : Nat) : Int) := by rw [hy]; simp
  rw [Lib.len8_of y hb0 hb, e, Int.toNat_natCast, Int.toNat_natCast]
  rcases hlow with h | h
  · subst h
    simp
  · have h2 : 2 ^ k ≤ n := by
      have : ((2 ^ k : Nat) : Int) ≤ (n : Int) := by simpa using h
      omega
    rw [Lib.bitLen_shift k n h2 (by omega)]
    omega
theorem len_wrap (k : Nat) (y : Int) (hk : k ≤ 56) (hb0 : 0 ≤ y) (hb : y ≤ 255) : wrap64 ((k : Int) + wrap64 (Lib.len8 y)) = (k : Int) + Lib.len8 y := by
  rw [Lib.len8_of y hb0 hb]
  have l := Lib.bitLen_le8' y hb0 hb
  generalize Lib.bitLen y.toNat = b at *
  unfold wrap64
  omega
theorem len_wrap0 (y : Int) (hb0 : 0 ≤ y) (hb : y ≤ 255) : wrap64 (wrap64 (Lib.len8 y)) = ((0 : Nat) : Int) + Lib.len8 y := by
  rw [Lib.len8_of y hb0 hb]
  have l := Lib.bitLen_le8' y hb0 hb
  generalize Lib.bitLen y.toNat = b at *
  unfold wrap64
  omega
set_option maxHeartbeats 4000000 in
set_option maxRecDepth 100000 in
theorem len64_0 (x : Int) (w : World) (h0 : 0 ≤ x) (h1 : x ≤ 255) :
    Calls Tryz.prog 72 #[.int .u64 x] w fun e w' => e = .returned (.int .i64 (Lib.bitLen x.toNat)) ∧ w' = w := by
  have hs := tab_size
  have hfin := len_at x (x) 0 (by omega) (by omega) (by omega) (.inl rfl) (by omega) (by omega)
  have HF := hide hfin
  have y0 : 0 ≤ x := by omega
  have y1 : x ≤ 255 := by omega
  clear hfin
  go_enter Tryz.func72, Tryz.ntmps72
  go_wp2
  go_ret
  refine ⟨congrArg Ending.returned (congrArg (Value.int IntKind.i64) ?_), rfl⟩
  rw [← unhide HF]
  exact len_wrap0 (x) y0 y1
set_option maxHeartbeats 4000000 in
set_option maxRecDepth 100000 in
theorem len64_8 (x : Int) (w : World) (h0 : 256 ≤ x) (h1 : x ≤ 65535) :
    Calls Tryz.prog 72 #[.int .u64 x] w fun e w' => e = .returned (.int .i64 (Lib.bitLen x.toNat)) ∧ w' = w := by
  have hs := tab_size
  have hfin := len_at x (x / 256) 8 (by omega) (by omega) (by omega) (.inr (by omega)) (by omega) (by omega)
  have HF := hide hfin
  have y0 : 0 ≤ x / 256 := by omega
  have y1 : x / 256 ≤ 255 := by omega
  clear hfin
  go_enter Tryz.func72, Tryz.ntmps72
  go_wp2
  go_ret
  refine ⟨congrArg Ending.returned (congrArg (Value.int IntKind.i64) ?_), rfl⟩
  rw [← unhide HF]
  exact len_wrap 8 (x / 256) (by decide) y0 y1
set_option maxHeartbeats 4000000 in
set_option maxRecDepth 100000 in
theorem len64_16 (x : Int) (w : World) (h0 : 65536 ≤ x) (h1 : x ≤ 16777215) :
    Calls Tryz.prog 72 #[.int .u64 x] w fun e w' => e = .returned (.int .i64 (Lib.bitLen x.toNat)) ∧ w' = w := by
  have hs := tab_size
  have hfin := len_at x (x / 65536) 16 (by omega) (by omega) (by omega) (.inr (by omega)) (by omega) (by omega)
  have HF := hide hfin
  have y0 : 0 ≤ x / 65536 := by omega
  have y1 : x / 65536 ≤ 255 := by omega
  clear hfin
  go_enter Tryz.func72, Tryz.ntmps72
  go_wp2
  go_ret
  refine ⟨congrArg Ending.returned (congrArg (Value.int IntKind.i64) ?_), rfl⟩
  rw [← unhide HF]
  exact len_wrap 16 (x / 65536) (by decide) y0 y1
set_option maxHeartbeats 4000000 in
set_option maxRecDepth 100000 in
theorem len64_24 (x : Int) (w : World) (h0 : 16777216 ≤ x) (h1 : x ≤ 4294967295) :
    Calls Tryz.prog 72 #[.int .u64 x] w fun e w' => e = .returned (.int .i64 (Lib.bitLen x.toNat)) ∧ w' = w := by
  have hs := tab_size
  have hfin := len_at x (x / 65536 / 256) 24 (by omega) (by omega) (by omega) (.inr (by omega)) (by omega) (by omega)
  have HF := hide hfin
  have y0 : 0 ≤ x / 65536 / 256 := by omega
  have y1 : x / 65536 / 256 ≤ 255 := by omega
  clear hfin
  go_enter Tryz.func72, Tryz.ntmps72
  go_wp2
  go_ret
  refine ⟨congrArg Ending.returned (congrArg (Value.int IntKind.i64) ?_), rfl⟩
  rw [← unhide HF]
  exact len_wrap 24 (x / 65536 / 256) (by decide) y0 y1
set_option maxHeartbeats 4000000 in
set_option maxRecDepth 100000 in
theorem len64_32 (x : Int) (w : World) (h0 : 4294967296 ≤ x) (h1 : x ≤ 1099511627775) :
    Calls Tryz.prog 72 #[.int .u64 x] w fun e w' => e = .returned (.int .i64 (Lib.bitLen x.toNat)) ∧ w' = w := by
  have hs := tab_size
  have hfin := len_at x (x / 4294967296) 32 (by omega) (by omega) (by omega) (.inr (by omega)) (by omega) (by omega)
  have HF := hide hfin
  have y0 : 0 ≤ x / 4294967296 := by omega
  have y1 : x / 4294967296 ≤ 255 := by omega
  clear hfin
  go_enter Tryz.func72, Tryz.ntmps72
  go_wp2
  go_ret
  refine ⟨congrArg Ending.returned (congrArg (Value.int IntKind.i64) ?_), rfl⟩
  rw [← unhide HF]
  exact len_wrap 32 (x / 4294967296) (by decide) y0 y1
set_option maxHeartbeats 4000000 in
set_option maxRecDepth 100000 in
theorem len64_40 (x : Int) (w : World) (h0 : 1099511627776 ≤ x) (h1 : x ≤ 281474976710655) :
    Calls Tryz.prog 72 #[.int .u64 x] w fun e w' => e = .returned (.int .i64 (Lib.bitLen x.toNat)) ∧ w' = w := by
  have hs := tab_size
  have hfin := len_at x (x / 4294967296 / 256) 40 (by omega) (by omega) (by omega) (.inr (by omega)) (by omega) (by omega)
  have HF := hide hfin
  have y0 : 0 ≤ x / 4294967296 / 256 := by omega
  have y1 : x / 4294967296 / 256 ≤ 255 := by omega
  clear hfin
  go_enter Tryz.func72, Tryz.ntmps72
  go_wp2
  go_ret
  refine ⟨congrArg Ending.returned (congrArg (Value.int IntKind.i64) ?_), rfl⟩
  rw [← unhide HF]
  exact len_wrap 40 (x / 4294967296 / 256) (by decide) y0 y1
set_option maxHeartbeats 4000000 in
set_option maxRecDepth 100000 in
theorem len64_48 (x : Int) (w : World) (h0 : 281474976710656 ≤ x) (h1 : x ≤ 72057594037927935) :
    Calls Tryz.prog 72 #[.int .u64 x] w fun e w' => e = .returned (.int .i64 (Lib.bitLen x.toNat)) ∧ w' = w := by
  have hs := tab_size
  have hfin := len_at x (x / 4294967296 / 65536) 48 (by omega) (by omega) (by omega) (.inr (by omega)) (by omega) (by omega)
  have HF := hide hfin
  have y0 : 0 ≤ x / 4294967296 / 65536 := by omega
  have y1 : x / 4294967296 / 65536 ≤ 255 := by omega
  clear hfin
  go_enter Tryz.func72, Tryz.ntmps72
  go_wp2
  go_ret
  refine ⟨congrArg Ending.returned (congrArg (Value.int IntKind.i64) ?_), rfl⟩
  rw [← unhide HF]
  exact len_wrap 48 (x / 4294967296 / 65536) (by decide) y0 y1
set_option maxHeartbeats 4000000 in
set_option maxRecDepth 100000 in
theorem len64_56 (x : Int) (w : World) (h0 : 72057594037927936 ≤ x) (h1 : x ≤ 18446744073709551615) :
    Calls Tryz.prog 72 #[.int .u64 x] w fun e w' => e = .returned (.int .i64 (Lib.bitLen x.toNat)) ∧ w' = w := by
  have hs := tab_size
  have hfin := len_at x (x / 4294967296 / 65536 / 256) 56 (by omega) (by omega) (by omega) (.inr (by omega)) (by omega) (by omega)
  have HF := hide hfin
  have y0 : 0 ≤ x / 4294967296 / 65536 / 256 := by omega
  have y1 : x / 4294967296 / 65536 / 256 ≤ 255 := by omega
  clear hfin
  go_enter Tryz.func72, Tryz.ntmps72
  go_wp2
  go_ret
  refine ⟨congrArg Ending.returned (congrArg (Value.int IntKind.i64) ?_), rfl⟩
  rw [← unhide HF]
  exact len_wrap 56 (x / 4294967296 / 65536 / 256) (by decide) y0 y1
theorem len64_any (x : Nat) (hx : x < B64) (w : World) :
    Calls Tryz.prog 72 #[.int .u64 x] w fun e w' => e = .returned (.int .i64 (Lib.bitLen x : Nat)) ∧ w' = w := by
  unfold B64 at hx
  have h : ∀ y : Int, y = (x : Int) → Calls Tryz.prog 72 #[.int .u64 y] w fun e w' => e = .returned (.int .i64 (Lib.bitLen y.toNat)) ∧ w' = w := by
    intro y hy
    by_cases a0 : y ≤ 255
    · exact len64_0 y w (by omega) a0
    by_cases a1 : y ≤ 65535
    · exact len64_8 y w (by omega) a1
    by_cases a2 : y ≤ 16777215
    · exact len64_16 y w (by omega) a2
    by_cases a3 : y ≤ 4294967295
    · exact len64_24 y w (by omega) a3
    by_cases a4 : y ≤ 1099511627775
    · exact len64_32 y w (by omega) a4
    by_cases a5 : y ≤ 281474976710655
    · exact len64_40 y w (by omega) a5
    by_cases a6 : y ≤ 72057594037927935
    · exact len64_48 y w (by omega) a6
    exact len64_56 y w (by omega) (by omega)
  have := h (x : Int) rfl
  rw [Int.toNat_natCast] at this
  exact this
end Go.Proofs.YtckkhpegimkefaaGreatDoor
