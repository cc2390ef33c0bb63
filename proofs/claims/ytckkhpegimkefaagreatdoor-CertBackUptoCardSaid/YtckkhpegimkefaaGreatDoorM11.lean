/- twice of the program; read of a number. -/
import Derived.Test.YtckkhpegimkefaaGreatDoorM10
import Derived.Test.YtckkhpegimkefaaGreatDoorM09
namespace Go.Proofs.YtckkhpegimkefaaGreatDoor
open Go.RowKit Go.Shelf
set_option linter.unusedVariables false

theorem two_room (X P : Nat) (hP : 0 < P) (h : X < P) : 2 * X < P * B64 := by
  have : P * 2 ≤ P * B64 := Nat.mul_le_mul_left _ (by unfold B64; decide)
  omega
set_option maxHeartbeats 1000000 in
set_option maxRecDepth 100000 in
theorem twice_any (xs ms : List Nat) (inv : Nat) (gx ox xc gm om mc : Nat) (sa : Option Addr) (sn sc : Nat) (w : World)
    (hX : NumAt w gx ox xs) (hM : NumAt w gm om ms) (hx : okW xs) (hm : okW ms) (hxl : xs.length = ms.length) (hxm : natW xs < natW ms) (hml : (ms.length : Int) ≤ 400) :
    Calls Tryz.prog 86 #[modV gm om ms.length mc inv (.slice sa sn sc), .slice (some ⟨gx, ox, none⟩) xs.length xc] w fun e w' => ∃ zg zo zc zs, e = .returned (.slice (some ⟨zg, zo, none⟩) zs.length zc) ∧ NumAt w' zg zo zs ∧ zs.length = ms.length ∧ okW zs ∧ natW zs = 2 * natW xs % natW ms ∧ zs.length ≤ zc ∧ Below w.heap.size w w' := by
  obtain ⟨i0, hi, hz0, hz1, hz2⟩ := info_partsN infoU64
  obtain ⟨n, hn⟩ : ∃ n, n = ms.length := ⟨_, rfl⟩
  have hxn : xs.length = n := by rw [hxl, hn]
  have hXl := natW_lt hx
  rw [hxn] at hXl
  have hroom : natW (List.replicate (n + 1) 0) + 2 * natW xs < B64 ^ (List.replicate (n + 1) 0).length := by
    rw [natW_zeros, List.length_replicate, Nat.zero_add, Nat.pow_succ]
    exact two_room _ _ (Nat.pow_pos B64_pos) hXl
  have A1 := fun w2 tc (hw2 : URow w2 (w.heap.size + 1) ([] ++ List.replicate (n + 1) 0)) (hx2 : NumAt w2 gx ox xs) => addTimes_any [] (List.replicate (n + 1) 0) xs 2 (w.heap.size + 1) tc gx ox xc w2 hw2 hx2 (by have := hX.1; omega) (by rw [List.length_replicate]; omega) (by unfold B64; decide) hx (okW_zeros _) hroom (by rw [List.length_replicate]; omega)
  rw [List.length_replicate, natW_zeros, Nat.zero_add] at A1
  have O1 := fun w2 (us : List Nat) (hu : us.length = n + 1) (huo : okW us) (hun : natW us = 2 * natW xs) (ht2 : NumAt w2 (w.heap.size + 1) 0 us) (hm2 : NumAt w2 gm om ms) => once_any us ms (w.heap.size + 1) 0 us.length gm om mc inv (.slice sa sn sc) w2 ht2 hm2 huo hm (by rw [hu, hn]) (by rw [hun]; omega) (by omega) (Nat.le_refl _) ⟨_, _, _, rfl⟩
  rw [← hn] at O1
  unfold modV at *
  rw [hxn] at A1
  rw [hxn, ← hn]
  have HA := hide A1
  have HO := hide O1
  have HX := hide hX
  have HM := hide hM
  have gx1 := hX.1
  have gm1 := hM.1
  rw [← hn] at hml
  clear A1 O1 hX hM hx hm hxl hxm hroom hXl hxn hn
  go_enter Tryz.func86, Tryz.ntmps86
  go_wp2_with (at_make; refine wpList_make_full _ rfl _ _ 58 rfl (w.heap.size + 1) 82 i0 (.int .u64 0) 1 Tryz.underlying58 hi hz0 hz1 .i64 .i64 _ _ (n + 1) rfl rfl (by simp) (by simp) (by rw [hz2]; omega) (by unfold maxLen; omega) (by simp) ?_)
  intro w1 hown hgrow
  obtain ⟨hBX, hU, hbel⟩ := box_made hown hgrow
  have hwz : w.heap.size + 1 < w1.heap.size := hU.lt
  have hXr : NumAt w1 gx ox xs := (unhide HX).from hbel gx1 (by omega)
  have HU := hide hU
  have HXr := hide hXr
  have HBX := hide hBX
  have HB := hide hbel
  clear hown hgrow hi hz0 hz1 hz2 hBX hU hbel hXr
  go_wp2_with fail
  refine (unhide HA _ _ (unhide HU) (unhide HXr)).mono ?_
  rintro e y1 ⟨rfl, u, hU1, hul, huo, hun, hon⟩
  have hBX1 := (unhide HBX).only hon (by omega)
  have b0 := hBX1.cell0
  have b1 := hBX1.cell1
  have b2 := hBX1.cell2
  have W1 := (unhide HB).trans (hon.below (Nat.le_succ _))
  have hwz1 : w.heap.size + 1 < y1.heap.size := hU1.lt
  have hMr : NumAt y1 gm om ms := (unhide HM).from W1 gm1 (by omega)
  have hN2 : NumAt y1 (w.heap.size + 1) 0 u := by
    have := hU1.numAt 0
    simpa using this
  have N2 := hide (unhide HO _ u hul huo hun hN2 hMr)
  rw [hul, hun] at N2
  have HW := hide W1
  clear HA HO HU HXr HBX HB hU1 hul huo hun hon hBX1 W1 hMr hN2
  go_wp2_with fail
  refine (unhide N2).mono ?_
  rintro e y2 ⟨zg, zo, zc, zs, rfl, g1, g2, g3, g4, g5, g6⟩
  go_wp2
  go_ret
  exact ⟨zg, zo, zc, zs, by rw [g2]; rfl, g1, g2, g3, g4, g5, (unhide HW).trans (g6.mono (Nat.le_of_lt (Nat.lt_of_succ_lt hwz1)))⟩
end Go.Proofs.YtckkhpegimkefaaGreatDoor
namespace Go.Proofs.YtckkhpegimkefaaGreatDoor
open Go.RowKit Go.Shelf
set_option linter.unusedVariables false

theorem valN_consN (b : UInt8) (l : List UInt8) : valN (b :: l) = b.toNat * 256 ^ l.length + valN l := by
  have h : ∀ (l : List UInt8) (a : Nat), l.foldl (fun n b => n * 256 + b.toNat) a = a * 256 ^ l.length + l.foldl (fun n b => n * 256 + b.toNat) 0 := by
    intro l
    induction l with
    | nil => intro a; simp
    | cons b l ih =>
      intro a
      rw [List.foldl_cons, List.foldl_cons, List.length_cons, ih (a * 256 + b.toNat), ih (0 * 256 + b.toNat), Nat.pow_succ, Nat.add_mul]
      rw [show a * 256 * 256 ^ l.length = a * (256 ^ l.length * 256) by rw [Nat.mul_assoc, Nat.mul_comm 256], Nat.zero_mul, Nat.zero_add, Nat.add_assoc]
  show (b :: l).foldl _ 0 = _
  rw [List.foldl_cons, h]
  simp [valN]
/-- the number of the last i bytes -/
def lowV (l : List UInt8) (i : Nat) : Nat := valN (l.drop (l.length - i))
theorem lowV_zero (l : List UInt8) : lowV l 0 = 0 := by simp [lowV, valN]
theorem lowV_whole (l : List UInt8) : lowV l l.length = valN l := by simp [lowV]
theorem lowV_lt (l : List UInt8) (i : Nat) (h : i ≤ l.length) : lowV l i < 256 ^ i := by
  have := valN_lt (l.drop (l.length - i))
  rw [List.length_drop, show l.length - (l.length - i) = i by omega] at this
  exact this
theorem lowV_step (l : List UInt8) (i : Nat) (c : UInt8) (h : l[l.length - 1 - i]? = some c) (hi : i < l.length) : lowV l (i + 1) = c.toNat * 256 ^ i + lowV l i := by
  unfold lowV
  have hk : l.length - (i + 1) < l.length := by omega
  have hc : l[l.length - (i + 1)] = c := by
    rw [show l.length - 1 - i = l.length - (i + 1) by omega, List.getElem?_eq_getElem hk] at h
    exact Option.some.inj h
  rw [List.drop_eq_getElem_cons hk, valN_consN, hc, show l.length - (i + 1) + 1 = l.length - i by omega, List.length_drop, show l.length - (l.length - i) = i by omega]
theorem natW_set (l : List Nat) : ∀ (q x w : Nat), l[q]? = some w → natW (l.set q x) + w * B64 ^ q = natW l + x * B64 ^ q := by
  induction l with
  | nil => intro q x w h; cases h
  | cons y r ih =>
    intro q x w h
    cases q with
    | zero =>
      simp only [List.getElem?_cons_zero, Option.some.injEq] at h
      subst h
      simp only [List.set_cons_zero, natW, Nat.pow_zero, Nat.mul_one]
      omega
    | succ q =>
      simp only [List.getElem?_cons_succ] at h
      have := ih q x w h
      simp only [List.set_cons_succ, natW, Nat.pow_succ]
      generalize natW (r.set q x) = a at *
      generalize natW r = b at *
      generalize B64 ^ q = P at *
      generalize B64 = B at *
      grind
theorem natW_ge (l : List Nat) : ∀ (q w : Nat), l[q]? = some w → w * B64 ^ q ≤ natW l := by
  intro q w h
  have := natW_set l q 0 w h
  rw [Nat.zero_mul, Nat.add_zero] at this
  omega
theorem pow_256W (q r : Nat) : 256 ^ (8 * q + r) = B64 ^ q * 2 ^ (8 * r) := by
  have h1 : (256 : Nat) = 2 ^ 8 := rfl
  have h2 : B64 = 2 ^ 64 := rfl
  rw [h1, h2, ← Nat.pow_mul, ← Nat.pow_mul, ← Nat.pow_add]
  congr 1
  omega
/-- a byte put into a row of words -/
theorem put_byte {row : List Nat} {V i q r c w : Nat} (hi : i = 8 * q + r) (hr : r < 8) (hc : c < 256) (hrow : natW row = V) (hV : V < 256 ^ i) (hw : row[q]? = some w) :
    w < 2 ^ (8 * r) ∧ w + c * 2 ^ (8 * r) < B64 ∧ natW (row.set q (w + c * 2 ^ (8 * r))) = V + c * 256 ^ i := by
  have hge := natW_ge row q w hw
  have hp : 0 < B64 ^ q := Nat.pow_pos B64_pos
  rw [hi, pow_256W] at hV
  have h1 : w < 2 ^ (8 * r) := by
    rcases Nat.lt_or_ge w (2 ^ (8 * r)) with h | h
    · exact h
    · have : 2 ^ (8 * r) * B64 ^ q ≤ w * B64 ^ q := Nat.mul_le_mul_right _ h
      rw [Nat.mul_comm] at this
      omega
  have h2 : w + c * 2 ^ (8 * r) < B64 := by
    have h3 : c * 2 ^ (8 * r) + 2 ^ (8 * r) ≤ 256 * 2 ^ (8 * r) := by
      have : (c + 1) * 2 ^ (8 * r) ≤ 256 * 2 ^ (8 * r) := Nat.mul_le_mul_right _ hc
      rw [Nat.add_mul, Nat.one_mul] at this
      exact this
    have h4 : 256 * 2 ^ (8 * r) ≤ B64 := by
      have h256 : (256 : Nat) = 2 ^ 8 := rfl
      have hB : B64 = 2 ^ 64 := rfl
      rw [h256, hB, ← Nat.pow_add]
      exact Nat.pow_le_pow_right (by decide) (by omega)
    omega
  refine ⟨h1, h2, ?_⟩
  have := natW_set row q (w + c * 2 ^ (8 * r)) w hw
  rw [hi, pow_256W]
  generalize 2 ^ (8 * r) = E at *
  generalize B64 ^ q = P at *
  rw [hrow] at this
  grind
theorem or_u64W (a b k : Nat) (ha : a < 2 ^ k) (hb : b * 2 ^ k < B64) (hs : a + b * 2 ^ k < B64) : bits .or .u64 (a : Int) ((b * 2 ^ k : Nat) : Int) = ((a + b * 2 ^ k : Nat) : Int) := by
  have hB : B64 = 2 ^ 64 := rfl
  have e : a ||| b * 2 ^ k = a + b * 2 ^ k := by
    have := Nat.shiftLeft_add_eq_or_of_lt ha b
    rw [Nat.shiftLeft_eq] at this
    rw [Nat.or_comm, ← this, Nat.add_comm]
  have hx : a < B64 := by omega
  have h := bits_or_u64_nat a (b * 2 ^ k) hx hb
  rw [e] at h
  exact h
end Go.Proofs.YtckkhpegimkefaaGreatDoor
namespace Go.Proofs.YtckkhpegimkefaaGreatDoor
open Go.RowKit Go.Shelf
set_option linter.unusedVariables false

theorem wrapShl (c k x : Nat) (h : c * 2 ^ k = x) (hx : x < B64) : IntKind.u64.wrap ((c : Int) * 2 ^ k) = (x : Int) := by
  rw [show (c : Int) * 2 ^ k = ((c * 2 ^ k : Nat) : Int) by simp, h, Mul64.wrapN x hx]
set_option maxHeartbeats 1000000 in
set_option maxRecDepth 100000 in
theorem cread_any (s : ByteArray) (hs : (s.size : Int) ≤ 1000) (w : World) :
    Calls Tryz.prog 45 #[.string s] w fun e w' => ∃ row, e = .returned (.slice (some ⟨w.heap.size, 0, none⟩) row.length row.length) ∧ URow w' w.heap.size row ∧ row.length = (s.size + 7) / 8 ∧ okW row ∧ natW row = valN s.data.toList ∧ Below w.heap.size w w' := by
  obtain ⟨i0, hi, hz0, hz1, hz2⟩ := info_partsN infoU64
  obtain ⟨N, hN⟩ : ∃ N, N = (s.size + 7) / 8 := ⟨_, rfl⟩
  have hNi : ((s.size : Int) + 7) / 8 = (N : Int) := by omega
  have hNb : (N : Int) ≤ 200 := by omega
  have HN := hide hN
  have hll : s.data.toList.length = s.size := by simp
  have HL := hide hll
  clear hN hll
  go_enter Tryz.func45, Tryz.ntmps45
  go_wp2_with (at_make; refine wpList_make_full _ rfl _ _ 58 rfl w.heap.size 82 i0 (.int .u64 0) 1 Tryz.underlying58 hi hz0 hz1 .i64 .i64 _ _ N rfl rfl (by first | rfl | exact hNi) (by first | rfl | exact hNi) (by rw [hz2]; omega) (by unfold maxLen; omega) (Nat.le_refl _) ?_)
  intro w1 hown hgrow
  have hU := made_urow hown
  have hb : Below w.heap.size w w1 := (Below.refl _ _).grown hgrow (Nat.le_refl _) (fun q hq => by cases hq)
  clear hown hgrow hi hz0 hz1 hz2
  go_wp2
  go_loopw [12] (fun i wr => ∃ (k : Nat) (row : List Nat), k ≤ s.size ∧ i = .int .i64 k ∧ row.length = N ∧ okW row ∧ natW row = lowV s.data.toList k ∧ URow wr w.heap.size row ∧ Below w.heap.size w wr) (fun i _ => s.size - (intOf i).toNat)
  case atStart => exact ⟨0, _, Nat.zero_le _, rfl, by simp, okW_zeros _, by rw [natW_zeros, lowV_zero], hU, hb⟩
  case round =>
    clear hU hb
    obtain ⟨k, row, hk, rfl, hrl, hrow, hr, hU, hbel⟩ := hrel
    have hL := unhide HL
    have hN := unhide HN
    by_cases hlt : k < s.size
    · obtain ⟨j, hj⟩ : ∃ j, j = s.size - 1 - k := ⟨_, rfl⟩
      have hjs : j < s.size := by omega
      have hcj : s.data.toList[j]? = some s[j] := by rw [List.getElem?_eq_getElem (by simpa using hjs)]; rfl
      have hst := lowV_step s.data.toList k s[j] (by rw [hL, ← hj]; exact hcj) (by rw [hL]; exact hlt)
      obtain ⟨c, hc⟩ : ∃ c, c = s[j].toNat := ⟨_, rfl⟩
      have hc2 : c < 256 := by rw [hc]; exact s[j].toNat_lt
      have hcb : ∀ h : j < s.size, ((s[j]'h).toNat : Int) = (c : Int) := fun _ => by rw [hc]
      rw [← hc] at hst
      obtain ⟨q, hq⟩ : ∃ q, q = k / 8 := ⟨_, rfl⟩
      obtain ⟨r, hrr⟩ : ∃ r, r = k % 8 := ⟨_, rfl⟩
      have hqN : q < N := by omega
      obtain ⟨x, hx⟩ : ∃ x, row[q]? = some x := ⟨row[q]'(by omega), List.getElem?_eq_getElem (by omega)⟩
      obtain ⟨p1, p2, p3⟩ := put_byte (row := row) (V := lowV s.data.toList k) (i := k) (q := q) (r := r) (c := c) (w := x) (by omega) (by omega) hc2 hr (lowV_lt _ _ (by omega)) hx
      rw [Nat.add_comm (lowV s.data.toList k), ← hst] at p3
      have hsh : c * 2 ^ (8 * r) < B64 := Nat.lt_of_le_of_lt (Nat.le_add_left _ _) p2
      have hor := or_u64W x c (8 * r) p1 hsh p2
      obtain ⟨sh, hshe⟩ : ∃ sh, sh = c * 2 ^ (8 * r) := ⟨_, rfl⟩
      obtain ⟨e8, he8⟩ : ∃ e8, e8 = 8 * r := ⟨_, rfl⟩
      have hw1 := wrapShl c e8 sh (by rw [hshe, he8]) (by rw [hshe]; exact hsh)
      rw [← hshe] at p2 p3 hor
      have cx := hU.cell q x hx
      have fx := hU.frozen q
      have hset := hU.set q (x + sh)
      have hok := okW_set hrow q (x + sh) p2
      have hqi : (k : Int) / 8 = (q : Int) := by omega
      have hri : (k : Int) % 8 * 8 = (e8 : Int) := by omega
      have hji : (s.size : Int) - 1 - (k : Int) = (j : Int) := by omega
      have he64 : e8 ≤ 56 := by omega
      have hl2 : (row.set q (x + sh)).length = N := by rw [List.length_set]; exact hrl
      have HS := hide hset
      have HP := hide p3
      have HO := hide hok
      have HB := hide (hbel.setCell (p := ⟨w.heap.size, q, none⟩) (Nat.le_refl _) (.int .u64 (x + sh : Nat)))
      have hqNi : (q : Int) < (N : Int) := by omega
      generalize x + sh = xn at *
      clear hset p3 p2 p1 hok hst hcj hc hx hq hrr hj hL hN hsh hshe he8 hU hbel hr hrow
      go_wp2_with fail
      go_region
      go_wp2
      go_roundw
      case rel => exact ⟨k + 1, _, hlt, by go_num, hl2, unhide HO, unhide HP, (unhide HS).drew, (unhide HB).drew⟩
      case measure => simp [intOf]; omega
    · have hks : k = s.size := by omega
      subst hks
      rw [← hL, lowV_whole] at hr
      have HR := hide hr
      have HU := hide hU
      have HB := hide hbel
      clear hr hU hbel hL
      go_wp2
      go_ret
      refine ⟨row, ?_, unhide HU, by rw [hrl]; exact hN, hrow, unhide HR, unhide HB⟩
      rw [hrl]
      rfl
end Go.Proofs.YtckkhpegimkefaaGreatDoor
namespace Go.Proofs.YtckkhpegimkefaaGreatDoor
open Go.RowKit Go.Shelf
set_option linter.unusedVariables false

/-- a step to the inverse -/
def invP (w x : Nat) : Nat := w * x % B64
def invR (p : Nat) : Nat := (2 + (B64 - p)) % B64
def invS (w x : Nat) : Nat := x * invR (invP w x) % B64
def invN (w : Nat) : Nat → Nat
  | 0 => w
  | k + 1 => invS w (invN w k)
theorem dvd_sub_mod (B : Int) (a b : Int) (h : B ∣ a - b) (c : Int) (hc : c ∣ B) : c ∣ a - b := Int.dvd_trans hc h
theorem emod_dvd (a B : Int) : B ∣ a - a % B := by
  have := Int.emod_add_mul_ediv a B
  exact ⟨a / B, by omega⟩
theorem inv_ring (w x p r y : Int) (M : Int) (hp : M ∣ w * x - p) (hr : M ∣ 2 - p - r) (hy : M ∣ x * r - y) (d : Int) (hd : d ∣ M) (m : Int) (hm : m ∣ w * x - 1) (hmm : d ∣ m * m) : d ∣ w * y - 1 := by
  obtain ⟨a, ha⟩ := Int.dvd_trans hd hp
  obtain ⟨b, hb⟩ := Int.dvd_trans hd hr
  obtain ⟨c, hc⟩ := Int.dvd_trans hd hy
  obtain ⟨e, he⟩ := hm
  obtain ⟨f, hf⟩ := hmm
  refine ⟨-(w * c) + w * x * a - w * x * b - f * e * e, ?_⟩
  have hpe : p = w * x - d * a := by omega
  have hre : r = 2 - p - d * b := by omega
  have hye : y = x * r - d * c := by omega
  have hxe : w * x = 1 + m * e := by omega
  rw [hye, hre, hpe]
  grind
theorem invP_dvd (w x : Nat) : (B64 : Int) ∣ (w : Int) * (x : Int) - (invP w x : Nat) := by
  unfold invP
  rw [Int.natCast_emod, Int.natCast_mul]
  exact emod_dvd _ _
theorem invP_lt (w x : Nat) : invP w x < B64 := Nat.mod_lt _ B64_pos
theorem invR_dvd (p : Nat) (hp : p < B64) : (B64 : Int) ∣ 2 - (p : Int) - (invR p : Nat) := by
  unfold invR
  have h := emod_dvd ((2 + (B64 - p) : Nat) : Int) (B64 : Int)
  obtain ⟨k, hk⟩ := h
  rw [Int.natCast_emod]
  have hc : ((2 + (B64 - p) : Nat) : Int) = 2 + ((B64 : Int) - (p : Int)) := by
    rw [Int.natCast_add, Int.natCast_sub (Nat.le_of_lt hp)]
    rfl
  rw [hc] at hk ⊢
  exact ⟨k - 1, by rw [Int.mul_sub, ← hk]; omega⟩
theorem invS_dvd (w x : Nat) : (B64 : Int) ∣ (x : Int) * (invR (invP w x) : Nat) - (invS w x : Nat) := by
  unfold invS
  rw [Int.natCast_emod, Int.natCast_mul]
  exact emod_dvd _ _
theorem inv_step (w x : Nat) (d m : Int) (hd : d ∣ (B64 : Int)) (hm : m ∣ (w : Int) * (x : Int) - 1) (hmm : d ∣ m * m) : d ∣ (w : Int) * (invS w x : Nat) - 1 :=
  inv_ring w x (invP w x : Nat) (invR (invP w x) : Nat) (invS w x : Nat) B64 (invP_dvd w x) (invR_dvd _ (invP_lt w x)) (invS_dvd w x) d hd m hm hmm
theorem inv_end (w : Nat) (h : w % 2 = 1) : (B64 : Int) ∣ (w : Int) * (invN w 5 : Nat) - 1 := by
  have h0 : (8 : Int) ∣ (w : Int) * (invN w 0 : Nat) - 1 := by
    show (8 : Int) ∣ (w : Int) * (w : Int) - 1
    obtain ⟨k, hk⟩ : ∃ k : Int, (w : Int) = 2 * k + 1 := ⟨(w : Int) / 2, by omega⟩
    rw [hk]
    have hk2 : k % 2 = 0 ∨ k % 2 = 1 := by omega
    rcases hk2 with h1 | h1
    · exact ⟨k / 2 * (k + 1), by
        have : k = 2 * (k / 2) := by omega
        generalize k / 2 = j at *
        grind⟩
    · exact ⟨k * ((k + 1) / 2), by
        have : k + 1 = 2 * ((k + 1) / 2) := by omega
        generalize (k + 1) / 2 = j at *
        grind⟩
  have hB : (B64 : Int) = 18446744073709551616 := rfl
  have h1 : (64 : Int) ∣ (w : Int) * (invN w 1 : Nat) - 1 := inv_step w _ 64 8 (by rw [hB]; exact ⟨288230376151711744, by decide⟩) h0 ⟨1, by decide⟩
  have h2 : (4096 : Int) ∣ (w : Int) * (invN w 2 : Nat) - 1 := inv_step w _ 4096 64 (by rw [hB]; exact ⟨4503599627370496, by decide⟩) h1 ⟨1, by decide⟩
  have h3 : (16777216 : Int) ∣ (w : Int) * (invN w 3 : Nat) - 1 := inv_step w _ 16777216 4096 (by rw [hB]; exact ⟨1099511627776, by decide⟩) h2 ⟨1, by decide⟩
  have h4 : (281474976710656 : Int) ∣ (w : Int) * (invN w 4 : Nat) - 1 := inv_step w _ 281474976710656 16777216 (by rw [hB]; exact ⟨65536, by decide⟩) h3 ⟨1, by decide⟩
  exact inv_step w _ B64 281474976710656 (Int.dvd_refl _) h4 (by rw [hB]; exact ⟨4294967296, by decide⟩)
theorem invN_lt (w k : Nat) (h : w < B64) : invN w k < B64 := by
  cases k with
  | zero => exact h
  | succ k => exact Nat.mod_lt _ B64_pos
/-- the negative of it -/
def negW (v : Nat) : Nat := (B64 - v) % B64
theorem neg_inv (w v : Nat) (hv : v < B64) (h : (B64 : Int) ∣ (w : Int) * (v : Int) - 1) : (w * negW v + 1) % B64 = 0 := by
  obtain ⟨k, hk⟩ := h
  unfold negW
  obtain ⟨j, hj⟩ := emod_dvd ((B64 - v : Nat) : Int) (B64 : Int)
  rw [Int.natCast_sub (Nat.le_of_lt hv)] at hj
  have hd : (B64 : Int) ∣ ((w * ((B64 - v) % B64) + 1 : Nat) : Int) := by
    rw [Int.natCast_add, Int.natCast_mul, Int.natCast_emod, Int.natCast_sub (Nat.le_of_lt hv)]
    refine ⟨w - k - w * j, ?_⟩
    have : ((B64 : Int) - v) % B64 = B64 - v - B64 * j := by omega
    rw [this]
    grind
  have := Int.emod_eq_zero_of_dvd hd
  omega

theorem wrapMulM (a b : Nat) : IntKind.u64.wrap ((a : Int) * (b : Int)) = ((a * b % B64 : Nat) : Int) := by
  rw [← Int.natCast_mul, Mul64.wrapM]
  rfl
theorem wrapSub2 (p : Nat) (hp : p < B64) : IntKind.u64.wrap (2 - (p : Int)) = (invR p : Nat) := by
  rw [IntKind.wrap_u64]
  unfold invR
  have hc : ((2 + (B64 - p) : Nat) : Int) = 2 - (p : Int) + (B64 : Int) := by
    rw [Int.natCast_add, Int.natCast_sub (Nat.le_of_lt hp)]
    show (2 : Int) + _ = _
    omega
  rw [Int.natCast_emod, hc, Int.add_emod_right]
  rfl
set_option maxHeartbeats 1000000 in
set_option maxRecDepth 100000 in
theorem inverse_any (v : Nat) (w : World) :
    Calls Tryz.prog 85 #[.int .u64 v] w fun e w' => e = .returned (.int .u64 (invN v 5 : Nat)) ∧ w' = w := by
  go_enter Tryz.func85, Tryz.ntmps85
  go_wp2
  go_loop [3, 5] (fun x i => ∃ k : Nat, k ≤ 5 ∧ i = .int .i64 k ∧ x = .int .u64 (invN v k : Nat)) (fun _ i => 5 - (intOf i).toNat)
  case atStart => exact ⟨0, by omega, rfl, rfl⟩
  case round =>
    obtain ⟨k, hk, rfl, rfl⟩ := hrel
    by_cases hlt : k < 5
    · have hs : invN v (k + 1) = invS v (invN v k) := rfl
      have w1 := wrapMulM v (invN v k)
      have w2 := wrapSub2 (invP v (invN v k)) (invP_lt _ _)
      have w3 := wrapMulM (invN v k) (invR (invP v (invN v k)))
      rw [show v * invN v k % B64 = invP v (invN v k) from rfl] at w1
      rw [show invN v k * invR (invP v (invN v k)) % B64 = invS v (invN v k) from rfl, ← hs] at w3
      have HS := hide hs
      clear hs
      obtain ⟨y, hy⟩ : ∃ y, y = invN v (k + 1) := ⟨_, rfl⟩
      rw [← hy] at w3
      have HY := hide hy
      clear hy HS
      generalize invR (invP v (invN v k)) = r at *
      generalize invP v (invN v k) = p at *
      generalize invN v k = x at *
      go_wp2
      go_round
      case rel => exact ⟨k + 1, by omega, by go_num, by rw [← unhide HY]⟩
      case measure => simp [intOf]; omega
    · have hk5 : k = 5 := by omega
      subst hk5
      go_wp2
      go_ret
      exact ⟨rfl, rfl⟩
end Go.Proofs.YtckkhpegimkefaaGreatDoor
namespace Go.Proofs.YtckkhpegimkefaaGreatDoor
open Go.RowKit Go.Shelf
set_option linter.unusedVariables false

/-- what undoes so many doublings, modulo an odd number -/
def unTwo (M k : Nat) : Nat := ((M + 1) / 2) ^ k
theorem unTwo_mul (M k : Nat) (hM : M % 2 = 1) : 2 ^ k * unTwo M k % M = 1 % M := by
  unfold unTwo
  rw [← Nat.mul_pow, show 2 * ((M + 1) / 2) = M + 1 by omega, Nat.pow_mod, Nat.add_mod_left]
  rw [← Nat.pow_mod, Nat.one_pow]
theorem mod_mul_left (a b c M : Nat) (h : a % M = b % M) : a * c % M = b * c % M := by rw [Nat.mul_mod, h, ← Nat.mul_mod]
/-- what times answers -/
theorem mont_val (z a R Ri M : Nat) (hz : z < M) (hR : R * Ri % M = 1 % M) (h : z * R % M = a % M) : z = a * Ri % M := by
  have h1 := mod_mul_left (z * R) a Ri M h
  rw [Nat.mul_assoc] at h1
  have h2 : z * (R * Ri) % M = z := by
    rw [Nat.mul_mod, hR, ← Nat.mul_mod, Nat.mul_one, Nat.mod_eq_of_lt hz]
  rw [h2] at h1
  exact h1
/-- two numbers, each times R -/
theorem mont_mul (x y a b R Ri M : Nat) (hR : R * Ri % M = 1 % M) (hx : x = a * R % M) (hy : y = b * R % M) : x * y * Ri % M = a * b * R % M := by
  rw [hx, hy]
  have e1 : a * R % M * (b * R % M) * Ri % M = a * R * (b * R) * Ri % M := by
    rw [Nat.mul_mod, ← Nat.mul_mod (a * R), ← Nat.mul_mod]
  rw [e1, show a * R * (b * R) * Ri = a * b * R * (R * Ri) by grind, Nat.mul_mod, hR, ← Nat.mul_mod, Nat.mul_one]
/-- the way in: by R times R -/
theorem mont_in (x R Ri M : Nat) (hR : R * Ri % M = 1 % M) : x * (R * R % M) * Ri % M = x * R % M := by
  have e1 : x * (R * R % M) * Ri % M = x * (R * R) * Ri % M := by
    rw [Nat.mul_mod, Nat.mul_mod x, Nat.mod_mod, ← Nat.mul_mod x, ← Nat.mul_mod]
  rw [e1, show x * (R * R) * Ri = x * R * (R * Ri) by grind, Nat.mul_mod, hR, ← Nat.mul_mod, Nat.mul_one]
/-- the way out: by 1 -/
theorem mont_out (x a R Ri M : Nat) (hR : R * Ri % M = 1 % M) (hx : x = a * R % M) : x * 1 * Ri % M = a % M := by
  rw [hx, Nat.mul_one]
  have e1 : a * R % M * Ri % M = a * R * Ri % M := by rw [Nat.mul_mod, Nat.mod_mod, ← Nat.mul_mod]
  rw [e1, Nat.mul_assoc, Nat.mul_mod, hR, ← Nat.mul_mod, Nat.mul_one]
/-- a square on the way to R times R -/
theorem mont_sq (x a R Ri M : Nat) (hR : R * Ri % M = 1 % M) (hx : x = R * a % M) : x * x * Ri % M = R * (a * a) % M := by
  rw [mont_mul x x a a R Ri M hR (by rw [hx, Nat.mul_comm]) (by rw [hx, Nat.mul_comm]), Nat.mul_comm]
theorem twice_pow (k M : Nat) : 2 * (2 ^ k % M) % M = 2 ^ (k + 1) % M := by
  rw [Nat.mul_mod, Nat.mod_mod, ← Nat.mul_mod, Nat.pow_succ, Nat.mul_comm]
theorem sq_pow (s j : Nat) : 2 ^ (s * 2 ^ j) * 2 ^ (s * 2 ^ j) = 2 ^ (s * 2 ^ (j + 1)) := by
  rw [← Nat.pow_add, Nat.pow_succ]
  congr 1
  grind
theorem B64_two (n : Nat) : B64 ^ n = 2 ^ (64 * n) := by
  have hB : B64 = 2 ^ 64 := rfl
  rw [hB, ← Nat.pow_mul]
/-- so many bits of an exponent, from the top -/
theorem pow_bit (x M d i : Nat) (acc : Nat) (h : acc = x ^ (d / 2 ^ (i + 1)) % M) : acc * acc % M * (if d / 2 ^ i % 2 = 1 then x else 1) % M = x ^ (d / 2 ^ i) % M := by
  have hd : d / 2 ^ i = 2 * (d / 2 ^ (i + 1)) + d / 2 ^ i % 2 := by
    have : d / 2 ^ (i + 1) = d / 2 ^ i / 2 := by rw [Nat.pow_succ, Nat.div_div_eq_div_mul]
    omega
  generalize d / 2 ^ (i + 1) = e at *
  rw [h]
  have hsq : x ^ e % M * (x ^ e % M) % M = x ^ (2 * e) % M := by
    rw [← Nat.mul_mod, ← Nat.pow_add]
    congr 2
    omega
  rw [hsq, Nat.mul_mod, Nat.mod_mod, ← Nat.mul_mod]
  have h2 : d / 2 ^ i % 2 = 0 ∨ d / 2 ^ i % 2 = 1 := by omega
  rcases h2 with h2 | h2
  · rw [if_neg (by omega), Nat.mul_one]
    rw [h2, Nat.add_zero] at hd
    rw [hd]
  · rw [if_pos h2]
    rw [h2] at hd
    rw [hd, Nat.pow_succ]
end Go.Proofs.YtckkhpegimkefaaGreatDoor
