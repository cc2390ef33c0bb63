/- twice of the program; read of a number. -/
import Derived.Test.YtjipcmmaemokhaaDoorM09
import Derived.Test.YtjipcmmaemokhaaDoorM06
namespace Go.Proofs.YtjipcmmaemokhaaDoor
open Go.RowKit Go.Shelf
set_option linter.unusedVariables false

theorem two_room (X P : Nat) (hP : 0 < P) (h : X < P) : 2 * X < P * B64 := by
  have : P * 2 ≤ P * B64 := Nat.mul_le_mul_left _ (by unfold B64; decide)
  omega
set_option maxHeartbeats 1000000 in
set_option maxRecDepth 100000 in
theorem twice_any (xs ms : List Nat) (inv : Nat) (gx ox xc gm om mc : Nat) (sa : Option Addr) (sn sc : Nat) (w : World)
    (hX : NumAt w gx ox xs) (hM : NumAt w gm om ms) (hx : okW xs) (hm : okW ms) (hxl : xs.length = ms.length) (hxm : natW xs < natW ms) (hml : (ms.length : Int) ≤ 400) :
    Calls Tryd.prog 26 #[modV gm om ms.length mc inv (.slice sa sn sc), .slice (some ⟨gx, ox, none⟩) xs.length xc] w fun e w' => ∃ zg zo zc zs, e = .returned (.slice (some ⟨zg, zo, none⟩) zs.length zc) ∧ NumAt w' zg zo zs ∧ zs.length = ms.length ∧ okW zs ∧ natW zs = 2 * natW xs % natW ms ∧ zs.length ≤ zc ∧ Below w.heap.size w w' := by
  obtain ⟨i0, hi, hz0, hz1, hz2⟩ := info_partsN infoU64
  obtain ⟨n, hn⟩ : ∃ n, n = ms.length := ⟨_, rfl⟩
  have hxn : xs.length = n := by rw [hxl, hn]
  have hXl := natW_lt hx
  rw [hxn] at hXl
  have hroom : natW (List.replicate (n + 1) 0) + 2 * natW xs < B64 ^ (List.replicate (n + 1) 0).length := by
    rw [natW_zeros, List.length_replicate, Nat.zero_add, Nat.pow_succ]
    exact two_room _ _ (Nat.pow_pos B64_pos) hXl
  have A1 := fun w2 tc (hw2 : URow w2 (w.heap.size + 1) ([] ++ List.replicate (n + 1) 0)) (hx2 : NumAt w2 gx ox xs) => addTimes_any [] (List.replicate (n + 1) 0) xs 2 (w.heap.size + 1) tc gx ox xc w2 hw2 hx2 (by have := hX.1; omega) (by rw [List.length_replicate]; omega) (by unfold B64; decide) hx (okW_zeros _) hroom (by rw [List.length_replicate]; omega)
  rw [List.length_replicate, natW_zeros, Nat.zero_add] at A1
  have O1 := fun w2 (us : List Nat) (hu : us.length = n + 1) (huo : okW us) (hun : natW us = 2 * natW xs) (ht2 : NumAt w2 (w.heap.size + 1) 0 us) (hm2 : NumAt w2 gm om ms) => once_any us ms (w.heap.size + 1) 0 us.length gm om mc inv (.slice sa sn sc) w2 ht2 hm2 huo hm (by rw [hu, hn]) (by rw [hun]; omega) (by omega) (Nat.le_refl _) ⟨_, _, _, rfl⟩
  rw [← hn] at O1
  unfold modV at *
  rw [hxn] at A1
  rw [hxn, ← hn]
  have HA := hide A1
  have HO := hide O1
  have HX := hide hX
  have HM := hide hM
  have gx1 := hX.1
  have gm1 := hM.1
  rw [← hn] at hml
  clear A1 O1 hX hM hx hm hxl hxm hroom hXl hxn hn
  go_enter Tryd.func26, Tryd.ntmps26
  go_wp2_with (at_make; refine wpList_make_full _ rfl _ _ 36 rfl (w.heap.size + 1) 40 i0 (.int .u64 0) 1 Tryd.underlying36 hi hz0 hz1 .i64 .i64 _ _ (n + 1) rfl rfl (by simp) (by simp) (by rw [hz2]; omega) (by unfold maxLen; omega) (by simp) ?_)
  intro w1 hown hgrow
  obtain ⟨hBX, hU, hbel⟩ := box_made hown hgrow
  have hwz : w.heap.size + 1 < w1.heap.size := hU.lt
  have hXr : NumAt w1 gx ox xs := (unhide HX).from hbel gx1 (by omega)
  have HU := hide hU
  have HXr := hide hXr
  have HBX := hide hBX
  have HB := hide hbel
  clear hown hgrow hi hz0 hz1 hz2 hBX hU hbel hXr
  go_wp2_with fail
  refine (unhide HA _ _ (unhide HU) (unhide HXr)).mono ?_
  rintro e y1 ⟨rfl, u, hU1, hul, huo, hun, hon⟩
  have hBX1 := (unhide HBX).only hon (by omega)
  have b0 := hBX1.cell0
  have b1 := hBX1.cell1
  have b2 := hBX1.cell2
  have W1 := (unhide HB).trans (hon.below (Nat.le_succ _))
  have hwz1 : w.heap.size + 1 < y1.heap.size := hU1.lt
  have hMr : NumAt y1 gm om ms := (unhide HM).from W1 gm1 (by omega)
  have hN2 : NumAt y1 (w.heap.size + 1) 0 u := by
    have := hU1.numAt 0
    simpa using this
  have N2 := hide (unhide HO _ u hul huo hun hN2 hMr)
  rw [hul, hun] at N2
  have HW := hide W1
  clear HA HO HU HXr HBX HB hU1 hul huo hun hon hBX1 W1 hMr hN2
  go_wp2_with fail
  refine (unhide N2).mono ?_
  rintro e y2 ⟨zg, zo, zc, zs, rfl, g1, g2, g3, g4, g5, g6⟩
  go_wp2
  go_ret
  exact ⟨zg, zo, zc, zs, by rw [g2]; rfl, g1, g2, g3, g4, g5, (unhide HW).trans (g6.mono (Nat.le_of_lt (Nat.lt_of_succ_lt hwz1)))⟩
end Go.Proofs.YtjipcmmaemokhaaDoor
namespace Go.Proofs.YtjipcmmaemokhaaDoor
open Go.RowKit Go.Shelf
set_option linter.unusedVariables false

theorem valN_consN (b : UInt8) (l : List UInt8) : valN (b :: l) = b.toNat * 256 ^ l.length + valN l := by
  have h : ∀ (l : List UInt8) (a : Nat), l.foldl (fun n b => n * 256 + b.toNat) a = a * 256 ^ l.length + l.foldl (fun n b => n * 256 + b.toNat) 0 := by
    intro l
    induction l with
    | nil => intro a; simp
    | cons b l ih =>
      intro a
      rw [List.foldl_cons, List.foldl_cons, List.length_cons, ih (a * 256 + b.toNat), ih (0 * 256 + b.toNat), Nat.pow_succ, Nat.add_mul]
      rw [show a * 256 * 256 ^ l.length = a * (256 ^ l.length * 256) by rw [Nat.mul_assoc, Nat.mul_comm 256], Nat.zero_mul, Nat.zero_add, Nat.add_assoc]
  show (b :: l).foldl _ 0 = _
  rw [List.foldl_cons, h]
  simp [valN]
/-- the number of the last i bytes -/
def lowV (l : List UInt8) (i : Nat) : Nat := valN (l.drop (l.length - i))
theorem lowV_zero (l : List UInt8) : lowV l 0 = 0 := by simp [lowV, valN]
theorem lowV_whole (l : List UInt8) : lowV l l.length = valN l := by simp [lowV]
theorem lowV_lt (l : List UInt8) (i : Nat) (h : i ≤ l.length) : lowV l i < 256 ^ i := by
  have := valN_lt (l.drop (l.length - i))
  rw [List.length_drop, show l.length - (l.length - i) = i by omega] at this
  exact this
theorem lowV_step (l : List UInt8) (i : Nat) (c : UInt8) (h : l[l.length - 1 - i]? = some c) (hi : i < l.length) : lowV l (i + 1) = c.toNat * 256 ^ i + lowV l i := by
  unfold lowV
  have hk : l.length - (i + 1) < l.length := by omega
  have hc : l[l.length - (i + 1)] = c := by
    rw [show l.length - 1 - i = l.length - (i + 1) by omega, List.getElem?_eq_getElem hk] at h
    exact Option.some.inj h
  rw [List.drop_eq_getElem_cons hk, valN_consN, hc, show l.length - (i + 1) + 1 = l.length - i by omega, List.length_drop, show l.length - (l.length - i) = i by omega]
theorem natW_set (l : List Nat) : ∀ (q x w : Nat), l[q]? = some w → natW (l.set q x) + w * B64 ^ q = natW l + x * B64 ^ q := by
  induction l with
  | nil => intro q x w h; cases h
  | cons y r ih =>
    intro q x w h
    cases q with
    | zero =>
      simp only [List.getElem?_cons_zero, Option.some.injEq] at h
      subst h
      simp only [List.set_cons_zero, natW, Nat.pow_zero, Nat.mul_one]
      omega
    | succ q =>
      simp only [List.getElem?_cons_succ] at h
      have := ih q x w h
      simp only [List.set_cons_succ, natW, Nat.pow_succ]
      generalize natW (r.set q x) = a at *
      generalize natW r = b at *
      generalize B64 ^ q = P at *
      generalize B64 = B at *
      grind
theorem natW_ge (l : List Nat) : ∀ (q w : Nat), l[q]? = some w → w * B64 ^ q ≤ natW l := by
  intro q w h
  have := natW_set l q 0 w h
  rw [Nat.zero_mul, Nat.add_zero] at this
  omega
theorem pow_256W (q r : Nat) : 256 ^ (8 * q + r) = B64 ^ q * 2 ^ (8 * r) := by
  have h1 : (256 : Nat) = 2 ^ 8 := rfl
  have h2 : B64 = 2 ^ 64 := rfl
  rw [h1, h2, ← Nat.pow_mul, ← Nat.pow_mul, ← Nat.pow_add]
  congr 1
  omega
/-- a byte put into a row of words -/
theorem put_byte {row : List Nat} {V i q r c w : Nat} (hi : i = 8 * q + r) (hr : r < 8) (hc : c < 256) (hrow : natW row = V) (hV : V < 256 ^ i) (hw : row[q]? = some w) :
    w < 2 ^ (8 * r) ∧ w + c * 2 ^ (8 * r) < B64 ∧ natW (row.set q (w + c * 2 ^ (8 * r))) = V + c * 256 ^ i := by
  have hge := natW_ge row q w hw
  have hp : 0 < B64 ^ q := Nat.pow_pos B64_pos
  rw [hi, pow_256W] at hV
  have h1 : w < 2 ^ (8 * r) := by
    rcases Nat.lt_or_ge w (2 ^ (8 * r)) with h | h
    · exact h
    · have : 2 ^ (8 * r) * B64 ^ q ≤ w * B64 ^ q := Nat.mul_le_mul_right _ h
      rw [Nat.mul_comm] at this
      omega
  have h2 : w + c * 2 ^ (8 * r) < B64 := by
    have h3 : c * 2 ^ (8 * r) + 2 ^ (8 * r) ≤ 256 * 2 ^ (8 * r) := by
      have : (c + 1) * 2 ^ (8 * r) ≤ 256 * 2 ^ (8 * r) := Nat.mul_le_mul_right _ hc
      rw [Nat.add_mul, Nat.one_mul] at this
      exact this
    have h4 : 256 * 2 ^ (8 * r) ≤ B64 := by
      have h256 : (256 : Nat) = 2 ^ 8 := rfl
      have hB : B64 = 2 ^ 64 := rfl
      rw [h256, hB, ← Nat.pow_add]
      exact Nat.pow_le_pow_right (by decide) (by omega)
    omega
  refine ⟨h1, h2, ?_⟩
  have := natW_set row q (w + c * 2 ^ (8 * r)) w hw
  rw [hi, pow_256W]
  generalize 2 ^ (8 * r) = E at *
  generalize B64 ^ q = P at *
  rw [hrow] at this
  grind
theorem or_u64W (a b k : Nat) (ha : a < 2 ^ k) (hb : b * 2 ^ k < B64) (hs : a + b * 2 ^ k < B64) : bits .or .u64 (a : Int) ((b * 2 ^ k : Nat) : Int) = ((a + b * 2 ^ k : Nat) : Int) := by
  have hB : B64 = 2 ^ 64 := rfl
  have e : a ||| b * 2 ^ k = a + b * 2 ^ k := by
    have := Nat.shiftLeft_add_eq_or_of_lt ha b
    rw [Nat.shiftLeft_eq] at this
    rw [Nat.or_comm, ← this, Nat.add_comm]
  have hx : a < B64 := by omega
  have h := bits_or_u64_nat a (b * 2 ^ k) hx hb
  rw [e] at h
  exact h
end Go.Proofs.YtjipcmmaemokhaaDoor
