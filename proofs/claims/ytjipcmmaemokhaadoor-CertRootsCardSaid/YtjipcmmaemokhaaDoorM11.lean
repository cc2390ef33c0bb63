/- read of a number out of bytes: the walk. -/
import Derived.Test.YtjipcmmaemokhaaDoorM10
import Derived.Test.YtjipcmmaemokhaaDoorM05
namespace Go.Proofs.YtjipcmmaemokhaaDoor
open Go.RowKit Go.Shelf
set_option linter.unusedVariables false

theorem wrapShl (c k x : Nat) (h : c * 2 ^ k = x) (hx : x < B64) : IntKind.u64.wrap ((c : Int) * 2 ^ k) = (x : Int) := by
  rw [show (c : Int) * 2 ^ k = ((c * 2 ^ k : Nat) : Int) by simp, h, Mul64.wrapN x hx]
set_option maxHeartbeats 1000000 in
set_option maxRecDepth 100000 in
theorem cread_any (s : ByteArray) (hs : (s.size : Int) ≤ 1000) (w : World) :
    Calls Tryd.prog 14 #[.string s] w fun e w' => ∃ row, e = .returned (.slice (some ⟨w.heap.size, 0, none⟩) row.length row.length) ∧ URow w' w.heap.size row ∧ row.length = (s.size + 7) / 8 ∧ okW row ∧ natW row = valN s.data.toList ∧ Below w.heap.size w w' := by
  obtain ⟨i0, hi, hz0, hz1, hz2⟩ := info_partsN infoU64
  obtain ⟨N, hN⟩ : ∃ N, N = (s.size + 7) / 8 := ⟨_, rfl⟩
  have hNi : ((s.size : Int) + 7) / 8 = (N : Int) := by omega
  have hNb : (N : Int) ≤ 200 := by omega
  have HN := hide hN
  have hll : s.data.toList.length = s.size := by simp
  have HL := hide hll
  clear hN hll
  go_enter Tryd.func14, Tryd.ntmps14
  go_wp2_with (at_make; refine wpList_make_full _ rfl _ _ 36 rfl w.heap.size 40 i0 (.int .u64 0) 1 Tryd.underlying36 hi hz0 hz1 .i64 .i64 _ _ N rfl rfl (by first | rfl | exact hNi) (by first | rfl | exact hNi) (by rw [hz2]; omega) (by unfold maxLen; omega) (Nat.le_refl _) ?_)
  intro w1 hown hgrow
  have hU := made_urow hown
  have hb : Below w.heap.size w w1 := (Below.refl _ _).grown hgrow (Nat.le_refl _) (fun q hq => by cases hq)
  clear hown hgrow hi hz0 hz1 hz2
  go_wp2
  go_loopw [12] (fun i wr => ∃ (k : Nat) (row : List Nat), k ≤ s.size ∧ i = .int .i64 k ∧ row.length = N ∧ okW row ∧ natW row = lowV s.data.toList k ∧ URow wr w.heap.size row ∧ Below w.heap.size w wr) (fun i _ => s.size - (intOf i).toNat)
  case atStart => exact ⟨0, _, Nat.zero_le _, rfl, by simp, okW_zeros _, by rw [natW_zeros, lowV_zero], hU, hb⟩
  case round =>
    clear hU hb
    obtain ⟨k, row, hk, rfl, hrl, hrow, hr, hU, hbel⟩ := hrel
    have hL := unhide HL
    have hN := unhide HN
    by_cases hlt : k < s.size
    · obtain ⟨j, hj⟩ : ∃ j, j = s.size - 1 - k := ⟨_, rfl⟩
      have hjs : j < s.size := by omega
      have hcj : s.data.toList[j]? = some s[j] := by rw [List.getElem?_eq_getElem (by simpa using hjs)]; rfl
      have hst := lowV_step s.data.toList k s[j] (by rw [hL, ← hj]; exact hcj) (by rw [hL]; exact hlt)
      obtain ⟨c, hc⟩ : ∃ c, c = s[j].toNat := ⟨_, rfl⟩
      have hc2 : c < 256 := by rw [hc]; exact s[j].toNat_lt
      have hcb : ∀ h : j < s.size, ((s[j]'h).toNat : Int) = (c : Int) := fun _ => by rw [hc]
      rw [← hc] at hst
      obtain ⟨q, hq⟩ : ∃ q, q = k / 8 := ⟨_, rfl⟩
      obtain ⟨r, hrr⟩ : ∃ r, r = k % 8 := ⟨_, rfl⟩
      have hqN : q < N := by omega
      obtain ⟨x, hx⟩ : ∃ x, row[q]? = some x := ⟨row[q]'(by omega), List.getElem?_eq_getElem (by omega)⟩
      obtain ⟨p1, p2, p3⟩ := put_byte (row := row) (V := lowV s.data.toList k) (i := k) (q := q) (r := r) (c := c) (w := x) (by omega) (by omega) hc2 hr (lowV_lt _ _ (by omega)) hx
      rw [Nat.add_comm (lowV s.data.toList k), ← hst] at p3
      have hsh : c * 2 ^ (8 * r) < B64 := Nat.lt_of_le_of_lt (Nat.le_add_left _ _) p2
      have hor := or_u64W x c (8 * r) p1 hsh p2
      obtain ⟨sh, hshe⟩ : ∃ sh, sh = c * 2 ^ (8 * r) := ⟨_, rfl⟩
      obtain ⟨e8, he8⟩ : ∃ e8, e8 = 8 * r := ⟨_, rfl⟩
      have hw1 := wrapShl c e8 sh (by rw [hshe, he8]) (by rw [hshe]; exact hsh)
      rw [← hshe] at p2 p3 hor
      have cx := hU.cell q x hx
      have fx := hU.frozen q
      have hset := hU.set q (x + sh)
      have hok := okW_set hrow q (x + sh) p2
      have hqi : (k : Int) / 8 = (q : Int) := by omega
      have hri : (k : Int) % 8 * 8 = (e8 : Int) := by omega
      have hji : (s.size : Int) - 1 - (k : Int) = (j : Int) := by omega
      have he64 : e8 ≤ 56 := by omega
      have hl2 : (row.set q (x + sh)).length = N := by rw [List.length_set]; exact hrl
      have HS := hide hset
      have HP := hide p3
      have HO := hide hok
      have HB := hide (hbel.setCell (p := ⟨w.heap.size, q, none⟩) (Nat.le_refl _) (.int .u64 (x + sh : Nat)))
      have hqNi : (q : Int) < (N : Int) := by omega
      generalize x + sh = xn at *
      clear hset p3 p2 p1 hok hst hcj hc hx hq hrr hj hL hN hsh hshe he8 hU hbel hr hrow
      go_wp2_with fail
      go_region
      go_wp2
      go_roundw
      case rel => exact ⟨k + 1, _, hlt, by go_num, hl2, unhide HO, unhide HP, (unhide HS).drew, (unhide HB).drew⟩
      case measure => simp [intOf]; omega
    · have hks : k = s.size := by omega
      subst hks
      rw [← hL, lowV_whole] at hr
      have HR := hide hr
      have HU := hide hU
      have HB := hide hbel
      clear hr hU hbel hL
      go_wp2
      go_ret
      refine ⟨row, ?_, unhide HU, by rw [hrl]; exact hN, hrow, unhide HR, unhide HB⟩
      rw [hrl]
      rfl
end Go.Proofs.YtjipcmmaemokhaaDoor
namespace Go.Proofs.YtjipcmmaemokhaaDoor
open Go.RowKit Go.Shelf
set_option linter.unusedVariables false

/-- a step to the inverse -/
def invP (w x : Nat) : Nat := w * x % B64
def invR (p : Nat) : Nat := (2 + (B64 - p)) % B64
def invS (w x : Nat) : Nat := x * invR (invP w x) % B64
def invN (w : Nat) : Nat → Nat
  | 0 => w
  | k + 1 => invS w (invN w k)
theorem dvd_sub_mod (B : Int) (a b : Int) (h : B ∣ a - b) (c : Int) (hc : c ∣ B) : c ∣ a - b := Int.dvd_trans hc h
theorem emod_dvd (a B : Int) : B ∣ a - a % B := by
  have := Int.emod_add_mul_ediv a B
  exact ⟨a / B, by omega⟩
theorem inv_ring (w x p r y : Int) (M : Int) (hp : M ∣ w * x - p) (hr : M ∣ 2 - p - r) (hy : M ∣ x * r - y) (d : Int) (hd : d ∣ M) (m : Int) (hm : m ∣ w * x - 1) (hmm : d ∣ m * m) : d ∣ w * y - 1 := by
  obtain ⟨a, ha⟩ := Int.dvd_trans hd hp
  obtain ⟨b, hb⟩ := Int.dvd_trans hd hr
  obtain ⟨c, hc⟩ := Int.dvd_trans hd hy
  obtain ⟨e, he⟩ := hm
  obtain ⟨f, hf⟩ := hmm
  refine ⟨-(w * c) + w * x * a - w * x * b - f * e * e, ?_⟩
  have hpe : p = w * x - d * a := by omega
  have hre : r = 2 - p - d * b := by omega
  have hye : y = x * r - d * c := by omega
  have hxe : w * x = 1 + m * e := by omega
  rw [hye, hre, hpe]
  grind
theorem invP_dvd (w x : Nat) : (B64 : Int) ∣ (w : Int) * (x : Int) - (invP w x : Nat) := by
  unfold invP
  rw [Int.natCast_emod, Int.natCast_mul]
  exact emod_dvd _ _
theorem invP_lt (w x : Nat) : invP w x < B64 := Nat.mod_lt _ B64_pos
theorem invR_dvd (p : Nat) (hp : p < B64) : (B64 : Int) ∣ 2 - (p : Int) - (invR p : Nat) := by
  unfold invR
  have h := emod_dvd ((2 + (B64 - p) : Nat) : Int) (B64 : Int)
  obtain ⟨k, hk⟩ := h
  rw [Int.natCast_emod]
  have hc : ((2 + (B64 - p) : Nat) : Int) = 2 + ((B64 : Int) - (p : Int)) := by
    rw [Int.natCast_add, Int.natCast_sub (Nat.le_of_lt hp)]
    rfl
  rw [hc] at hk ⊢
  exact ⟨k - 1, by rw [Int.mul_sub, ← hk]; omega⟩
theorem invS_dvd (w x : Nat) : (B64 : Int) ∣ (x : Int) * (invR (invP w x) : Nat) - (invS w x : Nat) := by
  unfold invS
  rw [Int.natCast_emod, Int.natCast_mul]
  exact emod_dvd _ _
theorem inv_step (w x : Nat) (d m : Int) (hd : d ∣ (B64 : Int)) (hm : m ∣ (w : Int) * (x : Int) - 1) (hmm : d ∣ m * m) : d ∣ (w : Int) * (invS w x : Nat) - 1 :=
  inv_ring w x (invP w x : Nat) (invR (invP w x) : Nat) (invS w x : Nat) B64 (invP_dvd w x) (invR_dvd _ (invP_lt w x)) (invS_dvd w x) d hd m hm hmm
theorem inv_end (w : Nat) (h : w % 2 = 1) : (B64 : Int) ∣ (w : Int) * (invN w 5 : Nat) - 1 := by
  have h0 : (8 : Int) ∣ (w : Int) * (invN w 0 : Nat) - 1 := by
    show (8 : Int) ∣ (w : Int) * (w : Int) - 1
    obtain ⟨k, hk⟩ : ∃ k : Int, (w : Int) = 2 * k + 1 := ⟨(w : Int) / 2, by omega⟩
    rw [hk]
    have hk2 : k % 2 = 0 ∨ k % 2 = 1 := by omega
    rcases hk2 with h1 | h1
    · exact ⟨k / 2 * (k + 1), by
        have : k = 2 * (k / 2) := by omega
        generalize k / 2 = j at *
        grind⟩
    · exact ⟨k * ((k + 1) / 2), by
        have : k + 1 = 2 * ((k + 1) / 2) := by omega
        generalize (k + 1) / 2 = j at *
        grind⟩
  have hB : (B64 : Int) = 18446744073709551616 := rfl
  have h1 : (64 : Int) ∣ (w : Int) * (invN w 1 : Nat) - 1 := inv_step w _ 64 8 (by rw [hB]; exact ⟨288230376151711744, by decide⟩) h0 ⟨1, by decide⟩
  have h2 : (4096 : Int) ∣ (w : Int) * (invN w 2 : Nat) - 1 := inv_step w _ 4096 64 (by rw [hB]; exact ⟨4503599627370496, by decide⟩) h1 ⟨1, by decide⟩
  have h3 : (16777216 : Int) ∣ (w : Int) * (invN w 3 : Nat) - 1 := inv_step w _ 16777216 4096 (by rw [hB]; exact ⟨1099511627776, by decide⟩) h2 ⟨1, by decide⟩
  have h4 : (281474976710656 : Int) ∣ (w : Int) * (invN w 4 : Nat) - 1 := inv_step w _ 281474976710656 16777216 (by rw [hB]; exact ⟨65536, by decide⟩) h3 ⟨1, by decide⟩
  exact inv_step w _ B64 281474976710656 (Int.dvd_refl _) h4 (by rw [hB]; exact ⟨4294967296, by decide⟩)
theorem invN_lt (w k : Nat) (h : w < B64) : invN w k < B64 := by
  cases k with
  | zero => exact h
  | succ k => exact Nat.mod_lt _ B64_pos
/-- the negative of it -/
def negW (v : Nat) : Nat := (B64 - v) % B64
theorem neg_inv (w v : Nat) (hv : v < B64) (h : (B64 : Int) ∣ (w : Int) * (v : Int) - 1) : (w * negW v + 1) % B64 = 0 := by
  obtain ⟨k, hk⟩ := h
  unfold negW
  obtain ⟨j, hj⟩ := emod_dvd ((B64 - v : Nat) : Int) (B64 : Int)
  rw [Int.natCast_sub (Nat.le_of_lt hv)] at hj
  have hd : (B64 : Int) ∣ ((w * ((B64 - v) % B64) + 1 : Nat) : Int) := by
    rw [Int.natCast_add, Int.natCast_mul, Int.natCast_emod, Int.natCast_sub (Nat.le_of_lt hv)]
    refine ⟨w - k - w * j, ?_⟩
    have : ((B64 : Int) - v) % B64 = B64 - v - B64 * j := by omega
    rw [this]
    grind
  have := Int.emod_eq_zero_of_dvd hd
  omega

theorem wrapMulM (a b : Nat) : IntKind.u64.wrap ((a : Int) * (b : Int)) = ((a * b % B64 : Nat) : Int) := by
  rw [← Int.natCast_mul, Mul64.wrapM]
  rfl
theorem wrapSub2 (p : Nat) (hp : p < B64) : IntKind.u64.wrap (2 - (p : Int)) = (invR p : Nat) := by
  rw [IntKind.wrap_u64]
  unfold invR
  have hc : ((2 + (B64 - p) : Nat) : Int) = 2 - (p : Int) + (B64 : Int) := by
    rw [Int.natCast_add, Int.natCast_sub (Nat.le_of_lt hp)]
    show (2 : Int) + _ = _
    omega
  rw [Int.natCast_emod, hc, Int.add_emod_right]
  rfl
set_option maxHeartbeats 1000000 in
set_option maxRecDepth 100000 in
theorem inverse_any (v : Nat) (w : World) :
    Calls Tryd.prog 25 #[.int .u64 v] w fun e w' => e = .returned (.int .u64 (invN v 5 : Nat)) ∧ w' = w := by
  go_enter Tryd.func25, Tryd.ntmps25
  go_wp2
  go_loop [3, 5] (fun x i => ∃ k : Nat, k ≤ 5 ∧ i = .int .i64 k ∧ x = .int .u64 (invN v k : Nat)) (fun _ i => 5 - (intOf i).toNat)
  case atStart => exact ⟨0, by omega, rfl, rfl⟩
  case round =>
    obtain ⟨k, hk, rfl, rfl⟩ := hrel
    by_cases hlt : k < 5
    · have hs : invN v (k + 1) = invS v (invN v k) := rfl
      have w1 := wrapMulM v (invN v k)
      have w2 := wrapSub2 (invP v (invN v k)) (invP_lt _ _)
      have w3 := wrapMulM (invN v k) (invR (invP v (invN v k)))
      rw [show v * invN v k % B64 = invP v (invN v k) from rfl] at w1
      rw [show invN v k * invR (invP v (invN v k)) % B64 = invS v (invN v k) from rfl, ← hs] at w3
      have HS := hide hs
      clear hs
      obtain ⟨y, hy⟩ : ∃ y, y = invN v (k + 1) := ⟨_, rfl⟩
      rw [← hy] at w3
      have HY := hide hy
      clear hy HS
      generalize invR (invP v (invN v k)) = r at *
      generalize invP v (invN v k) = p at *
      generalize invN v k = x at *
      go_wp2
      go_round
      case rel => exact ⟨k + 1, by omega, by go_num, by rw [← unhide HY]⟩
      case measure => simp [intOf]; omega
    · have hk5 : k = 5 := by omega
      subst hk5
      go_wp2
      go_ret
      exact ⟨rfl, rfl⟩
end Go.Proofs.YtjipcmmaemokhaaDoor
