/- A number in so many bytes, by the document's own: wide. -/
import Derived.Test.YtmdcaljccegiiaaGreatDoorM30
import Derived.Test.YtmdcaljccegiiaaGreatDoorM42
import Derived.Deep.QuietTactic
import Derived.BigQuiet
import Derived.Test.YtmdcaljccegiiaaGreatDoorM37
import Derived.Test.YtmdcaljccegiiaaGreatDoorM36
namespace Go.Proofs.YtmdcaljccegiiaaGreatDoor
open Go.RowKit
set_option linter.unusedVariables false
set_option linter.unusedSimpArgs false
set_option maxRecDepth 100000

def zeroT (n : Nat) : ByteArray := ⟨(List.replicate n (0 : UInt8)).toArray⟩
theorem zeroT_size (n : Nat) : (zeroT n).size = n := by simp [zeroT, ByteArray.size]
theorem zeroT_data (n : Nat) : (zeroT n).data.toList = List.replicate n 0 := by simp [zeroT]
theorem zeroT_snoc (n : Nat) : zeroT n ++ ⟨#[0]⟩ = zeroT (n + 1) := by
  apply ByteArray.ext
  apply Array.toList_inj.1
  rw [ByteArray.data_append, Array.toList_append, zeroT_data, zeroT_data, List.replicate_succ']
set_option maxHeartbeats 1000000 in
theorem rzerosT_any (n : Nat) (hn : n ≤ 1000) (w : World) :
    Calls Tryz.prog 70 #[.int .i64 n] w fun e w' => e = .returned (.string (zeroT n)) ∧ w' = w := by
  go_enter Tryz.func70, Tryz.ntmps70
  go_wp2
  go_loop [3, 4] (fun s i => ∃ k : Nat, k ≤ n ∧ i = .int .i64 k ∧ s = .string (zeroT k)) (fun _ i => n - (intOf i).toNat)
  case atStart => exact ⟨0, Nat.zero_le _, rfl, rfl⟩
  case round =>
    obtain ⟨k, hk, rfl, rfl⟩ := hrel
    by_cases hlt : k < n
    · have hz := zeroT_size k
      have h1 : (⟨#[0]⟩ : ByteArray).size = 1 := rfl
      have hs := zeroT_snoc k
      have HS := hide hs
      have ha := fun w' => run_string_add_sum (P := Tryz.prog) w' (zeroT k) ⟨#[0]⟩ (by omega)
      rw [hs] at ha
      generalize hA : zeroT k = A at *
      generalize hB : zeroT (k + 1) = B at *
      have HB := hide hB
      clear hA hB hz h1 hs
      go_wp2
      go_round
      case rel => exact ⟨k + 1, by omega, by go_num, by rw [unhide HB]⟩
      case measure => simp [intOf]; omega
    · have hke : k = n := by omega
      subst hke
      go_wp2
      go_ret
      exact ⟨rfl, rfl⟩
theorem bigL_pad (n k' j : Nat) (h : n < 256 ^ k') : bigL n (k' + j) = List.replicate j 0 ++ bigL n k' := by
  induction j with
  | zero => rfl
  | succ j ih =>
    have e : bigL n (k' + (j + 1)) = ((n / 256 ^ (k' + j) % 256 : Nat) : Int) :: bigL n (k' + j) := rfl
    have h2 : n < 256 ^ (k' + j) := Nat.lt_of_lt_of_le h (Nat.pow_le_pow_right (by decide) (by omega))
    rw [e, ih, Nat.div_eq_of_lt h2, List.replicate_succ]
    rfl
theorem len_bytes {n L k : Nat} (hL : IsLen n L) (hk : n < 256 ^ k) : n < 256 ^ ((L + 7) / 8) ∧ (L + 7) / 8 ≤ k := by
  have e : ∀ m : Nat, 256 ^ m = 2 ^ (8 * m) := fun m => by rw [Nat.pow_mul]
  obtain ⟨h1, h2, h3⟩ := hL
  refine ⟨?_, ?_⟩
  · rw [e]; exact Nat.lt_of_lt_of_le h1 (Nat.pow_le_pow_right (by decide) (by omega))
  · by_cases h0 : n = 0
    · rw [h2 h0]; omega
    · obtain ⟨h4, h5⟩ := h3 h0
      rw [e] at hk
      have := (Nat.pow_lt_pow_iff_right (by decide : 1 < 2)).1 (Nat.lt_of_le_of_lt h5 hk)
      omega
theorem wide_text {n k k' j : Nat} (h : n < 256 ^ k') (hj : k = k' + j) : zeroT j ++ strOfNums (bigL n k') = strOfNums (bigL n k) := by
  rw [hj, bigL_pad n k' j h]
  apply ByteArray.ext
  apply Array.toList_inj.1
  rw [ByteArray.data_append, Array.toList_append, zeroT_data, strOfNums_data, strOfNums_data, List.map_append, List.map_replicate]
  rfl
set_option maxHeartbeats 2000000 in
theorem rwide_any (p n k : Nat) (w : World) (h : IntAt w p n) (hk : n < 256 ^ k) (hk2 : (k : Int) ≤ 200) (hn : n < B32 ^ 10000) :
    Calls Tryz.prog 43 #[.pointer (some ⟨p, 0, none⟩), .int .i64 k] w fun e w' => e = .returned (.string (strOfNums (bigL n k))) ∧ Below w.heap.size w w' := by
  have N1 := hide (bigBytes_any p n w h hn)
  have HK := hide hk
  obtain ⟨S, hS⟩ : ∃ S, S = strOfNums (bigL n k) := ⟨_, rfl⟩
  rw [← hS]
  have HS := hide hS
  clear h hk hn hS
  go_enter Tryz.func43, Tryz.ntmps43
  go_wp2_with fail
  refine (unhide N1).mono ?_
  rintro e y ⟨⟨k', L, hL, hk', rfl, hY⟩, kb⟩
  obtain ⟨h1, h2⟩ := len_bytes hL (unhide HK)
  rw [← hk'] at h1 h2
  obtain ⟨j, hj⟩ : ∃ j, k = k' + j := ⟨k - k', by omega⟩
  have hcv := fun q => (yconv (w := y.drewN q) (L := bigL n k') (g := w.heap.size) hY (bigL_length n k'))
  have hcv0 := yconv hY (bigL_length n k')
  have hsub : IntKind.i64.wrap ((k : Int) - (k' : Int)) = (j : Int) := by rw [IntKind.wrap_i64]; omega
  have N2 := hide (fun W => rzerosT_any j (by omega) W)
  have z1 := zeroT_size j
  have z2 : (strOfNums (bigL n k')).size = k' := by rw [strOfNums_size, bigL_length]
  have ha := fun w' => run_string_add_sum (P := Tryz.prog) w' (zeroT j) (strOfNums (bigL n k')) (by omega)
  rw [wide_text h1 hj, ← unhide HS] at ha
  generalize strOfNums (bigL n k') = S1 at *
  generalize zeroT j = Z at *
  have HKB := hide kb
  clear hL hk' hY h1 h2 hj z1 z2 kb
  go_wp2_with fail
  go_quiet ((go_at_call 70; exact Calls.quiet_of_same (unhide N2 _)))
  go_wp2
  exact bodyPost_ret (v := .string S) (by simp [results, Tryz.results43, go_sem]) rfl ⟨rfl, (unhide HKB).os, (unhide HKB).tape, (unhide HKB).output, (unhide HKB).size, (unhide HKB).block⟩
end Go.Proofs.YtmdcaljccegiiaaGreatDoor
namespace Go.Proofs.YtmdcaljccegiiaaGreatDoor
open Go.RowKit Go.Shelf
set_option linter.unusedVariables false

theorem valN_odd : ∀ l : List UInt8, valN l % 2 = (l.getLastD 0).toNat % 2
  | [] => rfl
  | [b] => by rw [valN_consN]; simp [valN]
  | b :: c :: l => by
    have ih := valN_odd (c :: l)
    rw [valN_consN, show (b :: c :: l).getLastD 0 = (c :: l).getLastD 0 by simp [List.getLastD], ← ih, List.length_cons, Nat.pow_succ]
    generalize valN (c :: l) = v
    rw [show b.toNat * (256 ^ l.length * 256) + v = v + 2 * (b.toNat * (256 ^ l.length * 128)) by grind, Nat.add_mul_mod_self_left]
theorem isMod_of {s : ByteArray} (h : isModB s = true) : IsMod s := by
  unfold isModB at h
  simp only [Bool.and_eq_true, decide_eq_true_eq] at h
  obtain ⟨⟨⟨h1, h2⟩, h3⟩, h4⟩ := h
  have ho := valN_odd s.data.toList
  rw [h4] at ho
  refine ⟨h1, h2, ?_, ho⟩
  have hz : s.size = s.data.toList.length := by simp
  rw [hz] at h1 ⊢
  generalize s.data.toList = l at *
  cases l with
  | nil => simp at h1
  | cons b t =>
    rw [valN_consN] at ho ⊢
    rw [List.length_cons] at *
    have hb : 128 ≤ b.toNat := h3
    have hp : 2 ^ (8 * (t.length + 1) - 1) = 128 * 256 ^ t.length := by
      rw [show (8 * (t.length + 1) - 1) = 7 + 8 * t.length by omega, Nat.pow_add, Nat.pow_mul]
    have he : 128 * 256 ^ t.length % 2 = 0 := by omega
    have hm : 128 * 256 ^ t.length ≤ b.toNat * 256 ^ t.length := Nat.mul_le_mul_right _ hb
    rw [hp]
    omega
end Go.Proofs.YtmdcaljccegiiaaGreatDoor
namespace Go.Proofs.YtmdcaljccegiiaaGreatDoor
open Go.RowKit Go.Shelf
set_option linter.unusedVariables false

theorem valN_ltK : ∀ l : List UInt8, valN l < 256 ^ l.length
  | [] => by simp [valN]
  | b :: l => by
    have ih := valN_ltK l
    have hb : b.toNat < 256 := UInt8.toNat_lt _
    rw [valN_consN, List.length_cons, Nat.pow_succ]
    generalize 256 ^ l.length = p at *
    have : b.toNat * p ≤ 255 * p := Nat.mul_le_mul_right _ (by omega)
    omega
theorem digit_less (a b x y p : Nat) (hx : x < p) (hy : y < p) : (a * p + x < b * p + y) ↔ (a < b ∨ (a = b ∧ x < y)) := by
  rcases Nat.lt_trichotomy a b with h | h | h
  · have : (a + 1) * p ≤ b * p := Nat.mul_le_mul_right _ h
    rw [Nat.add_mul, Nat.one_mul] at this
    constructor
    · intro; exact .inl h
    · intro; omega
  · subst h
    constructor
    · intro; exact .inr ⟨rfl, by omega⟩
    · intro; omega
  · have : (b + 1) * p ≤ a * p := Nat.mul_le_mul_right _ h
    rw [Nat.add_mul, Nat.one_mul] at this
    constructor
    · intro; omega
    · intro; omega
/-- texts of one length stand as their numbers do -/
theorem less_val : ∀ x y : List UInt8, x.length = y.length → Op.bytesLess x y = decide (valN x < valN y)
  | [], [], _ => by simp [Op.bytesLess]
  | a :: x, b :: y, h => by
    have hl : x.length = y.length := by simpa using h
    rw [Op.bytesLess, less_val x y hl, valN_consN, valN_consN, hl, Bool.eq_iff_iff, decide_eq_true_eq, digit_less _ _ _ _ _ (by rw [← hl]; exact valN_ltK x) (valN_ltK y)]
    simp only [Bool.or_eq_true, Bool.and_eq_true, decide_eq_true_eq, beq_iff_eq, UInt8.lt_iff_toNat_lt, ← UInt8.toNat_inj]
theorem binOp_string_geqK (t : TypeId) (a b : ByteArray) : binOp .geq t (.string a) (.string b) = pure (.bool !(Op.bytesLess a.toList b.toList)) := by simp [binOp, Op.stringOp]
theorem less_text (x m : ByteArray) (h : x.size = m.size) : Op.bytesLess x.toList m.toList = decide (valN x.data.toList < valN m.data.toList) := by
  rw [Lib.toList_data, Lib.toList_data, less_val _ _ (by simpa using h)]
/-- what power answers -/
def powE (m x : ByteArray) : Int := if !isModB m || decide (¬ x.size = m.size) then 1 else if valN m.data.toList ≤ valN x.data.toList then 3 else 0
def powT (m x : ByteArray) (d : Nat) : ByteArray := if powE m x = 0 then strOfNums (bigL (valN x.data.toList ^ d % valN m.data.toList) m.size) else ⟨#[]⟩

end Go.Proofs.YtmdcaljccegiiaaGreatDoor
namespace Go.Proofs.YtmdcaljccegiiaaGreatDoor
open Go.RowKit Go.Shelf
set_option linter.unusedVariables false

theorem newModular_n {m : ByteArray} (hm : IsMod m) {n : Nat} (hn : n = (m.size + 7) / 8) (w : World) :
    Calls Tryz.prog 60 #[.string m] w fun e w' => ∃ gm ms inv m0 gs os sc sq, e = .returned (.agg #[.slice (some ⟨gm, 0, none⟩) n n, .int .u64 (inv : Nat), .slice (some ⟨gs, os, none⟩) n sc]) ∧ NumAt w' gm 0 ms ∧ NumAt w' gs os sq ∧ ModOK ms sq m0 inv n ∧ natW ms = valN m.data.toList ∧ Below w.heap.size w w' := by
  refine (newModular_any m hm w).mono ?_
  rintro e w' ⟨gm, ms, inv, gs, os, sc, sq, rfl, a1, a2, a3, a4, a5, a6, a7, a8, ⟨m0, a9, a10⟩, a11, a12⟩
  have hl : ms.length = n := by rw [a5, hn]
  have hl2 : sq.length = n := by rw [a6, hl]
  have h1 := hm.low
  have h2 := hm.high
  refine ⟨gm, ms, inv, m0, gs, os, sc, sq, by rw [hl, hl2], a1, a2, ⟨hl, hl2, a3, a4, by rw [a7]; exact hm.odd, ?_, by rw [← hl]; exact a8, a9, a10, a11, by omega, by omega⟩, a7, a12⟩
  rw [a7]
  have h3 := hm.top
  have h4 : 2 ^ 1 ≤ 2 ^ (8 * m.size - 1) := Nat.pow_le_pow_right (by decide) (by omega)
  omega
theorem read_n {x : ByteArray} {n : Nat} (hn : n = (x.size + 7) / 8) (hx : (x.size : Int) ≤ 1000) (w : World) :
    Calls Tryz.prog 52 #[.string x] w fun e w' => ∃ g xs, e = .returned (.slice (some ⟨g, 0, none⟩) n n) ∧ NumAt w' g 0 xs ∧ xs.length = n ∧ okW xs ∧ natW xs = valN x.data.toList ∧ Below w.heap.size w w' := by
  refine (cread_any x hx w).mono ?_
  rintro e w' ⟨xs, rfl, a1, a2, a3, a4, a5⟩
  exact ⟨w.heap.size, xs, by rw [a2, ← hn], a1.numAt 0, by rw [a2, hn], a3, a4, a5⟩
theorem text_n {xs : List Nat} {n : Nat} (hl : xs.length = n) (g o c k : Nat) (w : World) (hX : NumAt w g o xs) (hx : okW xs) (hk : k ≤ 8 * n) (hkb : (k : Int) ≤ 1000) :
    Calls Tryz.prog 54 #[.slice (some ⟨g, o, none⟩) n c, .int .i64 k] w fun e w' => e = .returned (.string (strOfNums (bigL (natW xs) k))) ∧ Below w.heap.size w w' := by
  have := ctext_any xs g o c k w hX hx (by rw [hl]; exact hk) hkb
  rw [hl] at this
  exact this

set_option maxHeartbeats 1000000 in
set_option maxRecDepth 100000 in
theorem cpower_any (m x : ByteArray) (ds : List Nat) (gd od dc : Nat) (w : World) (hD : NumAt w gd od ds) (hd : okW ds) (hdl : (ds.length : Int) ≤ 100) :
    Calls Tryz.prog 27 #[.string m, .string x, .slice (some ⟨gd, od, none⟩) ds.length dc] w fun e w' => e = .returned (.tuple #[.string (powT m x (natW ds)), .int .i64 (powE m x)]) ∧ Below w.heap.size w w' := by
  have N1 := hide (fun w => isModulus_any m w)
  have HD := hide hD
  have Hd := hide hd
  clear hD hd
  cases hm : isModB m with
  | false =>
    have e1 : powE m x = 1 := by unfold powE; rw [hm]; rfl
    have e2 : powT m x (natW ds) = ⟨#[]⟩ := by unfold powT; rw [e1]; rfl
    rw [e1, e2]
    rw [hm] at N1
    clear e1 e2 hm HD Hd
    go_enter Tryz.func27, Tryz.ntmps27
    go_wp2_with (go_at_call 11; refine (unhide N1 _).mono ?_; rintro e w2 ⟨rfl, rfl⟩)
    all_goals
      go_ret2
      exact ⟨rfl, Below.refl _ _⟩
  | true =>
    rw [hm] at N1
    by_cases hs : x.size = m.size
    · by_cases hv : valN m.data.toList ≤ valN x.data.toList
      · have e1 : powE m x = 3 := by unfold powE; rw [hm, hs]; simp [hv]
        have e2 : powT m x (natW ds) = ⟨#[]⟩ := by unfold powT; rw [e1]; rfl
        rw [e1, e2]
        have q1 : Op.bytesLess x.toList m.toList = false := by rw [less_text x m hs, decide_eq_false_iff_not]; omega
        have q2 := binOp_string_geqK 9 x m
        rw [q1] at q2
        have k1 : ((x.size : Int) != (m.size : Int)) = false := by simp [hs]
        clear e1 e2 hm HD Hd hs hv
        go_enter Tryz.func27, Tryz.ntmps27
        go_wp2_with (go_at_call 11; refine (unhide N1 _).mono ?_; rintro e w2 ⟨rfl, rfl⟩)
        all_goals
          go_ret2
          exact ⟨rfl, Below.refl _ _⟩
      · have e1 : powE m x = 0 := by unfold powE; rw [hm, hs]; simp [hv]
        have e2 : powT m x (natW ds) = strOfNums (bigL (valN x.data.toList ^ natW ds % valN m.data.toList) m.size) := by unfold powT; rw [if_pos e1]
        rw [e1, e2]
        have q1 : Op.bytesLess x.toList m.toList = true := by rw [less_text x m hs, decide_eq_true_eq]; omega
        have q2 := binOp_string_geqK 9 x m
        rw [q1] at q2
        have k1 : ((x.size : Int) != (m.size : Int)) = false := by simp [hs]
        have hM := isMod_of hm
        have hml := hM.low
        have hmh := hM.high
        obtain ⟨n, hn⟩ : ∃ n, n = (m.size + 7) / 8 := ⟨_, rfl⟩
        have NA := hide (fun w => newModular_n hM hn w)
        have NR := hide (fun w => read_n (x := x) (n := n) (by rw [hs]; exact hn) (by omega) w)
        have HV := hide (show valN x.data.toList < valN m.data.toList by omega)
        have HN := hide (show m.size ≤ 8 * n by omega)
        have hmi : (m.size : Int) ≤ 1000 := by omega
        clear e1 e2 hm hs hv hM hml hmh hn
        go_enter Tryz.func27, Tryz.ntmps27
        go_wp2_with (go_at_call 11; refine (unhide N1 _).mono ?_; rintro e w2 ⟨rfl, rfl⟩)
        refine (unhide NA _).mono ?_
        rintro e y1 ⟨gm, ms, inv, m0, gs, os, sc, sq, rfl, a1, a2, a3, a4, a5⟩
        have A1 := hide a1; have A2 := hide a2; have A3 := hide a3; have A4 := hide a4; have A5 := hide a5
        clear a1 a2 a3 a4 a5 NA
        go_wp2_with fail
        refine (unhide NR _).mono ?_
        rintro e y2 ⟨gx, xs, rfl, b1, b2, b3, b4, b5⟩
        have P := hide (power_any (unhide A3) xs ds gx 0 n gd od dc gm 0 n gs os sc _ b1 (((unhide HD).below (unhide A5)).below b5) ((unhide A1).below b5) ((unhide A2).below b5) b3 (unhide Hd) b2 hdl (by rw [b4, unhide A4]; exact unhide HV))
        have B4 := hide b4; have B5 := hide ((unhide A5).trans (b5.mono (unhide A5).size))
        clear b1 b2 b3 b4 b5 NR
        go_wp2_with fail
        refine (unhide P).mono ?_
        rintro e y3 ⟨zg, zo, zc, zs, rfl, c1, c2, c3, c4, c5⟩
        have T := hide (text_n c2 zg zo zc m.size _ c1 c3 (unhide HN) hmi)
        rw [c4, unhide B4, unhide A4] at T
        have C5 := hide ((unhide B5).trans (c5.mono (unhide B5).size))
        clear c1 c2 c3 c4 c5 P
        go_wp2_with fail
        refine (unhide T).mono ?_
        rintro e y4 ⟨rfl, d1⟩
        go_wp2
        go_ret2
        exact ⟨rfl, (unhide C5).trans (d1.mono (unhide C5).size)⟩
    · have e1 : powE m x = 1 := by unfold powE; simp [hs]
      have e2 : powT m x (natW ds) = ⟨#[]⟩ := by unfold powT; rw [e1]; rfl
      rw [e1, e2]
      have k1 : ((x.size : Int) != (m.size : Int)) = true := by simp; omega
      clear e1 e2 hm HD Hd hs
      go_enter Tryz.func27, Tryz.ntmps27
      go_wp2_with (go_at_call 11; refine (unhide N1 _).mono ?_; rintro e w2 ⟨rfl, rfl⟩)
      all_goals
        go_ret2
        exact ⟨rfl, Below.refl _ _⟩
end Go.Proofs.YtmdcaljccegiiaaGreatDoor
namespace Go.Proofs.YtmdcaljccegiiaaGreatDoor
open Go.RowKit Go.Shelf
set_option linter.unusedVariables false

end Go.Proofs.YtmdcaljccegiiaaGreatDoor
