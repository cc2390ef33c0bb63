/- A modulus, as isModulus tells it. -/
import Derived.Test.YtckkhpegimkefaaM20
import Derived.Test.YtckkhpegimkefaaM18
import Derived.Test.YtckkhpegimkefaaM11
namespace Go.Proofs.Ytckkhpegimkefaa
open Go.RowKit Go.Shelf
set_option linter.unusedVariables false

theorem valN_odd : ∀ l : List UInt8, valN l % 2 = (l.getLastD 0).toNat % 2
  | [] => rfl
  | [b] => by rw [valN_consN]; simp [valN]
  | b :: c :: l => by
    have ih := valN_odd (c :: l)
    rw [valN_consN, show (b :: c :: l).getLastD 0 = (c :: l).getLastD 0 by simp [List.getLastD], ← ih, List.length_cons, Nat.pow_succ]
    generalize valN (c :: l) = v
    rw [show b.toNat * (256 ^ l.length * 256) + v = v + 2 * (b.toNat * (256 ^ l.length * 128)) by grind, Nat.add_mul_mod_self_left]
theorem isMod_of {s : ByteArray} (h : isModB s = true) : IsMod s := by
  unfold isModB at h
  simp only [Bool.and_eq_true, decide_eq_true_eq] at h
  obtain ⟨⟨⟨h1, h2⟩, h3⟩, h4⟩ := h
  have ho := valN_odd s.data.toList
  rw [h4] at ho
  refine ⟨h1, h2, ?_, ho⟩
  have hz : s.size = s.data.toList.length := by simp
  rw [hz] at h1 ⊢
  generalize s.data.toList = l at *
  cases l with
  | nil => simp at h1
  | cons b t =>
    rw [valN_consN] at ho ⊢
    rw [List.length_cons] at *
    have hb : 128 ≤ b.toNat := h3
    have hp : 2 ^ (8 * (t.length + 1) - 1) = 128 * 256 ^ t.length := by
      rw [show (8 * (t.length + 1) - 1) = 7 + 8 * t.length by omega, Nat.pow_add, Nat.pow_mul]
    have he : 128 * 256 ^ t.length % 2 = 0 := by omega
    have hm : 128 * 256 ^ t.length ≤ b.toNat * 256 ^ t.length := Nat.mul_le_mul_right _ hb
    rw [hp]
    omega
end Go.Proofs.Ytckkhpegimkefaa
namespace Go.Proofs.Ytckkhpegimkefaa
open Go.RowKit Go.Shelf
set_option linter.unusedVariables false

theorem valN_ltK : ∀ l : List UInt8, valN l < 256 ^ l.length
  | [] => by simp [valN]
  | b :: l => by
    have ih := valN_ltK l
    have hb : b.toNat < 256 := UInt8.toNat_lt _
    rw [valN_consN, List.length_cons, Nat.pow_succ]
    generalize 256 ^ l.length = p at *
    have : b.toNat * p ≤ 255 * p := Nat.mul_le_mul_right _ (by omega)
    omega
theorem digit_less (a b x y p : Nat) (hx : x < p) (hy : y < p) : (a * p + x < b * p + y) ↔ (a < b ∨ (a = b ∧ x < y)) := by
  rcases Nat.lt_trichotomy a b with h | h | h
  · have : (a + 1) * p ≤ b * p := Nat.mul_le_mul_right _ h
    rw [Nat.add_mul, Nat.one_mul] at this
    constructor
    · intro; exact .inl h
    · intro; omega
  · subst h
    constructor
    · intro; exact .inr ⟨rfl, by omega⟩
    · intro; omega
  · have : (b + 1) * p ≤ a * p := Nat.mul_le_mul_right _ h
    rw [Nat.add_mul, Nat.one_mul] at this
    constructor
    · intro; omega
    · intro; omega
/-- texts of one length stand as their numbers do -/
theorem less_val : ∀ x y : List UInt8, x.length = y.length → Op.bytesLess x y = decide (valN x < valN y)
  | [], [], _ => by simp [Op.bytesLess]
  | a :: x, b :: y, h => by
    have hl : x.length = y.length := by simpa using h
    rw [Op.bytesLess, less_val x y hl, valN_consN, valN_consN, hl, Bool.eq_iff_iff, decide_eq_true_eq, digit_less _ _ _ _ _ (by rw [← hl]; exact valN_ltK x) (valN_ltK y)]
    simp only [Bool.or_eq_true, Bool.and_eq_true, decide_eq_true_eq, beq_iff_eq, UInt8.lt_iff_toNat_lt, ← UInt8.toNat_inj]
theorem binOp_string_geqK (t : TypeId) (a b : ByteArray) : binOp .geq t (.string a) (.string b) = pure (.bool !(Op.bytesLess a.toList b.toList)) := by simp [binOp, Op.stringOp]
theorem less_text (x m : ByteArray) (h : x.size = m.size) : Op.bytesLess x.toList m.toList = decide (valN x.data.toList < valN m.data.toList) := by
  rw [Lib.toList_data, Lib.toList_data, less_val _ _ (by simpa using h)]
/-- what power answers -/
def powE (m x : ByteArray) : Int := if !isModB m || decide (¬ x.size = m.size) then 1 else if valN m.data.toList ≤ valN x.data.toList then 3 else 0
def powT (m x : ByteArray) (d : Nat) : ByteArray := if powE m x = 0 then strOfNums (bigL (valN x.data.toList ^ d % valN m.data.toList) m.size) else ⟨#[]⟩

end Go.Proofs.Ytckkhpegimkefaa
namespace Go.Proofs.Ytckkhpegimkefaa
open Go.RowKit Go.Shelf
set_option linter.unusedVariables false

theorem newModular_n {m : ByteArray} (hm : IsMod m) {n : Nat} (hn : n = (m.size + 7) / 8) (w : World) :
    Calls Try.prog 35 #[.string m] w fun e w' => ∃ gm ms inv m0 gs os sc sq, e = .returned (.agg #[.slice (some ⟨gm, 0, none⟩) n n, .int .u64 (inv : Nat), .slice (some ⟨gs, os, none⟩) n sc]) ∧ NumAt w' gm 0 ms ∧ NumAt w' gs os sq ∧ ModOK ms sq m0 inv n ∧ natW ms = valN m.data.toList ∧ Below w.heap.size w w' := by
  refine (newModular_any m hm w).mono ?_
  rintro e w' ⟨gm, ms, inv, gs, os, sc, sq, rfl, a1, a2, a3, a4, a5, a6, a7, a8, ⟨m0, a9, a10⟩, a11, a12⟩
  have hl : ms.length = n := by rw [a5, hn]
  have hl2 : sq.length = n := by rw [a6, hl]
  have h1 := hm.low
  have h2 := hm.high
  refine ⟨gm, ms, inv, m0, gs, os, sc, sq, by rw [hl, hl2], a1, a2, ⟨hl, hl2, a3, a4, by rw [a7]; exact hm.odd, ?_, by rw [← hl]; exact a8, a9, a10, a11, by omega, by omega⟩, a7, a12⟩
  rw [a7]
  have h3 := hm.top
  have h4 : 2 ^ 1 ≤ 2 ^ (8 * m.size - 1) := Nat.pow_le_pow_right (by decide) (by omega)
  omega
theorem read_n {x : ByteArray} {n : Nat} (hn : n = (x.size + 7) / 8) (hx : (x.size : Int) ≤ 1000) (w : World) :
    Calls Try.prog 37 #[.string x] w fun e w' => ∃ g xs, e = .returned (.slice (some ⟨g, 0, none⟩) n n) ∧ NumAt w' g 0 xs ∧ xs.length = n ∧ okW xs ∧ natW xs = valN x.data.toList ∧ Below w.heap.size w w' := by
  refine (cread_any x hx w).mono ?_
  rintro e w' ⟨xs, rfl, a1, a2, a3, a4, a5⟩
  exact ⟨w.heap.size, xs, by rw [a2, ← hn], a1.numAt 0, by rw [a2, hn], a3, a4, a5⟩
theorem text_n {xs : List Nat} {n : Nat} (hl : xs.length = n) (g o c k : Nat) (w : World) (hX : NumAt w g o xs) (hx : okW xs) (hk : k ≤ 8 * n) (hkb : (k : Int) ≤ 1000) :
    Calls Try.prog 38 #[.slice (some ⟨g, o, none⟩) n c, .int .i64 k] w fun e w' => e = .returned (.string (strOfNums (bigL (natW xs) k))) ∧ Below w.heap.size w w' := by
  have := ctext_any xs g o c k w hX hx (by rw [hl]; exact hk) hkb
  rw [hl] at this
  exact this

set_option maxHeartbeats 1000000 in
set_option maxRecDepth 100000 in
theorem cpower_any (m x : ByteArray) (ds : List Nat) (gd od dc : Nat) (w : World) (hD : NumAt w gd od ds) (hd : okW ds) (hdl : (ds.length : Int) ≤ 100) :
    Calls Try.prog 14 #[.string m, .string x, .slice (some ⟨gd, od, none⟩) ds.length dc] w fun e w' => e = .returned (.tuple #[.string (powT m x (natW ds)), .int .i64 (powE m x)]) ∧ Below w.heap.size w w' := by
  have N1 := hide (fun w => isModulus_any m w)
  have HD := hide hD
  have Hd := hide hd
  clear hD hd
  cases hm : isModB m with
  | false =>
    have e1 : powE m x = 1 := by unfold powE; rw [hm]; rfl
    have e2 : powT m x (natW ds) = ⟨#[]⟩ := by unfold powT; rw [e1]; rfl
    rw [e1, e2]
    rw [hm] at N1
    clear e1 e2 hm HD Hd
    go_enter Try.func14, Try.ntmps14
    go_wp2_with (go_at_call 34; refine (unhide N1 _).mono ?_; rintro e w2 ⟨rfl, rfl⟩)
    all_goals
      go_ret2
      exact ⟨rfl, Below.refl _ _⟩
  | true =>
    rw [hm] at N1
    by_cases hs : x.size = m.size
    · by_cases hv : valN m.data.toList ≤ valN x.data.toList
      · have e1 : powE m x = 3 := by unfold powE; rw [hm, hs]; simp [hv]
        have e2 : powT m x (natW ds) = ⟨#[]⟩ := by unfold powT; rw [e1]; rfl
        rw [e1, e2]
        have q1 : Op.bytesLess x.toList m.toList = false := by rw [less_text x m hs, decide_eq_false_iff_not]; omega
        have q2 := binOp_string_geqK 9 x m
        rw [q1] at q2
        have k1 : ((x.size : Int) != (m.size : Int)) = false := by simp [hs]
        clear e1 e2 hm HD Hd hs hv
        go_enter Try.func14, Try.ntmps14
        go_wp2_with (go_at_call 34; refine (unhide N1 _).mono ?_; rintro e w2 ⟨rfl, rfl⟩)
        all_goals
          go_ret2
          exact ⟨rfl, Below.refl _ _⟩
      · have e1 : powE m x = 0 := by unfold powE; rw [hm, hs]; simp [hv]
        have e2 : powT m x (natW ds) = strOfNums (bigL (valN x.data.toList ^ natW ds % valN m.data.toList) m.size) := by unfold powT; rw [if_pos e1]
        rw [e1, e2]
        have q1 : Op.bytesLess x.toList m.toList = true := by rw [less_text x m hs, decide_eq_true_eq]; omega
        have q2 := binOp_string_geqK 9 x m
        rw [q1] at q2
        have k1 : ((x.size : Int) != (m.size : Int)) = false := by simp [hs]
        have hM := isMod_of hm
        have hml := hM.low
        have hmh := hM.high
        obtain ⟨n, hn⟩ : ∃ n, n = (m.size + 7) / 8 := ⟨_, rfl⟩
        have NA := hide (fun w => newModular_n hM hn w)
        have NR := hide (fun w => read_n (x := x) (n := n) (by rw [hs]; exact hn) (by omega) w)
        have HV := hide (show valN x.data.toList < valN m.data.toList by omega)
        have HN := hide (show m.size ≤ 8 * n by omega)
        have hmi : (m.size : Int) ≤ 1000 := by omega
        clear e1 e2 hm hs hv hM hml hmh hn
        go_enter Try.func14, Try.ntmps14
        go_wp2_with (go_at_call 34; refine (unhide N1 _).mono ?_; rintro e w2 ⟨rfl, rfl⟩)
        refine (unhide NA _).mono ?_
        rintro e y1 ⟨gm, ms, inv, m0, gs, os, sc, sq, rfl, a1, a2, a3, a4, a5⟩
        have A1 := hide a1; have A2 := hide a2; have A3 := hide a3; have A4 := hide a4; have A5 := hide a5
        clear a1 a2 a3 a4 a5 NA
        go_wp2_with fail
        refine (unhide NR _).mono ?_
        rintro e y2 ⟨gx, xs, rfl, b1, b2, b3, b4, b5⟩
        have P := hide (power_any (unhide A3) xs ds gx 0 n gd od dc gm 0 n gs os sc _ b1 (((unhide HD).below (unhide A5)).below b5) ((unhide A1).below b5) ((unhide A2).below b5) b3 (unhide Hd) b2 hdl (by rw [b4, unhide A4]; exact unhide HV))
        have B4 := hide b4; have B5 := hide ((unhide A5).trans (b5.mono (unhide A5).size))
        clear b1 b2 b3 b4 b5 NR
        go_wp2_with fail
        refine (unhide P).mono ?_
        rintro e y3 ⟨zg, zo, zc, zs, rfl, c1, c2, c3, c4, c5⟩
        have T := hide (text_n c2 zg zo zc m.size _ c1 c3 (unhide HN) hmi)
        rw [c4, unhide B4, unhide A4] at T
        have C5 := hide ((unhide B5).trans (c5.mono (unhide B5).size))
        clear c1 c2 c3 c4 c5 P
        go_wp2_with fail
        refine (unhide T).mono ?_
        rintro e y4 ⟨rfl, d1⟩
        go_wp2
        go_ret2
        exact ⟨rfl, (unhide C5).trans (d1.mono (unhide C5).size)⟩
    · have e1 : powE m x = 1 := by unfold powE; simp [hs]
      have e2 : powT m x (natW ds) = ⟨#[]⟩ := by unfold powT; rw [e1]; rfl
      rw [e1, e2]
      have k1 : ((x.size : Int) != (m.size : Int)) = true := by simp; omega
      clear e1 e2 hm HD Hd hs
      go_enter Try.func14, Try.ntmps14
      go_wp2_with (go_at_call 34; refine (unhide N1 _).mono ?_; rintro e w2 ⟨rfl, rfl⟩)
      all_goals
        go_ret2
        exact ⟨rfl, Below.refl _ _⟩
end Go.Proofs.Ytckkhpegimkefaa
namespace Go.Proofs.Ytckkhpegimkefaa
open Go.RowKit Go.Shelf
set_option linter.unusedVariables false

set_option maxHeartbeats 1000000 in
set_option maxRecDepth 100000 in
theorem raise_any (m x : ByteArray) (w : World) :
    Calls Try.prog 7 #[.string m, .string x] w fun e w' => e = .returned (.tuple #[.string (powT m x 3), .int .i64 (powE m x)]) ∧ Below w.heap.size w w' := by
  go_enter Try.func7, Try.ntmps7
  go_wp2_with fail
  have hU : URow (w.alloc (.cells #[.int .u64 3] 39)) w.heap.size [3] := heap_alloc_new w _
  have hbel : Below w.heap.size w (w.alloc (.cells #[.int .u64 3] 39)) := (Below.refl _ _).alloc (Nat.le_refl _) _
  have P := cpower_any m x [3] w.heap.size 0 1 (w.alloc (.cells #[.int .u64 3] 39)) (hU.numAt 0) (fun y hy => by rw [List.mem_singleton.1 hy]; decide) (by simp)
  rw [show natW [3] = 3 from rfl] at P
  refine P.mono ?_
  rintro e w' ⟨rfl, hb⟩
  go_wp2
  go_ret2
  exact ⟨rfl, hbel.trans (hb.mono hbel.size)⟩
end Go.Proofs.Ytckkhpegimkefaa
namespace Go.Proofs.Ytckkhpegimkefaa
open Go.RowKit
set_option linter.unusedVariables false
set_option linter.unusedSimpArgs false
set_option maxRecDepth 100000

/-- IN, how long the body says that it is, the body -/
def inT (x : ByteArray) : ByteArray := x.extract 2 (x.size - 20)
def rcN (x : ByteArray) : Nat := valN ((inT x).extract 0 2).data.toList
def rcBody (x rest : ByteArray) : ByteArray := (inT x ++ rest).extract 2 (2 + rcN x)
/-- may there be such a body? -/
def bdB (x rest : ByteArray) : Bool := decide (rcN x ≤ 1000 ∧ rest.size = 2 + rcN x - (inT x).size)
/-- was it made so? -/
def rcB (x rest : ByteArray) (k : Int) (beside : ByteArray) : Bool :=
  decide (rcN x ≤ 1000 ∧ rcN x + 2 ≤ (inT x ++ rest).size) && (decide (laidW x.size k (bodyT (rcBody x rest)) beside = x) && decide (laidR x.size (bodyT (rcBody x rest)) = rest))
def rcE (m sig rest : ByteArray) (k : Int) (beside : ByteArray) : Int := if ¬ (1 ≤ k ∧ k ≤ 4) then 4 else if powE m sig ≠ 0 then powE m sig else bif rcB (powT m sig 3) rest k beside then 0 else 9
def rcT (m sig rest : ByteArray) (k : Int) (beside : ByteArray) : ByteArray := if rcE m sig rest k beside = 0 then rcBody (powT m sig 3) rest else ⟨#[]⟩
theorem inT_size (x : ByteArray) (h : 40 ≤ x.size) : (inT x).size = x.size - 22 := by unfold inT; rw [ByteArray.size_extract]; omega
theorem rcN_lt (x : ByteArray) : rcN x < 65536 := by
  have h := valN_lt ((inT x).extract 0 2).data.toList
  have hz : ((inT x).extract 0 2).data.toList.length ≤ 2 := by
    rw [show ((inT x).extract 0 2).data.toList.length = ((inT x).extract 0 2).size by simp, ByteArray.size_extract]; omega
  have h2 : 256 ^ ((inT x).extract 0 2).data.toList.length ≤ 256 ^ 2 := Nat.pow_le_pow_right (by decide) hz
  unfold rcN
  omega
theorem rcBody_size {x rest : ByteArray} (h : rcN x + 2 ≤ (inT x ++ rest).size) : (rcBody x rest).size = rcN x := by unfold rcBody; rw [ByteArray.size_extract]; omega
/-- whatever was made so has as much left of its text as it must have -/
theorem rc_bd {x rest : ByteArray} {k : Int} {beside : ByteArray} (hx : 40 ≤ x.size) (h : rcB x rest k beside = true) : bdB x rest = true := by
  unfold rcB at h
  rw [Bool.and_eq_true, Bool.and_eq_true, decide_eq_true_eq, decide_eq_true_eq, decide_eq_true_eq] at h
  obtain ⟨⟨h1, h2⟩, h3, h4⟩ := h
  have hb := rcBody_size h2
  have hz := congrArg ByteArray.size h4
  unfold laidR at hz
  rw [ByteArray.size_extract, bodyT_size, hb] at hz
  unfold bdB
  rw [inT_size x hx]
  exact decide_eq_true ⟨h1, by omega⟩
theorem bd_rc {x rest : ByteArray} (hx : 40 ≤ x.size) (h : bdB x rest = true) : rcN x ≤ 1000 ∧ rcN x + 2 ≤ (inT x ++ rest).size := by
  unfold bdB at h
  rw [decide_eq_true_eq] at h
  refine ⟨h.1, ?_⟩
  rw [ByteArray.size_append]
  omega
/-- given a length that fits, made so is: laid out anew it is the same -/
theorem rc_same {x rest : ByteArray} {k : Int} {beside : ByteArray} (h : rcN x ≤ 1000 ∧ rcN x + 2 ≤ (inT x ++ rest).size) :
    rcB x rest k beside = (decide (laidW x.size k (bodyT (rcBody x rest)) beside = x) && decide (laidR x.size (bodyT (rcBody x rest)) = rest)) := by
  unfold rcB
  rw [decide_eq_true h, Bool.true_and]
theorem rc_short {x rest : ByteArray} {k : Int} {beside : ByteArray} (h : ¬ (rcN x ≤ 1000 ∧ rcN x + 2 ≤ (inT x ++ rest).size)) : rcB x rest k beside = false := by
  unfold rcB
  rw [decide_eq_false h, Bool.false_and]
theorem powT_len {m x : ByteArray} {d : Nat} (h : powE m x = 0) : (powT m x d).size = m.size ∧ 40 ≤ m.size ∧ m.size ≤ 96 := by
  have hT : powT m x d = strOfNums (bigL (valN x.data.toList ^ d % valN m.data.toList) m.size) := by unfold powT; rw [if_pos h]
  have hm : isModB m = true := by
    unfold powE at h
    cases hmb : isModB m with
    | false => rw [hmb] at h; simp at h
    | true => rfl
  unfold isModB at hm
  simp only [Bool.and_eq_true, decide_eq_true_eq] at hm
  exact ⟨by rw [hT, strOfNums_size, bigL_length], hm.1.1.1, hm.1.1.2⟩
end Go.Proofs.Ytckkhpegimkefaa
