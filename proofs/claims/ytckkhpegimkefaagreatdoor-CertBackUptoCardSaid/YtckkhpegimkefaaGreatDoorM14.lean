/- power of the program, of texts. -/
import Derived.Test.YtckkhpegimkefaaGreatDoorM13
import Derived.Test.YtckkhpegimkefaaGreatDoorM12
import Derived.Test.YtckkhpegimkefaaGreatDoorM08
import Derived.Test.YtckkhpegimkefaaGreatDoorM00
namespace Go.Proofs.YtckkhpegimkefaaGreatDoor
open Go.RowKit Go.Shelf
set_option linter.unusedVariables false

theorem valN_ltK : ∀ l : List UInt8, valN l < 256 ^ l.length
  | [] => by simp [valN]
  | b :: l => by
    have ih := valN_ltK l
    have hb : b.toNat < 256 := UInt8.toNat_lt _
    rw [valN_consN, List.length_cons, Nat.pow_succ]
    generalize 256 ^ l.length = p at *
    have : b.toNat * p ≤ 255 * p := Nat.mul_le_mul_right _ (by omega)
    omega
theorem digit_less (a b x y p : Nat) (hx : x < p) (hy : y < p) : (a * p + x < b * p + y) ↔ (a < b ∨ (a = b ∧ x < y)) := by
  rcases Nat.lt_trichotomy a b with h | h | h
  · have : (a + 1) * p ≤ b * p := Nat.mul_le_mul_right _ h
    rw [Nat.add_mul, Nat.one_mul] at this
    constructor
    · intro; exact .inl h
    · intro; omega
  · subst h
    constructor
    · intro; exact .inr ⟨rfl, by omega⟩
    · intro; omega
  · have : (b + 1) * p ≤ a * p := Nat.mul_le_mul_right _ h
    rw [Nat.add_mul, Nat.one_mul] at this
    constructor
    · intro; omega
    · intro; omega
/-- texts of one length stand as their numbers do -/
theorem less_val : ∀ x y : List UInt8, x.length = y.length → Op.bytesLess x y = decide (valN x < valN y)
  | [], [], _ => by simp [Op.bytesLess]
  | a :: x, b :: y, h => by
    have hl : x.length = y.length := by simpa using h
    rw [Op.bytesLess, less_val x y hl, valN_consN, valN_consN, hl, Bool.eq_iff_iff, decide_eq_true_eq, digit_less _ _ _ _ _ (by rw [← hl]; exact valN_ltK x) (valN_ltK y)]
    simp only [Bool.or_eq_true, Bool.and_eq_true, decide_eq_true_eq, beq_iff_eq, UInt8.lt_iff_toNat_lt, ← UInt8.toNat_inj]
theorem binOp_string_geqK (t : TypeId) (a b : ByteArray) : binOp .geq t (.string a) (.string b) = pure (.bool !(Op.bytesLess a.toList b.toList)) := by simp [binOp, Op.stringOp]
theorem less_text (x m : ByteArray) (h : x.size = m.size) : Op.bytesLess x.toList m.toList = decide (valN x.data.toList < valN m.data.toList) := by
  rw [Lib.toList_data, Lib.toList_data, less_val _ _ (by simpa using h)]
/-- what power answers -/
def powE (m x : ByteArray) : Int := if !isModB m || decide (¬ x.size = m.size) then 1 else if valN m.data.toList ≤ valN x.data.toList then 3 else 0
def powT (m x : ByteArray) (d : Nat) : ByteArray := if powE m x = 0 then strOfNums (bigL (valN x.data.toList ^ d % valN m.data.toList) m.size) else ⟨#[]⟩

end Go.Proofs.YtckkhpegimkefaaGreatDoor
namespace Go.Proofs.YtckkhpegimkefaaGreatDoor
open Go.RowKit Go.Shelf
set_option linter.unusedVariables false

theorem newModular_n {m : ByteArray} (hm : IsMod m) {n : Nat} (hn : n = (m.size + 7) / 8) (w : World) :
    Calls Tryz.prog 55 #[.string m] w fun e w' => ∃ gm ms inv m0 gs os sc sq, e = .returned (.agg #[.slice (some ⟨gm, 0, none⟩) n n, .int .u64 (inv : Nat), .slice (some ⟨gs, os, none⟩) n sc]) ∧ NumAt w' gm 0 ms ∧ NumAt w' gs os sq ∧ ModOK ms sq m0 inv n ∧ natW ms = valN m.data.toList ∧ Below w.heap.size w w' := by
  refine (newModular_any m hm w).mono ?_
  rintro e w' ⟨gm, ms, inv, gs, os, sc, sq, rfl, a1, a2, a3, a4, a5, a6, a7, a8, ⟨m0, a9, a10⟩, a11, a12⟩
  have hl : ms.length = n := by rw [a5, hn]
  have hl2 : sq.length = n := by rw [a6, hl]
  have h1 := hm.low
  have h2 := hm.high
  refine ⟨gm, ms, inv, m0, gs, os, sc, sq, by rw [hl, hl2], a1, a2, ⟨hl, hl2, a3, a4, by rw [a7]; exact hm.odd, ?_, by rw [← hl]; exact a8, a9, a10, a11, by omega, by omega⟩, a7, a12⟩
  rw [a7]
  have h3 := hm.top
  have h4 : 2 ^ 1 ≤ 2 ^ (8 * m.size - 1) := Nat.pow_le_pow_right (by decide) (by omega)
  omega
theorem read_n {x : ByteArray} {n : Nat} (hn : n = (x.size + 7) / 8) (hx : (x.size : Int) ≤ 1000) (w : World) :
    Calls Tryz.prog 45 #[.string x] w fun e w' => ∃ g xs, e = .returned (.slice (some ⟨g, 0, none⟩) n n) ∧ NumAt w' g 0 xs ∧ xs.length = n ∧ okW xs ∧ natW xs = valN x.data.toList ∧ Below w.heap.size w w' := by
  refine (cread_any x hx w).mono ?_
  rintro e w' ⟨xs, rfl, a1, a2, a3, a4, a5⟩
  exact ⟨w.heap.size, xs, by rw [a2, ← hn], a1.numAt 0, by rw [a2, hn], a3, a4, a5⟩
theorem text_n {xs : List Nat} {n : Nat} (hl : xs.length = n) (g o c k : Nat) (w : World) (hX : NumAt w g o xs) (hx : okW xs) (hk : k ≤ 8 * n) (hkb : (k : Int) ≤ 1000) :
    Calls Tryz.prog 47 #[.slice (some ⟨g, o, none⟩) n c, .int .i64 k] w fun e w' => e = .returned (.string (strOfNums (bigL (natW xs) k))) ∧ Below w.heap.size w w' := by
  have := ctext_any xs g o c k w hX hx (by rw [hl]; exact hk) hkb
  rw [hl] at this
  exact this

set_option maxHeartbeats 1000000 in
set_option maxRecDepth 100000 in
theorem cpower_any (m x : ByteArray) (ds : List Nat) (gd od dc : Nat) (w : World) (hD : NumAt w gd od ds) (hd : okW ds) (hdl : (ds.length : Int) ≤ 100) :
    Calls Tryz.prog 27 #[.string m, .string x, .slice (some ⟨gd, od, none⟩) ds.length dc] w fun e w' => e = .returned (.tuple #[.string (powT m x (natW ds)), .int .i64 (powE m x)]) ∧ Below w.heap.size w w' := by
  have N1 := hide (fun w => isModulus_any m w)
  have HD := hide hD
  have Hd := hide hd
  clear hD hd
  cases hm : isModB m with
  | false =>
    have e1 : powE m x = 1 := by unfold powE; rw [hm]; rfl
    have e2 : powT m x (natW ds) = ⟨#[]⟩ := by unfold powT; rw [e1]; rfl
    rw [e1, e2]
    rw [hm] at N1
    clear e1 e2 hm HD Hd
    go_enter Tryz.func27, Tryz.ntmps27
    go_wp2_with (go_at_call 49; refine (unhide N1 _).mono ?_; rintro e w2 ⟨rfl, rfl⟩)
    all_goals
      go_ret2
      exact ⟨rfl, Below.refl _ _⟩
  | true =>
    rw [hm] at N1
    by_cases hs : x.size = m.size
    · by_cases hv : valN m.data.toList ≤ valN x.data.toList
      · have e1 : powE m x = 3 := by unfold powE; rw [hm, hs]; simp [hv]
        have e2 : powT m x (natW ds) = ⟨#[]⟩ := by unfold powT; rw [e1]; rfl
        rw [e1, e2]
        have q1 : Op.bytesLess x.toList m.toList = false := by rw [less_text x m hs, decide_eq_false_iff_not]; omega
        have q2 := binOp_string_geqK 9 x m
        rw [q1] at q2
        have k1 : ((x.size : Int) != (m.size : Int)) = false := by simp [hs]
        clear e1 e2 hm HD Hd hs hv
        go_enter Tryz.func27, Tryz.ntmps27
        go_wp2_with (go_at_call 49; refine (unhide N1 _).mono ?_; rintro e w2 ⟨rfl, rfl⟩)
        all_goals
          go_ret2
          exact ⟨rfl, Below.refl _ _⟩
      · have e1 : powE m x = 0 := by unfold powE; rw [hm, hs]; simp [hv]
        have e2 : powT m x (natW ds) = strOfNums (bigL (valN x.data.toList ^ natW ds % valN m.data.toList) m.size) := by unfold powT; rw [if_pos e1]
        rw [e1, e2]
        have q1 : Op.bytesLess x.toList m.toList = true := by rw [less_text x m hs, decide_eq_true_eq]; omega
        have q2 := binOp_string_geqK 9 x m
        rw [q1] at q2
        have k1 : ((x.size : Int) != (m.size : Int)) = false := by simp [hs]
        have hM := isMod_of hm
        have hml := hM.low
        have hmh := hM.high
        obtain ⟨n, hn⟩ : ∃ n, n = (m.size + 7) / 8 := ⟨_, rfl⟩
        have NA := hide (fun w => newModular_n hM hn w)
        have NR := hide (fun w => read_n (x := x) (n := n) (by rw [hs]; exact hn) (by omega) w)
        have HV := hide (show valN x.data.toList < valN m.data.toList by omega)
        have HN := hide (show m.size ≤ 8 * n by omega)
        have hmi : (m.size : Int) ≤ 1000 := by omega
        clear e1 e2 hm hs hv hM hml hmh hn
        go_enter Tryz.func27, Tryz.ntmps27
        go_wp2_with (go_at_call 49; refine (unhide N1 _).mono ?_; rintro e w2 ⟨rfl, rfl⟩)
        refine (unhide NA _).mono ?_
        rintro e y1 ⟨gm, ms, inv, m0, gs, os, sc, sq, rfl, a1, a2, a3, a4, a5⟩
        have A1 := hide a1; have A2 := hide a2; have A3 := hide a3; have A4 := hide a4; have A5 := hide a5
        clear a1 a2 a3 a4 a5 NA
        go_wp2_with fail
        refine (unhide NR _).mono ?_
        rintro e y2 ⟨gx, xs, rfl, b1, b2, b3, b4, b5⟩
        have P := hide (power_any (unhide A3) xs ds gx 0 n gd od dc gm 0 n gs os sc _ b1 (((unhide HD).below (unhide A5)).below b5) ((unhide A1).below b5) ((unhide A2).below b5) b3 (unhide Hd) b2 hdl (by rw [b4, unhide A4]; exact unhide HV))
        have B4 := hide b4; have B5 := hide ((unhide A5).trans (b5.mono (unhide A5).size))
        clear b1 b2 b3 b4 b5 NR
        go_wp2_with fail
        refine (unhide P).mono ?_
        rintro e y3 ⟨zg, zo, zc, zs, rfl, c1, c2, c3, c4, c5⟩
        have T := hide (text_n c2 zg zo zc m.size _ c1 c3 (unhide HN) hmi)
        rw [c4, unhide B4, unhide A4] at T
        have C5 := hide ((unhide B5).trans (c5.mono (unhide B5).size))
        clear c1 c2 c3 c4 c5 P
        go_wp2_with fail
        refine (unhide T).mono ?_
        rintro e y4 ⟨rfl, d1⟩
        go_wp2
        go_ret2
        exact ⟨rfl, (unhide C5).trans (d1.mono (unhide C5).size)⟩
    · have e1 : powE m x = 1 := by unfold powE; simp [hs]
      have e2 : powT m x (natW ds) = ⟨#[]⟩ := by unfold powT; rw [e1]; rfl
      rw [e1, e2]
      have k1 : ((x.size : Int) != (m.size : Int)) = true := by simp; omega
      clear e1 e2 hm HD Hd hs
      go_enter Tryz.func27, Tryz.ntmps27
      go_wp2_with (go_at_call 49; refine (unhide N1 _).mono ?_; rintro e w2 ⟨rfl, rfl⟩)
      all_goals
        go_ret2
        exact ⟨rfl, Below.refl _ _⟩
end Go.Proofs.YtckkhpegimkefaaGreatDoor
namespace Go.Proofs.YtckkhpegimkefaaGreatDoor
open Go.RowKit Go.Shelf
set_option linter.unusedVariables false

set_option maxHeartbeats 1000000 in
set_option maxRecDepth 100000 in
theorem raise_any (m x : ByteArray) (w : World) :
    Calls Tryz.prog 28 #[.string m, .string x] w fun e w' => e = .returned (.tuple #[.string (powT m x 3), .int .i64 (powE m x)]) ∧ Below w.heap.size w w' := by
  go_enter Tryz.func28, Tryz.ntmps28
  go_wp2_with fail
  have hU : URow (w.alloc (.cells #[.int .u64 3] 82)) w.heap.size [3] := heap_alloc_new w _
  have hbel : Below w.heap.size w (w.alloc (.cells #[.int .u64 3] 82)) := (Below.refl _ _).alloc (Nat.le_refl _) _
  have P := cpower_any m x [3] w.heap.size 0 1 (w.alloc (.cells #[.int .u64 3] 82)) (hU.numAt 0) (fun y hy => by rw [List.mem_singleton.1 hy]; decide) (by simp)
  rw [show natW [3] = 3 from rfl] at P
  refine P.mono ?_
  rintro e w' ⟨rfl, hb⟩
  go_wp2
  go_ret2
  exact ⟨rfl, hbel.trans (hb.mono hbel.size)⟩
end Go.Proofs.YtckkhpegimkefaaGreatDoor
namespace Go.Proofs.YtckkhpegimkefaaGreatDoor
open Go.RowKit
set_option linter.unusedVariables false
set_option linter.unusedSimpArgs false
set_option maxRecDepth 100000

/-- IN, how long the body says that it is, the body -/
def inT (x : ByteArray) : ByteArray := x.extract 2 (x.size - 20)
def rcN (x : ByteArray) : Nat := valN ((inT x).extract 0 2).data.toList
def rcBody (x rest : ByteArray) : ByteArray := (inT x ++ rest).extract 2 (2 + rcN x)
/-- may there be such a body? -/
def bdB (x rest : ByteArray) : Bool := decide (rcN x ≤ 1000 ∧ rest.size = 2 + rcN x - (inT x).size)
/-- was it made so? -/
def rcB (x rest : ByteArray) (k : Int) (beside : ByteArray) : Bool :=
  decide (rcN x ≤ 1000 ∧ rcN x + 2 ≤ (inT x ++ rest).size) && (decide (laidW x.size k (bodyT (rcBody x rest)) beside = x) && decide (laidR x.size (bodyT (rcBody x rest)) = rest))
def rcE (m sig rest : ByteArray) (k : Int) (beside : ByteArray) : Int := if ¬ (1 ≤ k ∧ k ≤ 4) then 4 else if powE m sig ≠ 0 then powE m sig else bif rcB (powT m sig 3) rest k beside then 0 else 9
def rcT (m sig rest : ByteArray) (k : Int) (beside : ByteArray) : ByteArray := if rcE m sig rest k beside = 0 then rcBody (powT m sig 3) rest else ⟨#[]⟩
theorem inT_size (x : ByteArray) (h : 40 ≤ x.size) : (inT x).size = x.size - 22 := by unfold inT; rw [ByteArray.size_extract]; omega
theorem rcN_lt (x : ByteArray) : rcN x < 65536 := by
  have h := valN_lt ((inT x).extract 0 2).data.toList
  have hz : ((inT x).extract 0 2).data.toList.length ≤ 2 := by
    rw [show ((inT x).extract 0 2).data.toList.length = ((inT x).extract 0 2).size by simp, ByteArray.size_extract]; omega
  have h2 : 256 ^ ((inT x).extract 0 2).data.toList.length ≤ 256 ^ 2 := Nat.pow_le_pow_right (by decide) hz
  unfold rcN
  omega
theorem rcBody_size {x rest : ByteArray} (h : rcN x + 2 ≤ (inT x ++ rest).size) : (rcBody x rest).size = rcN x := by unfold rcBody; rw [ByteArray.size_extract]; omega
/-- whatever was made so has as much left of its text as it must have -/
theorem rc_bd {x rest : ByteArray} {k : Int} {beside : ByteArray} (hx : 40 ≤ x.size) (h : rcB x rest k beside = true) : bdB x rest = true := by
  unfold rcB at h
  rw [Bool.and_eq_true, Bool.and_eq_true, decide_eq_true_eq, decide_eq_true_eq, decide_eq_true_eq] at h
  obtain ⟨⟨h1, h2⟩, h3, h4⟩ := h
  have hb := rcBody_size h2
  have hz := congrArg ByteArray.size h4
  unfold laidR at hz
  rw [ByteArray.size_extract, bodyT_size, hb] at hz
  unfold bdB
  rw [inT_size x hx]
  exact decide_eq_true ⟨h1, by omega⟩
theorem bd_rc {x rest : ByteArray} (hx : 40 ≤ x.size) (h : bdB x rest = true) : rcN x ≤ 1000 ∧ rcN x + 2 ≤ (inT x ++ rest).size := by
  unfold bdB at h
  rw [decide_eq_true_eq] at h
  refine ⟨h.1, ?_⟩
  rw [ByteArray.size_append]
  omega
/-- given a length that fits, made so is: laid out anew it is the same -/
theorem rc_same {x rest : ByteArray} {k : Int} {beside : ByteArray} (h : rcN x ≤ 1000 ∧ rcN x + 2 ≤ (inT x ++ rest).size) :
    rcB x rest k beside = (decide (laidW x.size k (bodyT (rcBody x rest)) beside = x) && decide (laidR x.size (bodyT (rcBody x rest)) = rest)) := by
  unfold rcB
  rw [decide_eq_true h, Bool.true_and]
theorem rc_short {x rest : ByteArray} {k : Int} {beside : ByteArray} (h : ¬ (rcN x ≤ 1000 ∧ rcN x + 2 ≤ (inT x ++ rest).size)) : rcB x rest k beside = false := by
  unfold rcB
  rw [decide_eq_false h, Bool.false_and]
theorem powT_len {m x : ByteArray} {d : Nat} (h : powE m x = 0) : (powT m x d).size = m.size ∧ 40 ≤ m.size ∧ m.size ≤ 96 := by
  have hT : powT m x d = strOfNums (bigL (valN x.data.toList ^ d % valN m.data.toList) m.size) := by unfold powT; rw [if_pos h]
  have hm : isModB m = true := by
    unfold powE at h
    cases hmb : isModB m with
    | false => rw [hmb] at h; simp at h
    | true => rfl
  unfold isModB at hm
  simp only [Bool.and_eq_true, decide_eq_true_eq] at hm
  exact ⟨by rw [hT, strOfNums_size, bigL_length], hm.1.1.1, hm.1.1.2⟩
end Go.Proofs.YtckkhpegimkefaaGreatDoor
namespace Go.Proofs.YtckkhpegimkefaaGreatDoor
open Go.RowKit
set_option linter.unusedVariables false
set_option linter.unusedSimpArgs false
set_option maxRecDepth 100000

theorem slice_toQ (st : ByteArray) (j : Nat) (h : j ≤ st.size) (wx : World) : (Instr.slice 9 (.string st) none (some (.int .i64 (j : Int))) none).run Tryz.prog wx = .ok (.string (st.extract 0 j)) wx := by
  have hx := run_slice_string_to_if (P := Tryz.prog) wx 9 st .i64 (j : Int) Tryz.underlying9
  rw [if_pos ⟨by omega, by omega⟩, Int.toNat_natCast] at hx
  exact hx
set_option maxHeartbeats 2000000 in
theorem bodyOf_any (x rest : ByteArray) (w : World) (h40 : 40 ≤ x.size) (h96 : x.size ≤ 96) (hr : rest.size ≤ 2097152) :
    Calls Tryz.prog 29 #[.string x, .string rest] w fun e w' => e = .returned (.tuple #[.string (bif bdB x rest then rcBody x rest else ⟨#[]⟩), .bool (bdB x rest)]) ∧ Below w.heap.size w w' := by
  have hz := inT_size x h40
  have hN := rcN_lt x
  have N1 := hide (fun W => readN_any ((inT x).extract 0 2) W (by rw [ByteArray.size_extract]; omega))
  have hro : readOf (valN ((inT x).extract 0 2).data.toList) = .tuple #[.int .i64 (rcN x : Int), .int .i64 0] := by
    rw [readOf_small (by show ¬ 9223372036854775807 < rcN x; omega)]; rfl
  have N1' := unhide N1
  rw [hro] at N1'
  have N1 := hide N1'
  have hw1 : wrap64 ((x.size : Int) - 20) = (x.size : Int) - 20 := by unfold wrap64; omega
  have sl1 : ∀ wx, (Instr.slice 9 (.string x) (some (.int .i64 2)) (some (.int .i64 ((x.size : Int) - 20))) none).run Tryz.prog wx = .ok (.string (inT x)) wx := fun wx => by
    rw [run_slice_string (P := Tryz.prog) wx 9 x .i64 .i64 (2 : Int) ((x.size : Int) - 20) Tryz.underlying9 (by omega) (by omega) (by omega)]
    rw [show ((x.size : Int) - 20).toNat = x.size - 20 by omega]
    rfl
  have hB : bdB x rest = decide (rcN x ≤ 1000 ∧ rest.size = 2 + rcN x - (inT x).size) := rfl
  have hbody : rcBody x rest = (inT x ++ rest).extract 2 (2 + rcN x) := rfl
  have ha := fun w' => run_string_add_sum (P := Tryz.prog) w' (inT x) rest (by omega)
  have hz2 : (2 : Int) ≤ ((inT x).size : Int) := by omega
  have hzb : ((inT x).size : Int) ≤ 74 := by omega
  have hsum : (inT x ++ rest).size = (inT x).size + rest.size := ByteArray.size_append
  rw [hbody, hB]
  clear N1' hro hB hbody h40 h96 hz
  generalize inT x = i at *
  generalize rcN x = n at *
  have hw2 : wrap64 (2 + (n : Int)) = 2 + (n : Int) := by unfold wrap64; omega
  have hw3 : wrap64 (2 + (n : Int) - (i.size : Int)) = 2 + (n : Int) - (i.size : Int) := by unfold wrap64; omega
  by_cases h1 : n ≤ 1000
  case neg =>
    rw [decide_eq_false (fun h => h1 h.1)]
    have hgt : (1000 : Int) < (n : Int) := by omega
    clear h1 ha hsum
    go_enter Tryz.func29, Tryz.ntmps29
    go_wp2_with fail
    refine (unhide N1 _).mono ?_
    rintro e y ⟨rfl, hy⟩
    have hy' := hy.symm
    subst hy'
    clear hy
    go_wp2
    go_ret2
    exact ⟨rfl, Below.refl _ _⟩
  have hle : (n : Int) ≤ 1000 := by omega
  have hmax : max (2 + (n : Int) - (i.size : Int)) 0 = ((2 + n - i.size : Nat) : Int) := by omega
  by_cases h2 : rest.size = 2 + n - i.size
  case neg =>
    rw [decide_eq_false (fun h => h2 h.2)]
    have hne : ¬ (rest.size : Int) = ((2 + n - i.size : Nat) : Int) := by omega
    have hne2 : ((rest.size : Int) != ((2 + n - i.size : Nat) : Int)) = true := by simpa using hne
    clear h1 h2 ha hsum
    go_enter Tryz.func29, Tryz.ntmps29
    go_wp2_with fail
    refine (unhide N1 _).mono ?_
    rintro e y ⟨rfl, hy⟩
    have hy' := hy.symm
    subst hy'
    clear hy
    go_wp2
    go_ret2
    exact ⟨rfl, Below.refl _ _⟩
  case pos =>
    rw [decide_eq_true ⟨h1, h2⟩]
    have heq : (rest.size : Int) = ((2 + n - i.size : Nat) : Int) := by omega
    have hne2 : ((rest.size : Int) != ((2 + n - i.size : Nat) : Int)) = false := by simpa using heq
    have HQ : Hid ((bif true then (i ++ rest).extract 2 (2 + n) else (⟨#[]⟩ : ByteArray)) = (i ++ rest).extract 2 (2 + n)) := hide rfl
    have sl2 : ∀ wx, (Instr.slice 9 (.string (i ++ rest)) (some (.int .i64 2)) (some (.int .i64 (2 + (n : Int)))) none).run Tryz.prog wx = .ok (.string ((i ++ rest).extract 2 (2 + n))) wx := fun wx => by
      rw [run_slice_string (P := Tryz.prog) wx 9 (i ++ rest) .i64 .i64 (2 : Int) (2 + (n : Int)) Tryz.underlying9 (by omega) (by omega) (by rw [hsum]; omega)]
      rw [show ((2 : Int) + (n : Int)).toNat = 2 + n by omega]
      rfl
    have HEQ := hide heq
    generalize (i ++ rest).extract 2 (2 + n) = body at *
    clear h1 h2 hsum heq
    go_enter Tryz.func29, Tryz.ntmps29
    go_wp2_with fail
    refine (unhide N1 _).mono ?_
    rintro e y ⟨rfl, hy⟩
    have hy' := hy.symm
    subst hy'
    clear hy
    go_wp2
    go_ret2
    exact ⟨by rw [unhide HQ]; rfl, Below.refl _ _⟩
end Go.Proofs.YtckkhpegimkefaaGreatDoor
namespace Go.Proofs.YtckkhpegimkefaaGreatDoor
open Go.RowKit
set_option linter.unusedVariables false

/-- 2^32 -/
def B32 : Nat := 4294967296
theorem B32_pos : 0 < B32 := by unfold B32; decide
theorem B32_two : 2 ≤ B32 := by unfold B32; decide
/-- the number of a list of words, the low one first -/
def natV : List Nat → Nat
  | [] => 0
  | x :: r => x + B32 * natV r
def okV (l : List Nat) : Prop := ∀ x ∈ l, x < B32
theorem okV_nil : okV [] := fun x hx => by cases hx
theorem okV_get {l : List Nat} (h : okV l) {i x : Nat} (hi : l[i]? = some x) : x < B32 := h x (List.mem_of_getElem? hi)
theorem okV_cons {x : Nat} {l : List Nat} (h : okV (x :: l)) : x < B32 ∧ okV l := ⟨h x (by simp), fun y hy => h y (by simp [hy])⟩
theorem okV_append {a b : List Nat} (ha : okV a) (hb : okV b) : okV (a ++ b) := fun x hx => by
  rcases List.mem_append.1 hx with h | h
  · exact ha x h
  · exact hb x h
theorem okV_take {a : List Nat} (h : okV a) (n : Nat) : okV (a.take n) := fun x hx => h x (List.mem_of_mem_take hx)
theorem okV_set {a : List Nat} (h : okV a) (i x : Nat) (hx : x < B32) : okV (a.set i x) := fun y hy => by
  rcases List.mem_or_eq_of_mem_set hy with h1 | h1
  · exact h y h1
  · rw [h1]; exact hx
theorem okV_zeros (n : Nat) : okV (List.replicate n 0) := fun x hx => by
  rw [(List.mem_replicate.1 hx).2]; exact B32_pos
theorem natV_append (a b : List Nat) : natV (a ++ b) = natV a + B32 ^ a.length * natV b := by
  induction a with
  | nil => simp [natV]
  | cons x r ih =>
    simp only [List.cons_append, natV, List.length_cons, Nat.pow_succ, ih]
    grind
theorem natV_lt {l : List Nat} (h : okV l) : natV l < B32 ^ l.length := by
  induction l with
  | nil => simp [natV]
  | cons x r ih =>
    obtain ⟨hx, hr'⟩ := okV_cons h
    have hr := ih hr'
    simp only [natV, List.length_cons, Nat.pow_succ]
    have h2 : B32 * (natV r + 1) ≤ B32 * B32 ^ r.length := Nat.mul_le_mul_left _ hr
    have h3 : B32 * (natV r + 1) = B32 * natV r + B32 := by rw [Nat.mul_add, Nat.mul_one]
    have h4 : B32 ^ r.length * B32 = B32 * B32 ^ r.length := Nat.mul_comm _ _
    omega
theorem natV_zeros (n : Nat) : natV (List.replicate n 0) = 0 := by
  induction n with
  | zero => rfl
  | succ n ih => simp [List.replicate_succ, natV, ih]
theorem natV_take_succ (l : List Nat) (i x : Nat) (h : l[i]? = some x) : natV (l.take (i + 1)) = natV (l.take i) + x * B32 ^ i := by
  have hi : i < l.length := (List.getElem?_eq_some_iff.1 h).1
  rw [List.take_add_one, h, natV_append, List.length_take, Nat.min_eq_left (by omega)]
  simp [natV, Nat.mul_comm]
/-- the words of a number, without a nought at the end -/
def dig (n : Nat) : List Nat := if h : n = 0 then [] else n % B32 :: dig (n / B32)
termination_by n
decreasing_by exact Nat.div_lt_self (by omega) B32_two
theorem dig_zero : dig 0 = [] := by rw [dig]; simp
theorem dig_pos {n : Nat} (h : n ≠ 0) : dig n = n % B32 :: dig (n / B32) := by rw [dig]; simp [h]
theorem natV_dig (n : Nat) : natV (dig n) = n := by
  induction n using Nat.strongRecOn with
  | _ n ih =>
    by_cases h : n = 0
    · subst h; rw [dig_zero]; rfl
    · rw [dig_pos h, natV, ih _ (Nat.div_lt_self (by omega) B32_two)]
      have := Nat.div_add_mod n B32
      omega
theorem okV_dig (n : Nat) : okV (dig n) := by
  induction n using Nat.strongRecOn with
  | _ n ih =>
    by_cases h : n = 0
    · subst h; rw [dig_zero]; exact okV_nil
    · rw [dig_pos h]
      intro x hx
      rcases List.mem_cons.1 hx with rfl | hx
      · exact Nat.mod_lt _ B32_pos
      · exact ih _ (Nat.div_lt_self (by omega) B32_two) x hx
theorem natV_cons_div {x : Nat} {r : List Nat} (hx : x < B32) : (x + B32 * natV r) / B32 = natV r ∧ (x + B32 * natV r) % B32 = x := by
  constructor
  · rw [Nat.add_mul_div_left _ _ B32_pos, Nat.div_eq_of_lt hx, Nat.zero_add]
  · rw [Nat.add_mul_mod_self_left, Nat.mod_eq_of_lt hx]
/-- a list without a nought at its end is the number's own -/
theorem dig_of {l : List Nat} (h : okV l) (hl : ∀ x, l.getLast? = some x → x ≠ 0) : dig (natV l) = l := by
  induction l with
  | nil => exact dig_zero
  | cons x r ih =>
    obtain ⟨hx, hr⟩ := okV_cons h
    obtain ⟨e1, e2⟩ := natV_cons_div (r := r) hx
    have hr0 : r = [] ∨ natV r ≠ 0 := by
      rcases Decidable.em (r = []) with h0 | h0
      · exact .inl h0
      · right
        have := ih hr (fun y hy => hl y (by rw [List.getLast?_cons, hy]; rfl))
        intro hz
        rw [hz, dig_zero] at this
        exact h0 this.symm
    have hne : natV (x :: r) ≠ 0 := by
      rcases hr0 with rfl | h0
      · have := hl x rfl
        simp only [natV]; omega
      · simp only [natV]
        have := Nat.mul_pos B32_pos (Nat.pos_of_ne_zero h0)
        omega
    rw [dig_pos hne]
    simp only [natV] at *
    rw [e1, e2]
    congr 1
    rcases hr0 with rfl | h0
    · exact dig_zero
    · exact ih hr (fun y hy => hl y (by rw [List.getLast?_cons, hy]; rfl))
/-- noughts at the end change nothing: the number's own words are the first ones -/
theorem dig_take {l : List Nat} (h : okV l) (n : Nat) (hn : n ≤ l.length) (hz : ∀ i x, n ≤ i → l[i]? = some x → x = 0) (hl : n = 0 ∨ ∃ x, l[n - 1]? = some x ∧ x ≠ 0) : dig (natV l) = l.take n := by
  have e : l = l.take n ++ l.drop n := (List.take_append_drop n l).symm
  have hd : l.drop n = List.replicate (l.length - n) 0 := by
    rw [← List.length_drop]
    apply List.eq_replicate_of_mem
    intro x hx
    obtain ⟨i, hi⟩ := List.getElem?_of_mem hx
    rw [List.getElem?_drop] at hi
    exact hz _ x (by omega) hi
  have hv : natV l = natV (l.take n) := by
    conv => lhs; rw [e]
    rw [natV_append, hd, natV_zeros, Nat.mul_zero, Nat.add_zero]
  rw [hv]
  refine dig_of (okV_take h n) (fun x hx => ?_)
  rcases hl with rfl | ⟨y, hy, hy0⟩
  · simp at hx
  · rw [List.getLast?_eq_getElem?, List.length_take, Nat.min_eq_left hn] at hx
    have hn0 : n - 1 < n := by
      rcases Nat.eq_zero_or_pos n with h0 | h0
      · subst h0; simp at hx
      · omega
    rw [List.getElem?_take_of_lt hn0, hy] at hx
    obtain rfl : y = x := by simpa using hx
    exact hy0
theorem dig_len (k : Nat) : ∀ n, n < B32 ^ k → (dig n).length ≤ k := by
  induction k with
  | zero =>
    intro n h
    obtain rfl : n = 0 := by simpa using h
    rw [dig_zero]; simp
  | succ k ih =>
    intro n h
    by_cases h0 : n = 0
    · subst h0; rw [dig_zero]; simp
    · rw [dig_pos h0, List.length_cons]
      have := ih (n / B32) (Nat.div_lt_of_lt_mul (by rw [Nat.mul_comm, ← Nat.pow_succ]; exact h))
      omega
theorem dig_length (l : List Nat) (h : okV l) : (dig (natV l)).length ≤ l.length := dig_len _ _ (natV_lt h)
theorem lt_dig (n : Nat) : n < B32 ^ (dig n).length := by
  have := natV_lt (okV_dig n)
  rwa [natV_dig] at this
theorem dig_last {n : Nat} (h : n ≠ 0) : ∃ x, (dig n).getLast? = some x ∧ x ≠ 0 := by
  induction n using Nat.strongRecOn with
  | _ n ih =>
    rw [dig_pos h]
    by_cases h0 : n / B32 = 0
    · rw [h0, dig_zero]
      refine ⟨n % B32, rfl, fun e => h ?_⟩
      have := Nat.div_add_mod n B32
      rw [h0, e] at this
      omega
    · obtain ⟨x, hx, hx0⟩ := ih _ (Nat.div_lt_self (by omega) B32_two) h0
      exact ⟨x, by rw [List.getLast?_cons, hx]; rfl, hx0⟩
end Go.Proofs.YtckkhpegimkefaaGreatDoor
