/- Certify of the program and of the document's own. -/
import Derived.Test.YtckkhpegimkefaaM11
import Derived.Test.YtckkhpegimkefaaM48
import Derived.Test.YtckkhpegimkefaaM47
import Derived.Test.YtckkhpegimkefaaM22
import Derived.Test.YtckkhpegimkefaaRows
import Derived.Test.YtckkhpegimkefaaProg
import Derived.WalkKit
import Derived.ProofKit
import Derived.OpenShut
import Derived.ShutString
import Derived.ChangeOld
import Derived.Below
import Derived.Deep.Slices
namespace Go.Proofs.Ytckkhpegimkefaa
open Go.RowKit
set_option linter.unusedVariables false
set_option linter.unusedSimpArgs false
set_option maxRecDepth 100000

theorem secE_isMod {p q : ByteArray} (h : secE p q = 0) : isModB (secM p q) = true := by
  unfold secM
  rw [if_pos h]
  unfold secE at h
  cases hf : (isFacB p && isFacB q) with
  | false => rw [hf] at h; simp at h
  | true =>
    cases hm : isModB (secT (valN p.data.toList) (valN q.data.toList)) with
    | false => rw [hf, hm] at h; simp at h
    | true => rfl
theorem secM_size {p q : ByteArray} (h : secE p q = 0) : 40 ≤ (secM p q).size ∧ (secM p q).size ≤ 96 := by
  have h' := secE_isMod h
  unfold isModB at h'
  simp only [Bool.and_eq_true, decide_eq_true_eq] at h'
  exact ⟨h'.1.1.1, h'.1.1.2⟩
theorem laidW_data (n : Nat) (k : Int) (t b : ByteArray) : ∃ r, (laidW n k t b).data.toList = 106 :: r := by
  refine ⟨UInt8.ofNat (lowByte k).toNat :: ((laidI n t).data.toList ++ ((manyT 187 (n - 22 - (laidI n t).size)).data.toList ++ ((laidF k t b).data.toList ++ lastT.data.toList))), ?_⟩
  have h0 : (headT k).data.toList = [106, UInt8.ofNat (lowByte k).toNat] := by simp [headT, strOfNums]
  unfold laidW
  simp only [ByteArray.data_append, Array.toList_append, h0, List.append_assoc]
  rfl
theorem powE_laid {m : ByteArray} (h : isModB m = true) (k : Int) (t b : ByteArray) : powE m (laidW m.size k t b) = 0 := by
  have h' := h
  unfold isModB at h
  simp only [Bool.and_eq_true, decide_eq_true_eq] at h
  obtain ⟨⟨⟨h1, h2⟩, h3⟩, h4⟩ := h
  have hz := laidW_size m.size k t b (by omega)
  obtain ⟨r, hr⟩ := laidW_data m.size k t b
  have hrl : r.length + 1 = m.size := by
    have e := congrArg List.length hr
    rw [show (laidW m.size k t b).data.toList.length = (laidW m.size k t b).size by simp, hz] at e
    simpa using e.symm
  have hlt : valN (laidW m.size k t b).data.toList < valN m.data.toList := by
    rw [hr, valN_consN]
    cases hm : m.data.toList with
    | nil => rw [hm] at h3; simp at h3
    | cons x l =>
      have hl : l.length + 1 = m.size := by
        have : m.data.toList.length = m.size := by simp
        rw [hm] at this
        simpa using this
      rw [hm] at h3
      simp only [List.headD_cons] at h3
      rw [valN_consN, show l.length = r.length by omega]
      have hv := valN_ltK r
      have h106 : (106 : UInt8).toNat = 106 := rfl
      rw [h106]
      have hp : 128 * 256 ^ r.length ≤ x.toNat * 256 ^ r.length := Nat.mul_le_mul_right _ h3
      omega
  unfold powE
  rw [h', hz]
  simp
  exact hlt
/-- what Certify answers -/
def certE (p q : ByteArray) (k : Int) (body beside : ByteArray) : Int := if secE p q ≠ 0 then secE p q else if ¬ (1 ≤ k ∧ k ≤ 4) then 4 else if 1000 < body.size ∨ 65535 < beside.size then 2 else 0
def certS (p q : ByteArray) (k : Int) (body beside : ByteArray) : ByteArray := if certE p q k body beside = 0 then powT (secM p q) (laidW (secM p q).size k (bodyT body) beside) (secD p q) else ⟨#[]⟩
def certR (p q : ByteArray) (k : Int) (body beside : ByteArray) : ByteArray := if certE p q k body beside = 0 then laidR (secM p q).size (bodyT body) else ⟨#[]⟩
theorem cert_no {p q : ByteArray} {k : Int} {body beside : ByteArray} {x : Int} (h : certE p q k body beside = x) (hx : x ≠ 0) : certS p q k body beside = ⟨#[]⟩ ∧ certR p q k body beside = ⟨#[]⟩ := by
  unfold certS certR
  rw [h, if_neg hx, if_neg hx]
  exact ⟨rfl, rfl⟩
theorem cert_yes {p q : ByteArray} {k : Int} {body beside : ByteArray} (h : certE p q k body beside = 0) : certS p q k body beside = powT (secM p q) (laidW (secM p q).size k (bodyT body) beside) (secD p q) ∧ certR p q k body beside = laidR (secM p q).size (bodyT body) := by
  unfold certS certR
  rw [if_pos h, if_pos h]
  exact ⟨rfl, rfl⟩
theorem cert_secE {p q : ByteArray} {k : Int} {body beside : ByteArray} (h : secE p q ≠ 0) : certE p q k body beside = secE p q ∧ certS p q k body beside = ⟨#[]⟩ ∧ certR p q k body beside = ⟨#[]⟩ := by
  have hE : certE p q k body beside = secE p q := by unfold certE; rw [if_pos h]
  exact ⟨hE, cert_no hE h⟩
theorem cert_kind {p q : ByteArray} {k : Int} {body beside : ByteArray} (h : secE p q = 0) (hk : ¬ (1 ≤ k ∧ k ≤ 4)) : certE p q k body beside = 4 ∧ certS p q k body beside = ⟨#[]⟩ ∧ certR p q k body beside = ⟨#[]⟩ := by
  have hE : certE p q k body beside = 4 := by unfold certE; rw [if_neg (by simpa using h), if_pos hk]
  exact ⟨hE, cert_no hE (by decide)⟩
theorem cert_long {p q : ByteArray} {k : Int} {body beside : ByteArray} (h : secE p q = 0) (hk : 1 ≤ k ∧ k ≤ 4) (hl : 1000 < body.size ∨ 65535 < beside.size) : certE p q k body beside = 2 ∧ certS p q k body beside = ⟨#[]⟩ ∧ certR p q k body beside = ⟨#[]⟩ := by
  have hE : certE p q k body beside = 2 := by unfold certE; rw [if_neg (by simpa using h), if_neg (by simpa using hk), if_pos hl]
  exact ⟨hE, cert_no hE (by decide)⟩
theorem cert_ok {p q : ByteArray} {k : Int} {body beside : ByteArray} (h : secE p q = 0) (hk : 1 ≤ k ∧ k ≤ 4) (hl : ¬ (1000 < body.size ∨ 65535 < beside.size)) : certE p q k body beside = 0 ∧ certS p q k body beside = powT (secM p q) (laidW (secM p q).size k (bodyT body) beside) (secD p q) ∧ certR p q k body beside = laidR (secM p q).size (bodyT body) := by
  have hE : certE p q k body beside = 0 := by unfold certE; rw [if_neg (by simpa using h), if_neg (by simpa using hk), if_neg hl]
  exact ⟨hE, cert_yes hE⟩
theorem isKind_any (k : Int) (w : World) : Calls Try.prog 6 #[.int .i64 k] w fun e w' => e = .returned (.bool (decide (1 ≤ k) && decide (k ≤ 4))) ∧ w' = w := by
  go_enter Try.func6, Try.ntmps6
  go_wp2
  all_goals
    go_ret
    exact ⟨by first | rfl | (simp_all; done) | (simp_all; omega), rfl⟩

end Go.Proofs.Ytckkhpegimkefaa
namespace Go.Proofs.Ytckkhpegimkefaa
open Go.RowKit
set_option linter.unusedVariables false
set_option linter.unusedSimpArgs false
set_option maxRecDepth 100000

theorem keep_cellS2 {w w' : World} {a : Addr} {v : Value} (h : Below w.heap.size w w') (hc : w.cell? a = some v) : w'.cell? a = some v := (h.cell (World.block_lt_of_cell? w a hc)).trans hc
theorem drew_cellS2 {w : World} {a : Addr} {v : Value} (hc : w.cell? a = some v) : w.drew.cell? a = some v := hc
theorem ext_drewS2 {W x : World} (h : Below W.heap.size W x) : Below W.heap.size W x.drew := h.drew
theorem rc_kind {m sig rest : ByteArray} {k : Int} {beside : ByteArray} (hk : ¬ (1 ≤ k ∧ k ≤ 4)) : rcE m sig rest k beside = 4 ∧ rcT m sig rest k beside = ⟨#[]⟩ := by
  have hE : rcE m sig rest k beside = 4 := by unfold rcE; rw [if_pos hk]
  exact ⟨hE, by unfold rcT; rw [hE]; rfl⟩
theorem rc_pow {m sig rest : ByteArray} {k : Int} {beside : ByteArray} (hk : 1 ≤ k ∧ k ≤ 4) (h : powE m sig ≠ 0) : rcE m sig rest k beside = powE m sig ∧ rcT m sig rest k beside = ⟨#[]⟩ := by
  have hE : rcE m sig rest k beside = powE m sig := by unfold rcE; rw [if_neg (by simpa using hk), if_pos h]
  exact ⟨hE, by unfold rcT; rw [hE, if_neg h]⟩
theorem rc_false {m sig rest : ByteArray} {k : Int} {beside : ByteArray} (hk : 1 ≤ k ∧ k ≤ 4) (h : powE m sig = 0) (hb : rcB (powT m sig 3) rest k beside = false) : rcE m sig rest k beside = 9 ∧ rcT m sig rest k beside = ⟨#[]⟩ := by
  have hE : rcE m sig rest k beside = 9 := by unfold rcE; rw [if_neg (by simpa using hk), if_neg (by simpa using h), hb]; rfl
  exact ⟨hE, by unfold rcT; rw [hE]; rfl⟩
theorem rc_true {m sig rest : ByteArray} {k : Int} {beside : ByteArray} (hk : 1 ≤ k ∧ k ≤ 4) (h : powE m sig = 0) (hb : rcB (powT m sig 3) rest k beside = true) : rcE m sig rest k beside = 0 ∧ rcT m sig rest k beside = rcBody (powT m sig 3) rest := by
  have hE : rcE m sig rest k beside = 0 := by unfold rcE; rw [if_neg (by simpa using hk), if_neg (by simpa using h), hb]; rfl
  exact ⟨hE, by unfold rcT; rw [hE]; rfl⟩
theorem ne_bytes {a b : ByteArray} : (a.toList != b.toList) = !decide (a = b) := by
  by_cases h : a = b
  · subst h; simp
  · rw [decide_eq_false h]
    simp only [Bool.not_false, bne_iff_ne, ne_eq]
    intro he
    rw [Lib.toList_data, Lib.toList_data] at he
    exact h (ByteArray.ext (Array.toList_inj.1 he))
set_option maxHeartbeats 4000000 in
theorem recover_any (m sig rest : ByteArray) (k : Int) (beside : ByteArray) (w : World) (hr : rest.size ≤ 2097152) (hb : beside.size ≤ 2097152) :
    Calls Try.prog 4 #[.string m, .int .i64 k, .agg #[.string sig, .string rest], .string beside] w fun e w' => e = .returned (.tuple #[.string (rcT m sig rest k beside), .int .i64 (rcE m sig rest k beside)]) ∧ Below w.heap.size w w' := by
  obtain ⟨W1, hW1⟩ : ∃ W1, W1 = w.alloc (.cells #[.string sig, .string rest] 23) := ⟨_, rfl⟩
  have hB1 : Below w.heap.size w W1 := by rw [hW1]; exact (Below.refl _ _).alloc (Nat.le_refl _) _
  have hX1 : W1.heap[w.heap.size]? = some (.cells #[.string sig, .string rest] 23 (0, 0)) := by rw [hW1]; exact heap_alloc_new _ _
  have hl1 : w.heap.size < W1.heap.size := by rw [hW1]; simp
  have hc : ∀ W, Below W1.heap.size W1 W → W.cell? ⟨w.heap.size, 0, none⟩ = some (.string sig) ∧ W.cell? ⟨w.heap.size, 1, none⟩ = some (.string rest) := fun W hb => by
    have hx := (hb.block _ hl1).trans hX1
    exact ⟨cell_of_row _ _ 0 _ _ _ hx, cell_of_row _ _ 1 _ _ _ hx⟩
  have HC := hide hc; have HW1 := hide hW1; have HB1 := hide hB1
  obtain ⟨c0, c1⟩ := hc W1 (Below.refl _ _)
  clear hc hW1 hX1 hl1
  have N0 := hide (fun W => isKind_any k W)
  by_cases hk : 1 ≤ k ∧ k ≤ 4
  case neg =>
    obtain ⟨e1, e2⟩ := rc_kind (m := m) (sig := sig) (rest := rest) (beside := beside) hk
    rw [e1, e2]
    have hkf : (decide (1 ≤ k) && decide (k ≤ 4)) = false := by
      rw [Bool.eq_false_iff]; simp; intro h; omega
    rw [hkf] at N0
    clear hk hkf e1 e2 hB1 c0 c1
    go_enter Try.func4, Try.ntmps4
    go_upto_region 1 with fail
    rw [← unhide HW1]
    go_wp2_with fail
    refine (unhide N0 _).mono ?_
    rintro e y ⟨rfl, hy⟩
    have hy' := hy.symm
    subst hy'
    clear hy
    go_wp2
    go_ret2
    exact ⟨rfl, unhide HB1⟩
  have hkt : (decide (1 ≤ k) && decide (k ≤ 4)) = true := by simp; omega
  rw [hkt] at N0
  have N1 := hide (fun W => raise_any m sig W)
  obtain ⟨RE, hRE⟩ : ∃ x, x = rcE m sig rest k beside := ⟨_, rfl⟩
  obtain ⟨RT, hRT⟩ : ∃ x, x = rcT m sig rest k beside := ⟨_, rfl⟩
  rw [← hRE, ← hRT]
  have HP : Hid (powE m sig ≠ 0 → RE = powE m sig ∧ RT = ⟨#[]⟩) := hide (fun h => by rw [hRE, hRT]; exact rc_pow hk h)
  have HNo : Hid (powE m sig = 0 → rcB (powT m sig 3) rest k beside = false → RE = 9 ∧ RT = ⟨#[]⟩) := hide (fun h hb => by rw [hRE, hRT]; exact rc_false hk h hb)
  have HYes : Hid (powE m sig = 0 → rcB (powT m sig 3) rest k beside = true → RE = 0 ∧ RT = rcBody (powT m sig 3) rest) := hide (fun h hb => by rw [hRE, hRT]; exact rc_true hk h hb)
  have HLen := hide (fun h => powT_len (m := m) (x := sig) (d := 3) h)
  clear hRE hRT hB1 hk hkt
  generalize powE m sig = pe at *
  generalize powT m sig 3 = x at *
  go_enter Try.func4, Try.ntmps4
  go_upto_region 1 with fail
  rw [← unhide HW1]
  go_wp2_with fail
  refine (unhide N0 _).mono ?_
  rintro e y ⟨rfl, hy⟩
  have hy' := hy.symm
  subst hy'
  clear hy
  go_wp2_with fail
  refine (unhide N1 _).mono ?_
  rintro e y ⟨rfl, k1⟩
  clear N0 N1 c0 c1
  obtain ⟨c0, c1⟩ := unhide HC y k1
  have K1 := hide k1
  have HF := hide ((unhide HB1).trans (k1.mono (unhide HB1).size))
  clear k1
  by_cases h0 : pe = 0
  case neg =>
    obtain ⟨rfl, rfl⟩ := unhide HP h0
    have t1 : (RE != 0) = true := by simpa using h0
    clear HP HNo HYes HLen h0
    go_wp2
    go_ret2
    exact ⟨rfl, unhide HF⟩
  case pos =>
  subst h0
  obtain ⟨hxm, hm40, hm96⟩ := unhide HLen rfl
  rw [← hxm] at hm40 hm96
  clear hxm HLen HP
  have M1 := hide (fun W => bodyOf_any x rest W hm40 hm96 hr)
  by_cases hbd : bdB x rest = true
  case neg =>
    have hbf : bdB x rest = false := by simpa using hbd
    obtain ⟨rfl, rfl⟩ := unhide HNo (by first | rfl | trivial) (by
      cases hq : rcB x rest k beside with
      | false => rfl
      | true => exact absurd (rc_bd hm40 hq) hbd)
    rw [hbf] at M1
    clear HNo HYes hbd hbf hm40 hm96
    go_wp2_with fail
    refine (unhide M1 _).mono ?_
    rintro e z ⟨rfl, k2⟩
    have HF2 := hide ((unhide HB1).trans ((ext_callB (unhide K1) k2).mono (unhide HB1).size))
    clear k2 c0 c1
    go_wp2
    go_ret2
    exact ⟨rfl, unhide HF2⟩
  case pos =>
  rw [hbd] at M1
  have hcc := bd_rc hm40 hbd
  have hrb := rc_same (k := k) (beside := beside) hcc
  have L1 := hide (fun W => layOut_any x.size k (rcBody x rest) beside W (by omega) (by omega) (by rw [rcBody_size hcc.2]; exact hcc.1) hb)
  have HRB := hide hrb
  clear hrb hcc hbd hm40 hm96 hr hb
  simp only [cond_true] at M1
  generalize rcBody x rest = body at *
  generalize laidW x.size k (bodyT body) beside = lw at *
  generalize laidR x.size (bodyT body) = lr at *
  go_wp2_with fail
  refine (unhide M1 _).mono ?_
  rintro e z ⟨rfl, k2⟩
  have hk2 := ext_callB (unhide K1) k2
  clear c0 c1 k2 K1
  obtain ⟨c0, c1⟩ := unhide HC z hk2
  have K2 := hide hk2
  clear hk2
  go_wp2_with fail
  refine (unhide L1 _).mono ?_
  rintro e z3 ⟨rfl, k3⟩
  have hk3 := ext_callB (unhide K2) k3
  clear c0 c1 k3 K2
  obtain ⟨c0, c1⟩ := unhide HC z3 hk3
  have HF2 := hide ((unhide HB1).trans (hk3.mono (unhide HB1).size))
  clear hk3 HC HB1 HW1 HF M1 L1
  by_cases hw : lw = x
  case neg =>
    have t1 : (lw.toList != x.toList) = true := by rw [ne_bytes, decide_eq_false hw]; rfl
    obtain ⟨rfl, rfl⟩ := unhide HNo (by first | rfl | trivial) (by rw [unhide HRB, decide_eq_false hw]; rfl)
    clear HNo HYes HRB hw
    go_wp2
    all_goals first | (exfalso; simp_all; done) | (go_ret2; exact ⟨rfl, unhide HF2⟩)
  case pos =>
    have t1 : (lw.toList != x.toList) = false := by rw [ne_bytes, decide_eq_true hw]; rfl
    by_cases hlr : lr = rest
    case neg =>
      have t2 : (lr.toList != rest.toList) = true := by rw [ne_bytes, decide_eq_false hlr]; rfl
      obtain ⟨rfl, rfl⟩ := unhide HNo (by first | rfl | trivial) (by rw [unhide HRB, decide_eq_false hlr, Bool.and_false])
      clear HNo HYes HRB hw hlr
      go_wp2
      all_goals first | (exfalso; simp_all; done) | (go_ret2; exact ⟨rfl, unhide HF2⟩)
    case pos =>
      have t2 : (lr.toList != rest.toList) = false := by rw [ne_bytes, decide_eq_true hlr]; rfl
      obtain ⟨rfl, rfl⟩ := unhide HYes (by first | rfl | trivial) (by rw [unhide HRB, decide_eq_true hlr, decide_eq_true hw]; rfl)
      clear HNo HYes HRB hw hlr
      go_wp2
      all_goals first | (exfalso; simp_all; done) | (go_ret2; exact ⟨rfl, unhide HF2⟩)
end Go.Proofs.Ytckkhpegimkefaa
namespace Go.Proofs.Ytckkhpegimkefaa
open Go.RowKit
set_option linter.unusedVariables false
set_option linter.unusedSimpArgs false
set_option maxRecDepth 100000

theorem hc_or (n s : Nat) (h : ¬ (n ≤ 1000 ∧ n + 2 ≤ s)) : (1000 : Int) < (n : Int) ∨ ((n : Int) ≤ 1000 ∧ (s : Int) < (n : Int) + 2) := by omega
theorem hc_yes (n s : Nat) (h : n ≤ 1000 ∧ n + 2 ≤ s) : (n : Int) ≤ 1000 ∧ (n : Int) + 2 ≤ (s : Int) := by omega
theorem slice_S (al : ByteArray) (n : Nat) (h : n + 2 ≤ al.size) (wx : World) : (Instr.slice 9 (.string al) (some (.int .i64 2)) (some (.int .i64 ((n : Int) + 2))) none).run Try.prog wx = .ok (.string (al.extract 2 (2 + n))) wx := by
  rw [run_slice_string (P := Try.prog) wx 9 al .i64 .i64 (2 : Int) ((n : Int) + 2) Try.underlying9 (by omega) (by omega) (by omega)]
  rw [show ((n : Int) + 2).toNat = 2 + n by omega]
  rfl
set_option maxHeartbeats 4000000 in
theorem rrecover_any (m sig rest : ByteArray) (k : Int) (beside : ByteArray) (w : World) (hr : rest.size ≤ 1048576) (hb : beside.size ≤ 1048576) :
    Calls Try.prog 5 #[.string m, .int .i64 k, .agg #[.string sig, .string rest], .string beside] w fun e w' => e = .returned (.tuple #[.string (rcT m sig rest k beside), .int .i64 (rcE m sig rest k beside)]) ∧ Below w.heap.size w w' := by
  obtain ⟨W1, hW1⟩ : ∃ W1, W1 = w.alloc (.cells #[.string sig, .string rest] 23) := ⟨_, rfl⟩
  have hB1 : Below w.heap.size w W1 := by rw [hW1]; exact (Below.refl _ _).alloc (Nat.le_refl _) _
  have hX1 : W1.heap[w.heap.size]? = some (.cells #[.string sig, .string rest] 23 (0, 0)) := by rw [hW1]; exact heap_alloc_new _ _
  have HW1 := hide hW1; have HB1 := hide hB1
  by_cases hk : 1 ≤ k ∧ k ≤ 4
  case neg =>
    obtain ⟨e1, e2⟩ := rc_kind (m := m) (sig := sig) (rest := rest) (beside := beside) hk
    rw [e1, e2]
    have hkc : Hid (k < 1 ∨ (1 ≤ k ∧ 4 < k)) := hide (by omega)
    clear hk e1 e2 hW1 hB1 hX1
    rcases unhide hkc with hc | ⟨hc, hc2⟩
    all_goals
      clear hkc
      go_enter Try.func5, Try.ntmps5
      go_upto_region 1 with fail
      rw [← unhide HW1]
      go_wp2
      go_ret2
      exact ⟨rfl, unhide HB1⟩
  have hk1 := hk.1
  have hk2 := hk.2
  have c0 : W1.cell? ⟨w.heap.size, 0, none⟩ = some (.string sig) := cell_of_row _ _ 0 _ _ _ hX1
  have c1 : W1.cell? ⟨w.heap.size, 1, none⟩ = some (.string rest) := cell_of_row _ _ 1 _ _ _ hX1
  have HX1 := hide hX1
  have N1 := hide (fun W => newInt_any 3 W (by decide))
  have N2 := hide (fun (W : World) (pd : Nat) (h : IntAt W pd 3) => rpower_any m sig pd 3 W h (small_lt 3 (by decide) 200 (by decide)))
  obtain ⟨RE, hRE⟩ : ∃ x, x = rcE m sig rest k beside := ⟨_, rfl⟩
  obtain ⟨RT, hRT⟩ : ∃ x, x = rcT m sig rest k beside := ⟨_, rfl⟩
  rw [← hRE, ← hRT]
  have HP : Hid (powE m sig ≠ 0 → RE = powE m sig ∧ RT = ⟨#[]⟩) := hide (fun h => by rw [hRE, hRT]; exact rc_pow hk h)
  have HNo : Hid (powE m sig = 0 → rcB (powT m sig 3) rest k beside = false → RE = 9 ∧ RT = ⟨#[]⟩) := hide (fun h hb => by rw [hRE, hRT]; exact rc_false hk h hb)
  have HYes : Hid (powE m sig = 0 → rcB (powT m sig 3) rest k beside = true → RE = 0 ∧ RT = rcBody (powT m sig 3) rest) := hide (fun h hb => by rw [hRE, hRT]; exact rc_true hk h hb)
  have HLen := hide (fun h => powT_len (m := m) (x := sig) (d := 3) h)
  clear hRE hRT hW1 hB1 hX1 hk
  generalize powE m sig = pe at *
  generalize powT m sig 3 = x at *
  go_enter Try.func5, Try.ntmps5
  go_upto_region 1 with fail
  rw [← unhide HW1]
  go_upto_region 3 with fail
  go_region_held3 (fun W => W.cell? ⟨w.heap.size, 0, none⟩ = some (.string sig) ∧ W.cell? ⟨w.heap.size, 1, none⟩ = some (.string rest))
    (first | (go_split_ands; refine ⟨?_, ?_⟩ <;> ((repeat (first | (with_reducible assumption) | (with_reducible refine drew_cellS2 ?_) | (with_reducible refine keep_cellS2 h2 ?_) | (with_reducible refine keep_cellS2 h1 ?_))); done)) | go_keep)
    ((first
      | (go_at_call 11; refine (unhide N1 _).mono ?_; rintro e z1 ⟨rfl, g1, h1, _⟩)
      | (have hq := g1; go_at_call 10; refine (unhide N2 _ _ ?_).mono ?_; (focus (first | exact g1 | exact g1.drew)); rintro e z2 ⟨rfl, h2⟩)))
  all_goals
    have hK : Below W1.heap.size W1 z2 := by
      (repeat (first | (with_reducible exact Below.refl _ _) | (with_reducible refine ext_drewS2 ?_) | (with_reducible refine ext_callB ?_ h2) | (with_reducible refine ext_callB ?_ h1)))
    have hX2 := (hK.block _ (World.block_lt_of_cell? W1 _ c0)).trans (unhide HX1)
    have d0 : z2.cell? ⟨w.heap.size, 0, none⟩ = some (.string sig) := cell_of_row _ _ 0 _ _ _ hX2
    have d1 : z2.cell? ⟨w.heap.size, 1, none⟩ = some (.string rest) := cell_of_row _ _ 1 _ _ _ hX2
    have HK := hide hK
    have HX2 := hide hX2
    have hlt2 : w.heap.size < z2.heap.size := World.block_lt_of_cell? z2 _ d0
    have HLT2 := hide hlt2
    clear h1 h2 g1 c0 c1 hK N1 N2 HX1 hX2 hlt2
    by_cases h0 : pe = 0
    case neg =>
      obtain ⟨rfl, rfl⟩ := unhide HP h0
      have t1 : (RE != 0) = true := by simpa using h0
      have HF := hide ((unhide HB1).trans ((unhide HK).mono (unhide HB1).size))
      clear HP HNo HYes HLen h0
      go_wp2
      go_ret2
      exact ⟨rfl, unhide HF⟩
    case pos =>
    subst h0
    obtain ⟨hxm, hm40, hm96⟩ := unhide HLen rfl
    rw [← hxm] at hm40 hm96
    clear hxm HLen HP
    have hz := inT_size x hm40
    have hN := rcN_lt x
    have M1 := hide (fun W => value_any ((inT x).extract 0 2) W (by rw [ByteArray.size_extract]; omega) (by show rcN x ≤ _; omega))
    have M1' := unhide M1
    rw [show valN ((inT x).extract 0 2).data.toList = rcN x from rfl] at M1'
    have M1 := hide M1'
    have HWa : Hid (wrap64 ((x.size : Int) - 20) = (x.size : Int) - 20) := hide (by unfold wrap64; omega)
    have sl1 : ∀ wx, (Instr.slice 9 (.string x) (some (.int .i64 2)) (some (.int .i64 ((x.size : Int) - 20))) none).run Try.prog wx = .ok (.string (inT x)) wx := fun wx => by
      rw [run_slice_string (P := Try.prog) wx 9 x .i64 .i64 (2 : Int) ((x.size : Int) - 20) Try.underlying9 (by omega) (by omega) (by omega)]
      rw [show ((x.size : Int) - 20).toNat = x.size - 20 by omega]
      rfl
    have ha := fun w' => run_string_add_sum (P := Try.prog) w' (inT x) rest (by omega)
    have hz2 : (2 : Int) ≤ ((inT x).size : Int) := by omega
    have hsum : (inT x ++ rest).size = (inT x).size + rest.size := ByteArray.size_append
    have hshort := fun h => rc_short (x := x) (rest := rest) (k := k) (beside := beside) h
    have hsame := fun h => rc_same (x := x) (rest := rest) (k := k) (beside := beside) h
    have hbsz := fun h => rcBody_size (x := x) (rest := rest) h
    have hbody : rcBody x rest = (inT x ++ rest).extract 2 (2 + rcN x) := rfl
    have HBODY := hide hbody
    have L1 := hide (fun W (h1 : rcN x ≤ 1000) (h2 : rcN x + 2 ≤ (inT x ++ rest).size) => rlaid_any x.size k (rcBody x rest) beside W (by omega) (by omega) (by rw [rcBody_size h2]; exact h1) (by omega))
    have hall : (inT x ++ rest).size ≤ 1048700 := by omega
    clear M1' hbody hm40 hm96 hz
    generalize inT x = i at *
    generalize rcN x = n at *
    generalize rcBody x rest = body at *
    generalize hal : i ++ rest = al at *
    have HWb : Hid (wrap64 ((n : Int) + 2) = (n : Int) + 2) := hide (by unfold wrap64; omega)
    by_cases hc : n ≤ 1000 ∧ n + 2 ≤ al.size
    case neg =>
      obtain ⟨rfl, rfl⟩ := unhide HNo (by first | rfl | trivial) (hshort hc)
      have hcs : Hid ((1000 : Int) < (n : Int) ∨ ((n : Int) ≤ 1000 ∧ (al.size : Int) < (n : Int) + 2)) := hide (hc_or n al.size hc)
      have HF := hide ((unhide HB1).trans ((unhide HK).mono (unhide HB1).size))
      clear HNo HYes hshort hsame hbsz hc L1 HBODY hsum hall hal hN hr hb
      rcases unhide hcs with hc | ⟨hc, hc2⟩
      all_goals
        clear hcs
        have hw1 := unhide HWa
        have hw2 := unhide HWb
        go_wp2_with fail
        refine (unhide M1 _).mono ?_
        rintro e y ⟨rfl, hy⟩
        have hy' := hy.symm
        subst hy'
        clear hy
        go_wp2
        go_ret2
        exact ⟨rfl, unhide HF⟩
    case pos =>
      have hrb := hsame hc
      have L2 := hide (fun W => unhide L1 W hc.1 hc.2)
      obtain ⟨hn1, hn2⟩ := hc_yes n al.size hc
      have sl2 := fun wx => slice_S al n hc.2 wx
      rw [← unhide HBODY] at sl2
      clear hshort hsame hbsz L1 hc HBODY hsum hall hal hN hr hb
      generalize laidW x.size k (bodyT body) beside = lw at *
      generalize laidR x.size (bodyT body) = lr at *
      have HRB := hide hrb
      have SL2 := hide sl2
      clear hrb sl2
      have hw1 := unhide HWa
      have hw2 := unhide HWb
      go_wp2_with fail
      refine (unhide M1 _).mono ?_
      rintro e y ⟨rfl, hy⟩
      have hy' := hy.symm
      subst hy'
      clear hy
      have t8 : decide ((1000 : Int) < (n : Int)) = false := decide_eq_false (by omega)
      have t9 : decide ((al.size : Int) < (n : Int) + 2) = false := decide_eq_false (by omega)
      clear hn1 hn2 sl1 hz2
      go_upto_region 11 with fail
      have sl2 := unhide SL2
      go_wp2_with fail
      refine (unhide L2 _).mono ?_
      rintro e y3 ⟨rfl, k3⟩
      have hX3 := (k3.block _ (unhide HLT2)).trans (unhide HX2)
      clear d0 d1
      have d1 : y3.cell? ⟨w.heap.size, 1, none⟩ = some (.string rest) := cell_of_row _ _ 1 _ _ _ hX3
      have HF := hide ((unhide HB1).trans ((ext_callB (unhide HK) k3).mono (unhide HB1).size))
      clear k3 hX3 HK HX2
      by_cases hw : lw = x
      case neg =>
        have t1 : (lw.toList != x.toList) = true := by rw [ne_bytes, decide_eq_false hw]; rfl
        obtain ⟨rfl, rfl⟩ := unhide HNo (by first | rfl | trivial) (by rw [unhide HRB, decide_eq_false hw]; rfl)
        clear HNo HYes HRB hw
        go_wp2
        all_goals first | (exfalso; simp_all; done) | (go_ret2; exact ⟨rfl, unhide HF⟩)
      case pos =>
        have t1 : (lw.toList != x.toList) = false := by rw [ne_bytes, decide_eq_true hw]; rfl
        by_cases hlr : lr = rest
        case neg =>
          have t2 : (lr.toList != rest.toList) = true := by rw [ne_bytes, decide_eq_false hlr]; rfl
          obtain ⟨rfl, rfl⟩ := unhide HNo (by first | rfl | trivial) (by rw [unhide HRB, decide_eq_false hlr, Bool.and_false])
          clear HNo HYes HRB hw hlr
          go_wp2
          all_goals first | (exfalso; simp_all; done) | (go_ret2; exact ⟨rfl, unhide HF⟩)
        case pos =>
          have t2 : (lr.toList != rest.toList) = false := by rw [ne_bytes, decide_eq_true hlr]; rfl
          obtain ⟨rfl, rfl⟩ := unhide HYes (by first | rfl | trivial) (by rw [unhide HRB, decide_eq_true hlr, decide_eq_true hw]; rfl)
          clear HNo HYes HRB hw hlr
          go_wp2
          all_goals first | (exfalso; simp_all; done) | (go_ret2; exact ⟨rfl, unhide HF⟩)
end Go.Proofs.Ytckkhpegimkefaa
namespace Go.Proofs.Ytckkhpegimkefaa
open Go.RowKit
set_option linter.unusedVariables false
set_option linter.unusedSimpArgs false
set_option maxRecDepth 100000

set_option maxHeartbeats 4000000 in
theorem walkReads (m : ByteArray) (k : Int) (sig rest beside : ByteArray) (w : World) (hr : rest.size ≤ 1048576) (hb : beside.size ≤ 1048576) :
    Calls Try.prog 3 #[.string m, .int .i64 k, .agg #[.string sig, .string rest], .string beside] w fun e w' => e = .returned (.bool true) ∧ Below w.heap.size w w' := by
  obtain ⟨W1, hW1⟩ : ∃ W1, W1 = w.alloc (.cells #[.string sig, .string rest] 23) := ⟨_, rfl⟩
  have hB1 : Below w.heap.size w W1 := by rw [hW1]; exact (Below.refl _ _).alloc (Nat.le_refl _) _
  have hX1 : W1.heap[w.heap.size]? = some (.cells #[.string sig, .string rest] 23 (0, 0)) := by rw [hW1]; exact heap_alloc_new _ _
  have hl1 : w.heap.size < W1.heap.size := by rw [hW1]; simp
  have hc : ∀ W, Below W1.heap.size W1 W → W.cell? ⟨w.heap.size, 0, none⟩ = some (.string sig) ∧ W.cell? ⟨w.heap.size, 1, none⟩ = some (.string rest) := fun W hb => by
    have hx := (hb.block _ hl1).trans hX1
    exact ⟨cell_of_row _ _ 0 _ _ _ hx, cell_of_row _ _ 1 _ _ _ hx⟩
  have N1 := hide (fun W => recover_any m sig rest k beside W (by omega) (by omega))
  have N2 := hide (fun W => rrecover_any m sig rest k beside W hr hb)
  have HC := hide hc; have HB1 := hide hB1; have HW1 := hide hW1
  obtain ⟨c0, c1⟩ := hc W1 (Below.refl _ _)
  clear hc hB1 hX1 hW1 hl1 hr hb
  generalize rcE m sig rest k beside = re at *
  generalize rcT m sig rest k beside = rt at *
  have t1 : (rt.toList == rt.toList) = true := by simp
  have t3 : (re == re) = true := by simp
  go_enter Try.func3, Try.ntmps3
  go_upto_region 1 with fail
  rw [← unhide HW1]
  go_wp2_with fail
  refine (unhide N1 _).mono ?_
  rintro e y1 ⟨rfl, k1⟩
  clear c0 c1
  obtain ⟨c0, c1⟩ := unhide HC y1 k1
  have K1 := hide k1
  clear k1
  go_wp2_with fail
  refine (unhide N2 _).mono ?_
  rintro e y2 ⟨rfl, k2⟩
  have K2 := hide ((unhide HB1).trans ((ext_callB (unhide K1) k2).mono (unhide HB1).size))
  clear k2 K1 c0 c1
  go_wp2
  exact bodyPost_ret (v := .bool true) (by simp [results, Try.results3, go_sem]) rfl ⟨rfl, (unhide K2)⟩
end Go.Proofs.Ytckkhpegimkefaa
namespace Go.Proofs.Ytckkhpegimkefaa
open Go.ChangeShapes Go.WideShapes Go.ChangeAt Go.RowKit Go.Deep
set_option linter.unusedVariables false

theorem cellsOfInt : Try.prog.cellsOf 3 = 1 := by kernel_rfl
theorem cellsOfBool : Try.prog.cellsOf 4 = 1 := by kernel_rfl
theorem cellsOfString : Try.prog.cellsOf 9 = 1 := by kernel_rfl
theorem cell_ltR {w : World} {a : Addr} {v : Value} (h : w.cell? a = some v) : a.block < w.heap.size := by
  rcases Nat.lt_or_ge a.block w.heap.size with h1 | h1
  · exact h1
  · unfold World.cell? at h
    rw [Array.getElem?_eq_none h1] at h
    cases h
end Go.Proofs.Ytckkhpegimkefaa
namespace Go.Proofs.Ytckkhpegimkefaa
open Go.ChangeShapes Go.WideShapes Go.ChangeAt Go.RowKit Go.Deep
set_option linter.unusedVariables false
set_option maxRecDepth 100000

structure XCert where
  sig : ByteArray
  rest : ByteArray
deriving Inhabited
def valCert (x : XCert) : Value := .agg #[.string x.sig, .string x.rest]
def okCert (W : World) (x : XCert) : Prop := x.sig.size ≤ maxLen ∧ x.rest.size ≤ maxLen
theorem cellsOfCert : Try.prog.cellsOf 23 = 2 := by kernel_rfl
theorem okCert.below {W W' : World} {x : XCert} (h : okCert W x) (hb : Below W.heap.size W W') : okCert W' x := by
  obtain ⟨h0, h1⟩ := h
  exact ⟨h0, h1⟩
theorem opencCert {H : Type} {enc : TypeId × Value → H} {W : World} {k : Nat} {cs : List Value} {y : DataW H × List MemPlace}
    (h : DataW.trod enc Try.prog W 0 (fun _ => true) true k 23 cs = some y) :
    ∃ x : XCert, cs = [.string x.sig, .string x.rest] ∧ okCert W x := by
  obtain ⟨xs, k', _, _, hsz, hlen, hq⟩ := DataW.trod_struct Try.underlying23 h
  rw [cellsOfCert] at hsz
  match cs, hsz with
  | [c0, c1], _ =>
    match xs, hlen with
    | [y0, y1], _ =>
      have h0 : DataW.trod enc Try.prog W 0 (fun _ => true) true k' 9 [c0] = some y0 := by simpa [cellsOfBool, cellsOfInt, cellsOfString] using hq 0 _ rfl
      obtain ⟨z0, e0, g0, w0⟩ := DataW.trod_string Try.underlying9 h0
      have h1 : DataW.trod enc Try.prog W 0 (fun _ => true) true k' 9 [c1] = some y1 := by simpa [cellsOfBool, cellsOfInt, cellsOfString] using hq 1 _ rfl
      obtain ⟨z1, e1, g1, w1⟩ := DataW.trod_string Try.underlying9 h1
      simp at e0 e1
      subst e0
      subst e1
      exact ⟨⟨z0, z1⟩, rfl, ⟨w0, w1⟩⟩
theorem openCert {H : Type} {enc : TypeId × Value → H} {W : World} {b0 : Nat} {r : Reach} {v : Value} {d : DataW H} {p : List MemPlace}
    (hv : Value.okWide Try.prog W r b0 23 v) (h : DataW.Trod enc Try.prog W 0 (fun _ => true) true 23 v d p) : ∃ x : XCert, v = valCert x ∧ okCert W x := by
  obtain ⟨cs, rfl, hsz⟩ := okWide_struct Try.underlying23 hv
  obtain ⟨fuel, hf⟩ := h
  obtain ⟨x, hx, ho⟩ := opencCert hf
  obtain ⟨l⟩ := cs
  simp only [Value.cells] at hx
  subst hx
  exact ⟨x, rfl, ho⟩
def bulkCert (x : XCert) : Nat := x.sig.size + x.rest.size
theorem opencbCert {H : Type} {enc : TypeId × Value → H} {W : World} {k : Nat} {cs : List Value} {y : DataW H × List MemPlace}
    (h : DataW.trod enc Try.prog W 0 (fun _ => true) true k 23 cs = some y) :
    ∃ x : XCert, cs = [.string x.sig, .string x.rest] ∧ okCert W x ∧ bulkCert x ≤ Rows.uptoBulk y.1 := by
  obtain ⟨xs, k', _, hagg, hsz, hlen, hq⟩ := DataW.trod_struct Try.underlying23 h
  rw [cellsOfCert] at hsz
  match cs, hsz with
  | [c0, c1], _ =>
    match xs, hlen, hagg with
    | [y0, y1], _, hagg =>
      have hbk := congrArg Rows.uptoBulk (Prod.ext_iff.1 hagg).1
      have h0 : DataW.trod enc Try.prog W 0 (fun _ => true) true k' 9 [c0] = some y0 := by simpa [cellsOfBool, cellsOfInt, cellsOfString] using hq 0 _ rfl
      obtain ⟨z0, e0, g0, w0⟩ := DataW.trod_string Try.underlying9 h0
      have l0 : z0.data.toList.length = z0.size := by simp
      subst g0
      have h1 : DataW.trod enc Try.prog W 0 (fun _ => true) true k' 9 [c1] = some y1 := by simpa [cellsOfBool, cellsOfInt, cellsOfString] using hq 1 _ rfl
      obtain ⟨z1, e1, g1, w1⟩ := DataW.trod_string Try.underlying9 h1
      have l1 : z1.data.toList.length = z1.size := by simp
      subst g1
      simp at e0 e1
      subst e0
      subst e1
      refine ⟨⟨z0, z1⟩, rfl, ⟨w0, w1⟩, ?_⟩
      simp only [List.map_cons, List.map_nil, Rows.uptoBulk, Rows.uptoBulkAll] at hbk
      rw [hbk]
      unfold bulkCert
      dsimp only
      omega
theorem openbCert {H : Type} {enc : TypeId × Value → H} {W : World} {b0 : Nat} {r : Reach} {v : Value} {d : DataW H} {p : List MemPlace}
    (hv : Value.okWide Try.prog W r b0 23 v) (h : DataW.Trod enc Try.prog W 0 (fun _ => true) true 23 v d p) : ∃ x : XCert, v = valCert x ∧ okCert W x ∧ bulkCert x ≤ Rows.uptoBulk d := by
  obtain ⟨cs, rfl, hsz⟩ := okWide_struct Try.underlying23 hv
  obtain ⟨fuel, hf⟩ := h
  obtain ⟨x, hx, ho, hb⟩ := opencbCert hf
  obtain ⟨l⟩ := cs
  simp only [Value.cells] at hx
  subst hx
  exact ⟨x, rfl, ho, hb⟩
end Go.Proofs.Ytckkhpegimkefaa
