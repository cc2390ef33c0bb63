/- Certify of the program and of the document's own. -/
import Derived.Test.YtckkhpegimkefaaGreatDoorM08
import Derived.Test.YtckkhpegimkefaaGreatDoorM35
import Derived.Test.YtckkhpegimkefaaGreatDoorM14
namespace Go.Proofs.YtckkhpegimkefaaGreatDoor
open Go.RowKit
set_option linter.unusedVariables false
set_option linter.unusedSimpArgs false
set_option maxRecDepth 100000

theorem secE_isMod {p q : ByteArray} (h : secE p q = 0) : isModB (secM p q) = true := by
  unfold secM
  rw [if_pos h]
  unfold secE at h
  cases hf : (isFacB p && isFacB q) with
  | false => rw [hf] at h; simp at h
  | true =>
    cases hm : isModB (secT (valN p.data.toList) (valN q.data.toList)) with
    | false => rw [hf, hm] at h; simp at h
    | true => rfl
theorem secM_size {p q : ByteArray} (h : secE p q = 0) : 40 ≤ (secM p q).size ∧ (secM p q).size ≤ 96 := by
  have h' := secE_isMod h
  unfold isModB at h'
  simp only [Bool.and_eq_true, decide_eq_true_eq] at h'
  exact ⟨h'.1.1.1, h'.1.1.2⟩
theorem laidW_data (n : Nat) (k : Int) (t b : ByteArray) : ∃ r, (laidW n k t b).data.toList = 106 :: r := by
  refine ⟨UInt8.ofNat (lowByte k).toNat :: ((laidI n t).data.toList ++ ((manyT 187 (n - 22 - (laidI n t).size)).data.toList ++ ((laidF k t b).data.toList ++ lastT.data.toList))), ?_⟩
  have h0 : (headT k).data.toList = [106, UInt8.ofNat (lowByte k).toNat] := by simp [headT, strOfNums]
  unfold laidW
  simp only [ByteArray.data_append, Array.toList_append, h0, List.append_assoc]
  rfl
theorem powE_laid {m : ByteArray} (h : isModB m = true) (k : Int) (t b : ByteArray) : powE m (laidW m.size k t b) = 0 := by
  have h' := h
  unfold isModB at h
  simp only [Bool.and_eq_true, decide_eq_true_eq] at h
  obtain ⟨⟨⟨h1, h2⟩, h3⟩, h4⟩ := h
  have hz := laidW_size m.size k t b (by omega)
  obtain ⟨r, hr⟩ := laidW_data m.size k t b
  have hrl : r.length + 1 = m.size := by
    have e := congrArg List.length hr
    rw [show (laidW m.size k t b).data.toList.length = (laidW m.size k t b).size by simp, hz] at e
    simpa using e.symm
  have hlt : valN (laidW m.size k t b).data.toList < valN m.data.toList := by
    rw [hr, valN_consN]
    cases hm : m.data.toList with
    | nil => rw [hm] at h3; simp at h3
    | cons x l =>
      have hl : l.length + 1 = m.size := by
        have : m.data.toList.length = m.size := by simp
        rw [hm] at this
        simpa using this
      rw [hm] at h3
      simp only [List.headD_cons] at h3
      rw [valN_consN, show l.length = r.length by omega]
      have hv := valN_ltK r
      have h106 : (106 : UInt8).toNat = 106 := rfl
      rw [h106]
      have hp : 128 * 256 ^ r.length ≤ x.toNat * 256 ^ r.length := Nat.mul_le_mul_right _ h3
      omega
  unfold powE
  rw [h', hz]
  simp
  exact hlt
/-- what Certify answers -/
def certE (p q : ByteArray) (k : Int) (body beside : ByteArray) : Int := if secE p q ≠ 0 then secE p q else if ¬ (1 ≤ k ∧ k ≤ 4) then 4 else if 1000 < body.size ∨ 65535 < beside.size then 2 else 0
def certS (p q : ByteArray) (k : Int) (body beside : ByteArray) : ByteArray := if certE p q k body beside = 0 then powT (secM p q) (laidW (secM p q).size k (bodyT body) beside) (secD p q) else ⟨#[]⟩
def certR (p q : ByteArray) (k : Int) (body beside : ByteArray) : ByteArray := if certE p q k body beside = 0 then laidR (secM p q).size (bodyT body) else ⟨#[]⟩
theorem cert_no {p q : ByteArray} {k : Int} {body beside : ByteArray} {x : Int} (h : certE p q k body beside = x) (hx : x ≠ 0) : certS p q k body beside = ⟨#[]⟩ ∧ certR p q k body beside = ⟨#[]⟩ := by
  unfold certS certR
  rw [h, if_neg hx, if_neg hx]
  exact ⟨rfl, rfl⟩
theorem cert_yes {p q : ByteArray} {k : Int} {body beside : ByteArray} (h : certE p q k body beside = 0) : certS p q k body beside = powT (secM p q) (laidW (secM p q).size k (bodyT body) beside) (secD p q) ∧ certR p q k body beside = laidR (secM p q).size (bodyT body) := by
  unfold certS certR
  rw [if_pos h, if_pos h]
  exact ⟨rfl, rfl⟩
theorem cert_secE {p q : ByteArray} {k : Int} {body beside : ByteArray} (h : secE p q ≠ 0) : certE p q k body beside = secE p q ∧ certS p q k body beside = ⟨#[]⟩ ∧ certR p q k body beside = ⟨#[]⟩ := by
  have hE : certE p q k body beside = secE p q := by unfold certE; rw [if_pos h]
  exact ⟨hE, cert_no hE h⟩
theorem cert_kind {p q : ByteArray} {k : Int} {body beside : ByteArray} (h : secE p q = 0) (hk : ¬ (1 ≤ k ∧ k ≤ 4)) : certE p q k body beside = 4 ∧ certS p q k body beside = ⟨#[]⟩ ∧ certR p q k body beside = ⟨#[]⟩ := by
  have hE : certE p q k body beside = 4 := by unfold certE; rw [if_neg (by simpa using h), if_pos hk]
  exact ⟨hE, cert_no hE (by decide)⟩
theorem cert_long {p q : ByteArray} {k : Int} {body beside : ByteArray} (h : secE p q = 0) (hk : 1 ≤ k ∧ k ≤ 4) (hl : 1000 < body.size ∨ 65535 < beside.size) : certE p q k body beside = 2 ∧ certS p q k body beside = ⟨#[]⟩ ∧ certR p q k body beside = ⟨#[]⟩ := by
  have hE : certE p q k body beside = 2 := by unfold certE; rw [if_neg (by simpa using h), if_neg (by simpa using hk), if_pos hl]
  exact ⟨hE, cert_no hE (by decide)⟩
theorem cert_ok {p q : ByteArray} {k : Int} {body beside : ByteArray} (h : secE p q = 0) (hk : 1 ≤ k ∧ k ≤ 4) (hl : ¬ (1000 < body.size ∨ 65535 < beside.size)) : certE p q k body beside = 0 ∧ certS p q k body beside = powT (secM p q) (laidW (secM p q).size k (bodyT body) beside) (secD p q) ∧ certR p q k body beside = laidR (secM p q).size (bodyT body) := by
  have hE : certE p q k body beside = 0 := by unfold certE; rw [if_neg (by simpa using h), if_neg (by simpa using hk), if_neg hl]
  exact ⟨hE, cert_yes hE⟩
theorem isKind_any (k : Int) (w : World) : Calls Tryz.prog 25 #[.int .i64 k] w fun e w' => e = .returned (.bool (decide (1 ≤ k) && decide (k ≤ 4))) ∧ w' = w := by
  go_enter Tryz.func25, Tryz.ntmps25
  go_wp2
  all_goals
    go_ret
    exact ⟨by first | rfl | (simp_all; done) | (simp_all; omega), rfl⟩

set_option maxHeartbeats 4000000 in
theorem certify_any (p q : ByteArray) (k : Int) (body beside : ByteArray) (w : World) :
    Calls Tryz.prog 11 #[.agg #[.string p, .string q], .int .i64 k, .string body, .string beside] w fun e w' => e = .returned (.tuple #[.agg #[.string (certS p q k body beside), .string (certR p q k body beside)], .int .i64 (certE p q k body beside)]) ∧ Below w.heap.size w w' := by
  have n0 : ∀ W, Calls Tryz.prog 24 #[.agg #[.string p, .string q]] W fun e w' => ((secE p q ≠ 0 ∧ ∃ v, e = .returned (.tuple #[.string ⟨#[]⟩, v, .int .i64 (secE p q)])) ∨ (secE p q = 0 ∧ ∃ g row, e = .returned (.tuple #[.string (secM p q), .slice (some ⟨g, 0, none⟩) row.length row.length, .int .i64 0]) ∧ URow w' g row ∧ okW row ∧ natW row = secD p q ∧ row.length ≤ 100)) ∧ Below W.heap.size W w' := fun W => (open_any p q W).mono fun e w' h => ⟨open_all h.1, h.2⟩
  have N0 := hide n0
  have N1 := hide (fun W => isKind_any k W)
  obtain ⟨W1, hW1⟩ : ∃ W1, W1 = (w.alloc (.cells #[.string p, .string q] 34)).alloc (.cells #[.string ⟨#[]⟩, .string ⟨#[]⟩] 26) := ⟨_, rfl⟩
  have hB1 : Below w.heap.size w W1 := by rw [hW1]; exact ((Below.refl _ _).alloc (Nat.le_refl _) _).alloc (by simp) _
  have hX1 : W1.heap[w.heap.size]? = some (.cells #[.string p, .string q] 34 (0, 0)) := by
    rw [hW1]
    have h0 := heap_alloc_new w (.cells #[.string p, .string q] 34)
    exact (((Below.refl _ _).alloc (Nat.le_refl _) (.cells #[.string ⟨#[]⟩, .string ⟨#[]⟩] 26) : Below (w.alloc (.cells #[.string p, .string q] 34)).heap.size (w.alloc (.cells #[.string p, .string q] 34)) _).block _ (by simp)).trans h0
  have hX2 : W1.heap[w.heap.size + 1]? = some (.cells #[.string ⟨#[]⟩, .string ⟨#[]⟩] 26 (0, 0)) := by
    rw [hW1]
    have h0 := heap_alloc_new (w.alloc (.cells #[.string p, .string q] 34)) (.cells #[.string ⟨#[]⟩, .string ⟨#[]⟩] 26)
    rw [show (w.alloc (.cells #[.string p, .string q] 34)).heap.size = w.heap.size + 1 by simp] at h0
    exact h0
  have hl1 : w.heap.size + 1 < W1.heap.size := by rw [hW1]; simp
  have hX : ∀ W, Below W1.heap.size W1 W → W.heap[w.heap.size + 1]? = some (.cells #[.string ⟨#[]⟩, .string ⟨#[]⟩] 26 (0, 0)) := fun W hb => (hb.block _ hl1).trans hX2
  have c0 : W1.cell? ⟨w.heap.size, 0, none⟩ = some (.string p) := cell_of_row _ _ 0 _ _ _ hX1
  have c1 : W1.cell? ⟨w.heap.size, 1, none⟩ = some (.string q) := cell_of_row _ _ 1 _ _ _ hX1
  have hW : ∀ (W : World) (x y : ByteArray) (v : Value) (er : Int), v = .tuple #[.agg #[.string x, .string y], .int .i64 er] → Below W1.heap.size W1 W → Below w.heap.size w ((W.setCell ⟨w.heap.size + 1, 0, none⟩ (.string x)).setCell ⟨w.heap.size + 1, 1, none⟩ (.string y)) ∧ ((W.setCell ⟨w.heap.size + 1, 0, none⟩ (.string x)).setCell ⟨w.heap.size + 1, 1, none⟩ (.string y)).cell? ⟨w.heap.size + 1, 0, none⟩ = some (.string x) ∧ ((W.setCell ⟨w.heap.size + 1, 0, none⟩ (.string x)).setCell ⟨w.heap.size + 1, 1, none⟩ (.string y)).cell? ⟨w.heap.size + 1, 1, none⟩ = some (.string y) := fun W x y v er hv hb => by
    have h := hX W hb
    have k := hB1.trans (hb.mono hB1.size)
    refine ⟨(k.setCell (p := ⟨w.heap.size + 1, 0, none⟩) (Nat.le_succ _) _).setCell (p := ⟨w.heap.size + 1, 1, none⟩) (Nat.le_succ _) _, ?_, ?_⟩
    · rw [cell_of_row _ _ 0 _ _ _ (set_rowM (set_rowM h))]; rfl
    · rw [cell_of_row _ _ 1 _ _ _ (set_rowM (set_rowM h))]; rfl
  have hfz : ∀ W, Below W1.heap.size W1 W → W.frozen? ⟨w.heap.size + 1, 0, none⟩ = false ∧ W.frozen? ⟨w.heap.size + 1, 1, none⟩ = false ∧ W.cell? ⟨w.heap.size + 1, 0, none⟩ = some (.string ⟨#[]⟩) ∧ W.cell? ⟨w.heap.size + 1, 1, none⟩ = some (.string ⟨#[]⟩) := fun W hb => by
    have h := hX W hb
    exact ⟨by simp [World.frozen?, h], by simp [World.frozen?, h], cell_of_row _ _ 0 _ _ _ h, cell_of_row _ _ 1 _ _ _ h⟩
  have HX := hide hX; have HW := hide hW; have HF := hide hfz; have HW1 := hide hW1; have HB1 := hide hB1
  clear hX hW hfz hW1 hX1 hX2 hl1 n0 hB1
  have C1 := hide (fun h => cert_secE (p := p) (q := q) (k := k) (body := body) (beside := beside) h)
  have C2 := hide (fun h hk => cert_kind (p := p) (q := q) (k := k) (body := body) (beside := beside) h hk)
  have C3 := hide (fun h hk hl => cert_long (p := p) (q := q) (k := k) (body := body) (beside := beside) h hk hl)
  have C4 := hide (fun h hk hl => cert_ok (p := p) (q := q) (k := k) (body := body) (beside := beside) h hk hl)
  have HP := hide (fun (h : secE p q = 0) => powE_laid (secE_isMod h) k (bodyT body) beside)
  have HMz := hide (fun (h : secE p q = 0) => secM_size h)
  generalize certE p q k body beside = ce at *
  generalize certS p q k body beside = cs at *
  generalize certR p q k body beside = cr at *
  generalize secE p q = se at *
  generalize secM p q = sm at *
  generalize secD p q = sd at *
  go_enter Tryz.func11, Tryz.ntmps11
  go_upto_region 1 with fail
  rw [← unhide HW1]
  go_wp2_with fail
  refine (unhide N0 _).mono ?_
  rintro e y ⟨hc, k1⟩
  clear c0 c1
  have K1 := hide k1
  obtain ⟨f0, f1, f2, f3⟩ := unhide HF y k1
  rcases hc with ⟨hne, v, rfl⟩ | ⟨h0, g, row, rfl, hU, ho, hn, hl⟩
  · obtain ⟨rfl, rfl, rfl⟩ := unhide C1 hne
    have t1 : (ce != 0) = true := by simpa using hne
    obtain ⟨q1, q2, q3⟩ := unhide HW y ⟨#[]⟩ ⟨#[]⟩ _ ce rfl k1
    have HQ := hide q1
    clear hne k1 q1 C1 C2 C3 C4 HP HMz
    go_wp2
    exact bodyPost_ret (v := .tuple #[.agg #[.string ⟨#[]⟩, .string ⟨#[]⟩], .int .i64 ce]) (by simp [results, Tryz.results11, go_sem, q2, q3]) rfl ⟨rfl, unhide HQ⟩
  · have hna : NumAt y g 0 row := by have := hU.numAt 0; rw [List.drop_zero] at this; exact this
    have HNA := hide hna
    have HO := hide ho
    have HN := hide hn
    have HL := hide hl
    have C2 := hide (unhide C2 h0)
    have C3 := hide (unhide C3 h0)
    have C4 := hide (unhide C4 h0)
    have HP := hide (unhide HP h0)
    have hmz := unhide HMz h0
    clear h0 hU ho hn hl hna HMz C1
    by_cases hk : 1 ≤ k ∧ k ≤ 4
    case neg =>
      obtain ⟨rfl, rfl, rfl⟩ := unhide C2 hk
      have hkf : (decide (1 ≤ k) && decide (k ≤ 4)) = false := by
        rw [Bool.eq_false_iff]; simp; intro h; omega
      rw [hkf] at N1
      obtain ⟨q1, q2, q3⟩ := unhide HW y ⟨#[]⟩ ⟨#[]⟩ _ 4 rfl k1
      have HQ := hide q1
      clear hk hkf k1 q1 C2 C3 C4 HP hmz
      go_wp2_with fail
      refine (unhide N1 _).mono ?_
      rintro e y2 ⟨rfl, hy⟩
      have hy' := hy.symm
      subst hy'
      go_wp2
      exact bodyPost_ret (v := .tuple #[.agg #[.string ⟨#[]⟩, .string ⟨#[]⟩], .int .i64 4]) (by simp [results, Tryz.results11, go_sem, q2, q3]) rfl ⟨rfl, unhide HQ⟩
    case pos =>
    have hkt : (decide (1 ≤ k) && decide (k ≤ 4)) = true := by simp; omega
    rw [hkt] at N1
    by_cases hlong : 1000 < body.size ∨ 65535 < beside.size
    case pos =>
      obtain ⟨rfl, rfl, rfl⟩ := unhide C3 hk hlong
      obtain ⟨q1, q2, q3⟩ := unhide HW y ⟨#[]⟩ ⟨#[]⟩ _ 2 rfl k1
      have HQ := hide q1
      have hcs : Hid ((1000 : Int) < (body.size : Int) ∨ ((body.size : Int) ≤ 1000 ∧ (65535 : Int) < (beside.size : Int))) := hide (by omega)
      clear hk hkt k1 q1 C2 C3 C4 HP hmz hlong
      go_wp2_with fail
      refine (unhide N1 _).mono ?_
      rintro e y2 ⟨rfl, hy⟩
      have hy' := hy.symm
      subst hy'
      rcases unhide hcs with hc | ⟨hc, hc2⟩
      · clear hcs
        go_wp2
        exact bodyPost_ret (v := .tuple #[.agg #[.string ⟨#[]⟩, .string ⟨#[]⟩], .int .i64 2]) (by simp [results, Tryz.results11, go_sem, q2, q3]) rfl ⟨rfl, unhide HQ⟩
      · clear hcs
        go_wp2
        exact bodyPost_ret (v := .tuple #[.agg #[.string ⟨#[]⟩, .string ⟨#[]⟩], .int .i64 2]) (by simp [results, Tryz.results11, go_sem, q2, q3]) rfl ⟨rfl, unhide HQ⟩
    case neg =>
    obtain ⟨rfl, hcs, hcr⟩ := unhide C4 hk hlong
    have n3 := fun W => layOut_any sm.size k body beside W (by omega) (by omega) (by omega) (by omega)
    have h1 : (body.size : Int) ≤ 1000 := by omega
    have h2 : (beside.size : Int) ≤ 65535 := by omega
    have HPE := unhide HP
    have n4 := fun W (h : NumAt W g 0 row) => cpower_any sm (laidW sm.size k (bodyT body) beside) row g 0 row.length W h (unhide HO) (by have := unhide HL; omega)
    rw [HPE, unhide HN, ← hcs] at n4
    rw [← hcr] at n3
    generalize laidW sm.size k (bodyT body) beside = lw at *
    have N3 := hide n3; have N4 := hide n4
    clear hk hkt C2 C3 C4 HP hmz hlong hcs hcr n3 n4 HPE HO HN HL f0 f1 f2 f3
    go_wp2_with fail
    refine (unhide N1 _).mono ?_
    rintro e y2 ⟨rfl, hy⟩
    have hy' := hy.symm
    subst hy'
    go_wp2_with fail
    refine (unhide N3 _).mono ?_
    rintro e y3 ⟨rfl, k3⟩
    have HNA3 := hide ((unhide HNA).below k3)
    have K3 := hide (ext_callB (unhide K1) k3)
    clear k1 k3
    go_wp2_with fail
    refine (unhide N4 _ (unhide HNA3)).mono ?_
    rintro e y4 ⟨rfl, k4⟩
    have k5 := ext_callB (unhide K3) k4
    obtain ⟨f0, f1, f2, f3⟩ := unhide HF y4 k5
    obtain ⟨q1, q2, q3⟩ := unhide HW y4 cs cr _ 0 rfl k5
    have HQ := hide q1
    clear k4 k5 q1
    go_wp2
    exact bodyPost_ret (v := .tuple #[.agg #[.string cs, .string cr], .int .i64 0]) (by simp [results, Tryz.results11, go_sem, q2, q3]) rfl ⟨rfl, unhide HQ⟩
end Go.Proofs.YtckkhpegimkefaaGreatDoor
namespace Go.Proofs.YtckkhpegimkefaaGreatDoor
open Go.RowKit
set_option linter.unusedVariables false
set_option linter.unusedSimpArgs false
set_option maxRecDepth 100000

theorem keep_cellS2 {w w' : World} {a : Addr} {v : Value} (h : Below w.heap.size w w') (hc : w.cell? a = some v) : w'.cell? a = some v := (h.cell (World.block_lt_of_cell? w a hc)).trans hc
theorem drew_cellS2 {w : World} {a : Addr} {v : Value} (hc : w.cell? a = some v) : w.drew.cell? a = some v := hc
theorem ext_drewS2 {W x : World} (h : Below W.heap.size W x) : Below W.heap.size W x.drew := h.drew
theorem rc_kind {m sig rest : ByteArray} {k : Int} {beside : ByteArray} (hk : ¬ (1 ≤ k ∧ k ≤ 4)) : rcE m sig rest k beside = 4 ∧ rcT m sig rest k beside = ⟨#[]⟩ := by
  have hE : rcE m sig rest k beside = 4 := by unfold rcE; rw [if_pos hk]
  exact ⟨hE, by unfold rcT; rw [hE]; rfl⟩
theorem rc_pow {m sig rest : ByteArray} {k : Int} {beside : ByteArray} (hk : 1 ≤ k ∧ k ≤ 4) (h : powE m sig ≠ 0) : rcE m sig rest k beside = powE m sig ∧ rcT m sig rest k beside = ⟨#[]⟩ := by
  have hE : rcE m sig rest k beside = powE m sig := by unfold rcE; rw [if_neg (by simpa using hk), if_pos h]
  exact ⟨hE, by unfold rcT; rw [hE, if_neg h]⟩
theorem rc_false {m sig rest : ByteArray} {k : Int} {beside : ByteArray} (hk : 1 ≤ k ∧ k ≤ 4) (h : powE m sig = 0) (hb : rcB (powT m sig 3) rest k beside = false) : rcE m sig rest k beside = 9 ∧ rcT m sig rest k beside = ⟨#[]⟩ := by
  have hE : rcE m sig rest k beside = 9 := by unfold rcE; rw [if_neg (by simpa using hk), if_neg (by simpa using h), hb]; rfl
  exact ⟨hE, by unfold rcT; rw [hE]; rfl⟩
theorem rc_true {m sig rest : ByteArray} {k : Int} {beside : ByteArray} (hk : 1 ≤ k ∧ k ≤ 4) (h : powE m sig = 0) (hb : rcB (powT m sig 3) rest k beside = true) : rcE m sig rest k beside = 0 ∧ rcT m sig rest k beside = rcBody (powT m sig 3) rest := by
  have hE : rcE m sig rest k beside = 0 := by unfold rcE; rw [if_neg (by simpa using hk), if_neg (by simpa using h), hb]; rfl
  exact ⟨hE, by unfold rcT; rw [hE]; rfl⟩
theorem ne_bytes {a b : ByteArray} : (a.toList != b.toList) = !decide (a = b) := by
  by_cases h : a = b
  · subst h; simp
  · rw [decide_eq_false h]
    simp only [Bool.not_false, bne_iff_ne, ne_eq]
    intro he
    rw [Lib.toList_data, Lib.toList_data] at he
    exact h (ByteArray.ext (Array.toList_inj.1 he))
set_option maxHeartbeats 4000000 in
theorem recover_any (m sig rest : ByteArray) (k : Int) (beside : ByteArray) (w : World) (hr : rest.size ≤ 2097152) (hb : beside.size ≤ 2097152) :
    Calls Tryz.prog 12 #[.string m, .int .i64 k, .agg #[.string sig, .string rest], .string beside] w fun e w' => e = .returned (.tuple #[.string (rcT m sig rest k beside), .int .i64 (rcE m sig rest k beside)]) ∧ Below w.heap.size w w' := by
  obtain ⟨W1, hW1⟩ : ∃ W1, W1 = w.alloc (.cells #[.string sig, .string rest] 26) := ⟨_, rfl⟩
  have hB1 : Below w.heap.size w W1 := by rw [hW1]; exact (Below.refl _ _).alloc (Nat.le_refl _) _
  have hX1 : W1.heap[w.heap.size]? = some (.cells #[.string sig, .string rest] 26 (0, 0)) := by rw [hW1]; exact heap_alloc_new _ _
  have hl1 : w.heap.size < W1.heap.size := by rw [hW1]; simp
  have hc : ∀ W, Below W1.heap.size W1 W → W.cell? ⟨w.heap.size, 0, none⟩ = some (.string sig) ∧ W.cell? ⟨w.heap.size, 1, none⟩ = some (.string rest) := fun W hb => by
    have hx := (hb.block _ hl1).trans hX1
    exact ⟨cell_of_row _ _ 0 _ _ _ hx, cell_of_row _ _ 1 _ _ _ hx⟩
  have HC := hide hc; have HW1 := hide hW1; have HB1 := hide hB1
  obtain ⟨c0, c1⟩ := hc W1 (Below.refl _ _)
  clear hc hW1 hX1 hl1
  have N0 := hide (fun W => isKind_any k W)
  by_cases hk : 1 ≤ k ∧ k ≤ 4
  case neg =>
    obtain ⟨e1, e2⟩ := rc_kind (m := m) (sig := sig) (rest := rest) (beside := beside) hk
    rw [e1, e2]
    have hkf : (decide (1 ≤ k) && decide (k ≤ 4)) = false := by
      rw [Bool.eq_false_iff]; simp; intro h; omega
    rw [hkf] at N0
    clear hk hkf e1 e2 hB1 c0 c1
    go_enter Tryz.func12, Tryz.ntmps12
    go_upto_region 1 with fail
    rw [← unhide HW1]
    go_wp2_with fail
    refine (unhide N0 _).mono ?_
    rintro e y ⟨rfl, hy⟩
    have hy' := hy.symm
    subst hy'
    clear hy
    go_wp2
    go_ret2
    exact ⟨rfl, unhide HB1⟩
  have hkt : (decide (1 ≤ k) && decide (k ≤ 4)) = true := by simp; omega
  rw [hkt] at N0
  have N1 := hide (fun W => raise_any m sig W)
  obtain ⟨RE, hRE⟩ : ∃ x, x = rcE m sig rest k beside := ⟨_, rfl⟩
  obtain ⟨RT, hRT⟩ : ∃ x, x = rcT m sig rest k beside := ⟨_, rfl⟩
  rw [← hRE, ← hRT]
  have HP : Hid (powE m sig ≠ 0 → RE = powE m sig ∧ RT = ⟨#[]⟩) := hide (fun h => by rw [hRE, hRT]; exact rc_pow hk h)
  have HNo : Hid (powE m sig = 0 → rcB (powT m sig 3) rest k beside = false → RE = 9 ∧ RT = ⟨#[]⟩) := hide (fun h hb => by rw [hRE, hRT]; exact rc_false hk h hb)
  have HYes : Hid (powE m sig = 0 → rcB (powT m sig 3) rest k beside = true → RE = 0 ∧ RT = rcBody (powT m sig 3) rest) := hide (fun h hb => by rw [hRE, hRT]; exact rc_true hk h hb)
  have HLen := hide (fun h => powT_len (m := m) (x := sig) (d := 3) h)
  clear hRE hRT hB1 hk hkt
  generalize powE m sig = pe at *
  generalize powT m sig 3 = x at *
  go_enter Tryz.func12, Tryz.ntmps12
  go_upto_region 1 with fail
  rw [← unhide HW1]
  go_wp2_with fail
  refine (unhide N0 _).mono ?_
  rintro e y ⟨rfl, hy⟩
  have hy' := hy.symm
  subst hy'
  clear hy
  go_wp2_with fail
  refine (unhide N1 _).mono ?_
  rintro e y ⟨rfl, k1⟩
  clear N0 N1 c0 c1
  obtain ⟨c0, c1⟩ := unhide HC y k1
  have K1 := hide k1
  have HF := hide ((unhide HB1).trans (k1.mono (unhide HB1).size))
  clear k1
  by_cases h0 : pe = 0
  case neg =>
    obtain ⟨rfl, rfl⟩ := unhide HP h0
    have t1 : (RE != 0) = true := by simpa using h0
    clear HP HNo HYes HLen h0
    go_wp2
    go_ret2
    exact ⟨rfl, unhide HF⟩
  case pos =>
  subst h0
  obtain ⟨hxm, hm40, hm96⟩ := unhide HLen rfl
  rw [← hxm] at hm40 hm96
  clear hxm HLen HP
  have M1 := hide (fun W => bodyOf_any x rest W hm40 hm96 hr)
  by_cases hbd : bdB x rest = true
  case neg =>
    have hbf : bdB x rest = false := by simpa using hbd
    obtain ⟨rfl, rfl⟩ := unhide HNo (by first | rfl | trivial) (by
      cases hq : rcB x rest k beside with
      | false => rfl
      | true => exact absurd (rc_bd hm40 hq) hbd)
    rw [hbf] at M1
    clear HNo HYes hbd hbf hm40 hm96
    go_wp2_with fail
    refine (unhide M1 _).mono ?_
    rintro e z ⟨rfl, k2⟩
    have HF2 := hide ((unhide HB1).trans ((ext_callB (unhide K1) k2).mono (unhide HB1).size))
    clear k2 c0 c1
    go_wp2
    go_ret2
    exact ⟨rfl, unhide HF2⟩
  case pos =>
  rw [hbd] at M1
  have hcc := bd_rc hm40 hbd
  have hrb := rc_same (k := k) (beside := beside) hcc
  have L1 := hide (fun W => layOut_any x.size k (rcBody x rest) beside W (by omega) (by omega) (by rw [rcBody_size hcc.2]; exact hcc.1) hb)
  have HRB := hide hrb
  clear hrb hcc hbd hm40 hm96 hr hb
  simp only [cond_true] at M1
  generalize rcBody x rest = body at *
  generalize laidW x.size k (bodyT body) beside = lw at *
  generalize laidR x.size (bodyT body) = lr at *
  go_wp2_with fail
  refine (unhide M1 _).mono ?_
  rintro e z ⟨rfl, k2⟩
  have hk2 := ext_callB (unhide K1) k2
  clear c0 c1 k2 K1
  obtain ⟨c0, c1⟩ := unhide HC z hk2
  have K2 := hide hk2
  clear hk2
  go_wp2_with fail
  refine (unhide L1 _).mono ?_
  rintro e z3 ⟨rfl, k3⟩
  have hk3 := ext_callB (unhide K2) k3
  clear c0 c1 k3 K2
  obtain ⟨c0, c1⟩ := unhide HC z3 hk3
  have HF2 := hide ((unhide HB1).trans (hk3.mono (unhide HB1).size))
  clear hk3 HC HB1 HW1 HF M1 L1
  by_cases hw : lw = x
  case neg =>
    have t1 : (lw.toList != x.toList) = true := by rw [ne_bytes, decide_eq_false hw]; rfl
    obtain ⟨rfl, rfl⟩ := unhide HNo (by first | rfl | trivial) (by rw [unhide HRB, decide_eq_false hw]; rfl)
    clear HNo HYes HRB hw
    go_wp2
    all_goals first | (exfalso; simp_all; done) | (go_ret2; exact ⟨rfl, unhide HF2⟩)
  case pos =>
    have t1 : (lw.toList != x.toList) = false := by rw [ne_bytes, decide_eq_true hw]; rfl
    by_cases hlr : lr = rest
    case neg =>
      have t2 : (lr.toList != rest.toList) = true := by rw [ne_bytes, decide_eq_false hlr]; rfl
      obtain ⟨rfl, rfl⟩ := unhide HNo (by first | rfl | trivial) (by rw [unhide HRB, decide_eq_false hlr, Bool.and_false])
      clear HNo HYes HRB hw hlr
      go_wp2
      all_goals first | (exfalso; simp_all; done) | (go_ret2; exact ⟨rfl, unhide HF2⟩)
    case pos =>
      have t2 : (lr.toList != rest.toList) = false := by rw [ne_bytes, decide_eq_true hlr]; rfl
      obtain ⟨rfl, rfl⟩ := unhide HYes (by first | rfl | trivial) (by rw [unhide HRB, decide_eq_true hlr, decide_eq_true hw]; rfl)
      clear HNo HYes HRB hw hlr
      go_wp2
      all_goals first | (exfalso; simp_all; done) | (go_ret2; exact ⟨rfl, unhide HF2⟩)
end Go.Proofs.YtckkhpegimkefaaGreatDoor
