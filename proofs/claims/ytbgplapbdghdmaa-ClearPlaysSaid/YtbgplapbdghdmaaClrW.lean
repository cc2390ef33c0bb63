/- clear, the document's own: On. -/
import Derived.Test.YtbgplapbdghdmaaClrV
namespace Go.Proofs.Ytbgplapbdghdmaa
open Go.RowKit
set_option linter.unusedVariables false
set_option linter.unusedSimpArgs false
set_option maxRecDepth 100000

/-- the box of a case -/
def XB (w : World) (g : Nat) (c : Cse) : Prop := w.heap[g]? = some (.cells #[.int .i64 c.st, .int .i64 c.since, .int .i64 c.disp, .int .i64 c.paid] 49 (0, 0))
theorem XB.cells {w : World} {g : Nat} {c : Cse} (h : XB w g c) : w.cell? ⟨g, 0, none⟩ = some (.int .i64 c.st) ∧ w.cell? ⟨g, 1, none⟩ = some (.int .i64 c.since) ∧ w.cell? ⟨g, 2, none⟩ = some (.int .i64 c.disp) ∧ w.cell? ⟨g, 3, none⟩ = some (.int .i64 c.paid) ∧ (∀ i, w.frozen? ⟨g, i, none⟩ = false) := by
  unfold XB at h
  refine ⟨?_, ?_, ?_, ?_, fun i => ?_⟩ <;> simp [World.cell?, World.frozen?, h]
theorem XB.of_block {w w' : World} {g : Nat} {c : Cse} (h : XB w g c) (k : w'.heap[g]? = w.heap[g]?) : XB w' g c := k.trans h
theorem XB.lt {w : World} {g : Nat} {c : Cse} (h : XB w g c) : g < w.heap.size := blk_lt h
theorem XB.drew {w : World} {g : Nat} {c : Cse} (h : XB w g c) : XB w.drew g c := h
theorem XB.drewN {w : World} {g : Nat} {c : Cse} (h : XB w g c) (q : Nat) : XB (w.drewN q) g c := h
theorem XB.alloc {w : World} {g : Nat} {c : Cse} (h : XB w g c) (o : Obj) : XB (w.alloc o) g c := h.of_block (Below.heap_alloc _ _ _ h.lt)
theorem XB.st {w : World} {g : Nat} {c : Cse} (h : XB w g c) (v : Int) : XB (w.setCell ⟨g, 0, none⟩ (.int .i64 v)) g { c with st := v } := by unfold XB at *; simp [World.setCell, Array.getElem?_modify, h]
theorem XB.since {w : World} {g : Nat} {c : Cse} (h : XB w g c) (v : Int) : XB (w.setCell ⟨g, 1, none⟩ (.int .i64 v)) g { c with since := v } := by unfold XB at *; simp [World.setCell, Array.getElem?_modify, h]
theorem XB.disp {w : World} {g : Nat} {c : Cse} (h : XB w g c) (v : Int) : XB (w.setCell ⟨g, 2, none⟩ (.int .i64 v)) g { c with disp := v } := by unfold XB at *; simp [World.setCell, Array.getElem?_modify, h]
theorem XB.paid {w : World} {g : Nat} {c : Cse} (h : XB w g c) (v : Int) : XB (w.setCell ⟨g, 3, none⟩ (.int .i64 v)) g { c with paid := v } := by unfold XB at *; simp [World.setCell, Array.getElem?_modify, h]
theorem XB.other {w : World} {g : Nat} {c : Cse} (h : XB w g c) {a : Addr} (ha : g ≠ a.block) (v : Value) : XB (w.setCell a v) g c := h.of_block (Below.heap_setCell _ _ _ _ ha)
/-- bounds behind k deeds -/
def bndC (k : Nat) (x : Cse) : Prop := -3000000000000 * ((k : Int) + 1) ≤ x.paid ∧ x.paid ≤ 3000000000000 * ((k : Int) + 1) ∧ 0 ≤ x.disp ∧ x.disp ≤ 999999999999
theorem bnd_deed {D : Dys} {k : Nat} {x : Cse} {d : Ded} (hD : daysBad D = false) (h : bndC k x) (hd : 0 ≤ d.amt ∧ d.amt ≤ 999999999999) : bndC (k + 1) (deed1 D x d) := by
  have hf := of_decide_eq_false hD
  unfold bndC at *
  unfold deed1
  obtain ⟨h1, h2, h3, h4⟩ := h
  have e : (((k + 1 : Nat) : Int) + 1) = (k : Int) + 1 + 1 := by omega
  rw [e]
  split
  · exact ⟨by show _ ≤ x.paid - d.amt; omega, by show x.paid - d.amt ≤ _; omega, hd.1, hd.2⟩
  split
  · exact ⟨by show _ ≤ x.paid + x.disp; omega, by show x.paid + x.disp ≤ _; omega, h3, h4⟩
  split
  · exact ⟨by show _ ≤ x.paid; omega, by show x.paid ≤ _; omega, h3, h4⟩
  split
  · exact ⟨by show _ ≤ x.paid + D.fee; omega, by show x.paid + D.fee ≤ _; omega, h3, h4⟩
  split
  · exact ⟨by show _ ≤ x.paid - x.disp - D.fee; omega, by show x.paid - x.disp - D.fee ≤ _; omega, h3, h4⟩
  · exact ⟨by show _ ≤ x.paid; omega, by show x.paid ≤ _; omega, h3, h4⟩
theorem fold_take {D : Dys} {p : Pst} {ds : List Ded} {k : Nat} {d : Ded} (h : ds[k]? = some d) : fromD D p (ds.take (k + 1)) = deed1 D (fromD D p (ds.take k)) d := by
  obtain ⟨hk, rfl⟩ := List.getElem?_eq_some_iff.1 h
  rw [List.take_succ_eq_append_getElem hk, fromD_snoc]
set_option maxHeartbeats 4000000 in
theorem rOn_loop (r g i : Nat) (D : Dys) (t day : Int) (vL vO dv : Value) (p : Pst) (ds : List Ded) (w : World) (h : RB w r D vL t vO) (hD : daysBad D = false)
    (k4 : w.cell? ⟨g, i * 7 + 4, none⟩ = some (.int .i64 p.amt)) (k5 : w.cell? ⟨g, i * 7 + 5, none⟩ = some (.int .i64 p.day)) (k6 : w.cell? ⟨g, i * 7 + 6, none⟩ = some dv) (hg : g < w.heap.size)
    (hdv : OwnR w 0 60 3 cellsDd dv ds) (hl : ds.length ≤ 4) (hds : ∀ d ∈ ds, 0 ≤ d.amt ∧ d.amt ≤ 999999999999) (hp : 0 ≤ p.amt ∧ p.amt ≤ 999999999999) (hday : 0 ≤ day ∧ day ≤ 65535) (hc : okC p (fromD D p ds)) :
    Calls Try.prog 37 #[.pointer (some ⟨r, 0, none⟩), .pointer (some ⟨g, i * 7, none⟩), .int .i64 day] w fun e w' => e = .returned (caseV (onC D (fromD D p ds) day)) ∧ Below w.heap.size w w' := by
  obtain ⟨a0, a1, a2, a3, _, _, _⟩ := h.cells
  have hrl := h.lt
  obtain ⟨⟨ao, cap, hv⟩, hform⟩ := hdv.form
  subst hv
  have hll : (ds.length : Int) ≤ 4 := by omega
  have HD := hide hD; have HV := hide hdv; have HFM := hide hform; have HDS := hide hds; have HP := hide hp; have HC := hide hc; have HL := hide hl
  obtain ⟨res, hres⟩ : ∃ res, res = onC D (fromD D p ds) day := ⟨_, rfl⟩
  rw [← hres]
  have HRES := hide hres
  have hW0 : Below w.heap.size w ((w.alloc (.cells #[.int .i64 0, .int .i64 0, .int .i64 0, .int .i64 0] 49)).alloc (.cells #[.int .i64 1, .int .i64 p.day, .int .i64 0, .int .i64 p.amt] 49)).drew := (((Below.refl w.heap.size w).alloc (Nat.le_refl _) _).alloc (by simp) _).drew
  have hX0 : XB ((w.alloc (.cells #[.int .i64 0, .int .i64 0, .int .i64 0, .int .i64 0] 49)).alloc (.cells #[.int .i64 1, .int .i64 p.day, .int .i64 0, .int .i64 p.amt] 49)).drew (w.heap.size + 1) (startC p) := by
    have := alloc_at (w.alloc (.cells #[.int .i64 0, .int .i64 0, .int .i64 0, .int .i64 0] 49)) (.cells #[.int .i64 1, .int .i64 p.day, .int .i64 0, .int .i64 p.amt] 49)
    rw [show (w.alloc (.cells #[.int .i64 0, .int .i64 0, .int .i64 0, .int .i64 0] 49)).heap.size = w.heap.size + 1 by simp] at this
    exact this
  have hZ0 : XB ((w.alloc (.cells #[.int .i64 0, .int .i64 0, .int .i64 0, .int .i64 0] 49)).alloc (.cells #[.int .i64 1, .int .i64 p.day, .int .i64 0, .int .i64 p.amt] 49)).drew w.heap.size ⟨0, 0, 0, 0⟩ := (XB.alloc (show XB (w.alloc (.cells #[.int .i64 0, .int .i64 0, .int .i64 0, .int .i64 0] 49)) w.heap.size ⟨0, 0, 0, 0⟩ from alloc_at w _) _).drew
  have HF := hide (And.intro hW0 (And.intro hX0 hZ0))
  clear hW0 hX0 hZ0 h hD hdv hform hl hds hp hc hres
  go_enter Try.func37, Try.ntmps37
  go_wp2_with fail
  go_region
  generalize ((w.alloc (.cells #[.int .i64 0, .int .i64 0, .int .i64 0, .int .i64 0] 49)).alloc (.cells #[.int .i64 1, .int .i64 p.day, .int .i64 0, .int .i64 p.amt] 49)).drew = W at *
  obtain ⟨hW, hX, hZ⟩ := unhide HF
  have k6' : W.cell? ⟨g, i * 7 + 6, none⟩ = some (.slice ao ds.length cap) := (hW.cell (p := ⟨g, i * 7 + 6, none⟩) hg).trans k6
  have HW := hide hW; have HX := hide hX; have HZ := hide hZ
  clear hW hX hZ HF k4 k5 k6
  go_wp2
  go_loopw [27] (fun iv wr => ∃ (k : Nat) (x : Cse), k ≤ ds.length ∧ iv = .int .i64 k ∧ x = fromD D p (ds.take k) ∧ bndC k x ∧ XB wr (w.heap.size + 1) x ∧ XB wr w.heap.size ⟨0, 0, 0, 0⟩ ∧ Below w.heap.size w wr) (fun iv _ => ds.length - (intOf iv).toNat)
  case atStart =>
    obtain ⟨p1, p2⟩ := unhide HP
    exact ⟨0, startC p, Nat.zero_le _, rfl, by rw [List.take_zero]; rfl, ⟨by show _ ≤ p.amt; omega, by show p.amt ≤ _; omega, Int.le_refl _, by show (0 : Int) ≤ _; decide⟩, unhide HX, unhide HZ, unhide HW⟩
  case round =>
    obtain ⟨k, x, hk, rfl, hx, hbd, hXB, hZB, hbl⟩ := hrel
    obtain ⟨e0, e1, e2, e3, ef⟩ := hXB.cells
    have ef0 := ef 0; have ef1 := ef 1; have ef2 := ef 2; have ef3 := ef 3
    have hXl := hXB.lt
    have A3 : wr.cell? ⟨r, 3, none⟩ = some (.int .i64 D.fee) := (hbl.cell (p := ⟨r, 3, none⟩) hrl).trans a3
    have hrn : r ≠ w.heap.size + 1 := by omega
    have hrl2 : r < wr.heap.size := by have := hbl.size; omega
    by_cases hlt : k < ds.length
    · obtain ⟨d, hd⟩ : ∃ d, ds[k]? = some d := ⟨_, List.getElem?_eq_getElem hlt⟩
      rcases unhide HFM with hn | ⟨gd, cap', hv, _, hgl⟩
      · rw [hn] at hlt; simp at hlt
      injection hv with hv1 _ hv3
      subst hv1 hv3
      have d0 : wr.cell? ⟨gd, k * 3, none⟩ = some (.int .i64 d.what) := (hbl.cell (p := ⟨gd, k * 3, none⟩) hgl).trans (by have := OwnR.cell cellsDd_len (unhide HV) k d hd 0 (by omega); rw [Nat.add_zero] at this; exact this)
      have d1 : wr.cell? ⟨gd, k * 3 + 1, none⟩ = some (.int .i64 d.day) := (hbl.cell (p := ⟨gd, k * 3 + 1, none⟩) hgl).trans (by rw [OwnR.cell cellsDd_len (unhide HV) k d hd 1 (by omega)]; rfl)
      have d2 : wr.cell? ⟨gd, k * 3 + 2, none⟩ = some (.int .i64 d.amt) := (hbl.cell (p := ⟨gd, k * 3 + 2, none⟩) hgl).trans (by rw [OwnR.cell cellsDd_len (unhide HV) k d hd 2 (by omega)]; rfl)
      have hki : (k : Int) < (ds.length : Int) := by omega
      have hdm := unhide HDS d (List.mem_of_getElem? hd)
      have HBD := hide (bnd_deed (unhide HD) hbd hdm)
      have hx' : deed1 D x d = fromD D p (ds.take (k + 1)) := by rw [fold_take hd, hx]
      have HX' := hide hx'
      have hl4 := unhide HL
      have hfee := of_decide_eq_false (unhide HD)
      unfold bndC at hbd
      have u1 : IntKind.i64.wrap (x.paid - d.amt) = x.paid - d.amt := by rw [IntKind.wrap_i64]; omega
      have u2 : wrap64 (x.paid + x.disp) = x.paid + x.disp := by unfold wrap64; omega
      have u3 : IntKind.i64.wrap (x.paid + D.fee) = x.paid + D.fee := by rw [IntKind.wrap_i64]; omega
      have u4 : IntKind.i64.wrap (x.paid - x.disp) = x.paid - x.disp := by rw [IntKind.wrap_i64]; omega
      have u5 : IntKind.i64.wrap (x.paid - x.disp - D.fee) = x.paid - x.disp - D.fee := by rw [IntKind.wrap_i64]; omega
      have hgl2 : gd < wr.heap.size := by have := hbl.size; omega
      have HXB := hide hXB; have HZB := hide hZB; have HBL := hide hbl
      clear hXB hZB hbl hx hx' hd hdm hbd hl4 hfee ef
      by_cases q1 : d.what = 1
      · have hdd : deed1 D x d = ⟨2, d.day, d.amt, x.paid - d.amt⟩ := by unfold deed1; rw [if_pos q1]
        rw [q1] at d0
        rw [hdd] at HBD HX'
        clear hdd q1
        go_wp2_with fail
        go_region
        all_goals
          go_wp2
          go_roundw
          case rel => exact ⟨k + 1, _, by omega, by go_num, unhide HX', unhide HBD, (by have h0 := unhide HXB; unfold XB at h0 ⊢; simp [World.setCell, World.alloc, World.drew, Array.getElem?_modify, Array.getElem?_push, h0]; try omega), (by have h0 := unhide HZB; unfold XB at h0 ⊢; simp [World.setCell, World.alloc, World.drew, Array.getElem?_modify, Array.getElem?_push, h0]; try omega), (by repeat (first | with_reducible exact unhide HBL | with_reducible refine Below.drew ?_ | with_reducible refine Below.setCell ?_ (by show w.heap.size ≤ w.heap.size + 1; omega) _ | with_reducible refine Below.alloc ?_ (by simp [World.setCell]; omega) _))⟩
          case measure => simp [intOf]; omega
      by_cases q2 : d.what = 2
      · have hdd : deed1 D x d = ⟨3, d.day, x.disp, x.paid + x.disp⟩ := by unfold deed1; rw [if_neg q1, if_pos q2]
        rw [q2] at d0
        rw [hdd] at HBD HX'
        clear hdd q2
        go_wp2
        go_roundw
        case rel => exact ⟨k + 1, _, by omega, by go_num, unhide HX', unhide HBD, (by have h0 := unhide HXB; unfold XB at h0 ⊢; simp [World.setCell, World.alloc, World.drew, Array.getElem?_modify, Array.getElem?_push, h0]; try omega), (by have h0 := unhide HZB; unfold XB at h0 ⊢; simp [World.setCell, World.alloc, World.drew, Array.getElem?_modify, Array.getElem?_push, h0]; try omega), (by repeat (first | with_reducible exact unhide HBL | with_reducible refine Below.drew ?_ | with_reducible refine Below.setCell ?_ (by show w.heap.size ≤ w.heap.size + 1; omega) _ | with_reducible refine Below.alloc ?_ (by simp [World.setCell]; omega) _))⟩
        case measure => simp [intOf]; omega
      by_cases q3 : d.what = 3
      · have hdd : deed1 D x d = ⟨4, d.day, x.disp, x.paid⟩ := by unfold deed1; rw [if_neg q1, if_neg q2, if_pos q3]
        rw [q3] at d0
        rw [hdd] at HBD HX'
        clear hdd q3
        go_wp2
        go_roundw
        case rel => exact ⟨k + 1, _, by omega, by go_num, unhide HX', unhide HBD, (by have h0 := unhide HXB; unfold XB at h0 ⊢; simp [World.setCell, World.alloc, World.drew, Array.getElem?_modify, Array.getElem?_push, h0]; try omega), (by have h0 := unhide HZB; unfold XB at h0 ⊢; simp [World.setCell, World.alloc, World.drew, Array.getElem?_modify, Array.getElem?_push, h0]; try omega), (by repeat (first | with_reducible exact unhide HBL | with_reducible refine Below.drew ?_ | with_reducible refine Below.setCell ?_ (by show w.heap.size ≤ w.heap.size + 1; omega) _ | with_reducible refine Below.alloc ?_ (by simp [World.setCell]; omega) _))⟩
        case measure => simp [intOf]; omega
      by_cases q4 : d.what = 4
      · have hdd : deed1 D x d = ⟨6, d.day, x.disp, x.paid + D.fee⟩ := by unfold deed1; rw [if_neg q1, if_neg q2, if_neg q3, if_pos q4]
        rw [q4] at d0
        rw [hdd] at HBD HX'
        clear hdd q4
        go_wp2_with fail
        go_region
        all_goals
          go_wp2
          go_roundw
          case rel => exact ⟨k + 1, _, by omega, by go_num, unhide HX', unhide HBD, (by have h0 := unhide HXB; unfold XB at h0 ⊢; simp [World.setCell, World.alloc, World.drew, Array.getElem?_modify, Array.getElem?_push, h0]; try omega), (by have h0 := unhide HZB; unfold XB at h0 ⊢; simp [World.setCell, World.alloc, World.drew, Array.getElem?_modify, Array.getElem?_push, h0]; try omega), (by repeat (first | with_reducible exact unhide HBL | with_reducible refine Below.drew ?_ | with_reducible refine Below.setCell ?_ (by show w.heap.size ≤ w.heap.size + 1; omega) _ | with_reducible refine Below.alloc ?_ (by simp [World.setCell]; omega) _))⟩
          case measure => simp [intOf]; omega
      by_cases q5 : d.what = 5
      · have hdd : deed1 D x d = ⟨6, d.day, x.disp, x.paid - x.disp - D.fee⟩ := by unfold deed1; rw [if_neg q1, if_neg q2, if_neg q3, if_neg q4, if_pos q5]
        rw [q5] at d0
        rw [hdd] at HBD HX'
        clear hdd q5
        go_wp2_with fail
        go_region
        all_goals
          go_wp2
          go_roundw
          case rel => exact ⟨k + 1, _, by omega, by go_num, unhide HX', unhide HBD, (by have h0 := unhide HXB; unfold XB at h0 ⊢; simp [World.setCell, World.alloc, World.drew, Array.getElem?_modify, Array.getElem?_push, h0]; try omega), (by have h0 := unhide HZB; unfold XB at h0 ⊢; simp [World.setCell, World.alloc, World.drew, Array.getElem?_modify, Array.getElem?_push, h0]; try omega), (by repeat (first | with_reducible exact unhide HBL | with_reducible refine Below.drew ?_ | with_reducible refine Below.setCell ?_ (by show w.heap.size ≤ w.heap.size + 1; omega) _ | with_reducible refine Below.alloc ?_ (by simp [World.setCell]; omega) _))⟩
          case measure => simp [intOf]; omega
      have hdd : deed1 D x d = ⟨x.st, d.day, x.disp, x.paid⟩ := by unfold deed1; rw [if_neg q1, if_neg q2, if_neg q3, if_neg q4, if_neg q5]
      have b1 : (d.what == 1) = false := by simpa using q1
      have b2 : (d.what == 2) = false := by simpa using q2
      have b3 : (d.what == 3) = false := by simpa using q3
      have b4 : (d.what == 4) = false := by simpa using q4
      have b5 : (d.what == 5) = false := by simpa using q5
      rw [hdd] at HBD HX'
      clear hdd q1 q2 q3 q4 q5
      go_wp2
      go_roundw
      case rel => exact ⟨k + 1, _, by omega, by go_num, unhide HX', unhide HBD, (by have h0 := unhide HXB; unfold XB at h0 ⊢; simp [World.setCell, World.alloc, World.drew, Array.getElem?_modify, Array.getElem?_push, h0]; try omega), (by have h0 := unhide HZB; unfold XB at h0 ⊢; simp [World.setCell, World.alloc, World.drew, Array.getElem?_modify, Array.getElem?_push, h0]; try omega), (by repeat (first | with_reducible exact unhide HBL | with_reducible refine Below.drew ?_ | with_reducible refine Below.setCell ?_ (by show w.heap.size ≤ w.heap.size + 1; omega) _ | with_reducible refine Below.alloc ?_ (by simp [World.setCell]; omega) _))⟩
      case measure => simp [intOf]; omega
    · have hke : k = ds.length := by omega
      have hxe : x = fromD D p ds := by rw [hx, hke, List.take_length]
      have A0 : wr.cell? ⟨r, 0, none⟩ = some (.int .i64 D.di) := (hbl.cell (p := ⟨r, 0, none⟩) hrl).trans a0
      have A1 : wr.cell? ⟨r, 1, none⟩ = some (.int .i64 D.an) := (hbl.cell (p := ⟨r, 1, none⟩) hrl).trans a1
      have A2 : wr.cell? ⟨r, 2, none⟩ = some (.int .i64 D.ins) := (hbl.cell (p := ⟨r, 2, none⟩) hrl).trans a2
      rw [← hxe] at HC HRES
      obtain ⟨hst, hs0, hs1, _⟩ := unhide HC
      have hdb := of_decide_eq_false (unhide HD)
      have hbs : w.heap.size ≤ wr.heap.size := hbl.size
      have hb1 : Below w.heap.size w (wr.alloc (.cells #[.int .i64 0, .int .i64 D.di, .int .i64 D.an, .int .i64 D.ins] 3)).drew := (hbl.alloc hbl.size _).drew
      have hX1 := (hXB.alloc (.cells #[.int .i64 0, .int .i64 D.di, .int .i64 D.an, .int .i64 D.ins] 3)).drew
      have hZ1 := (hZB.alloc (.cells #[.int .i64 0, .int .i64 D.di, .int .i64 D.an, .int .i64 D.ins] 3)).drew
      have hM1 : (wr.alloc (.cells #[.int .i64 0, .int .i64 D.di, .int .i64 D.an, .int .i64 D.ins] 3)).drew.heap[wr.heap.size]? = some (.cells #[.int .i64 0, .int .i64 D.di, .int .i64 D.an, .int .i64 D.ins] 3) := alloc_at wr _
      have HG := hide (And.intro hb1 (And.intro hX1 (And.intro hZ1 hM1)))
      have HXX := hide hxe
      clear hb1 hX1 hZ1 hM1 hXB hZB hbl hx hxe hbd ef hke
      go_wp2_with fail
      go_region
      generalize (wr.alloc (.cells #[.int .i64 0, .int .i64 D.di, .int .i64 D.an, .int .i64 D.ins] 3)).drew = V at *
      obtain ⟨hb1, hX1, hZ1, hM1⟩ := unhide HG
      clear e0 e1 e2 e3 ef0 ef1 ef2 ef3 hXl A3 A0 A1 A2
      obtain ⟨e0, e1, e2, e3, ef⟩ := hX1.cells
      have ef0 := ef 0; have ef1 := ef 1; have ef2 := ef 2; have ef3 := ef 3
      obtain ⟨z0, z1, z2, z3, zf⟩ := hZ1.cells
      have zf0 := zf 0; have zf1 := zf 1; have zf2 := zf 2; have zf3 := zf 3
      have m1 : V.cell? ⟨wr.heap.size, 1, none⟩ = some (.int .i64 D.di) := by simp [World.cell?, hM1]
      have m2 : V.cell? ⟨wr.heap.size, 2, none⟩ = some (.int .i64 D.an) := by simp [World.cell?, hM1]
      have m3 : V.cell? ⟨wr.heap.size, 3, none⟩ = some (.int .i64 D.ins) := by simp [World.cell?, hM1]
      have HBL := hide hb1
      have hXl := hX1.lt
      have u1 : IntKind.i64.wrap (day - x.since) = day - x.since := by rw [IntKind.wrap_i64]; omega
      clear hb1 hX1 hZ1 hM1 HG ef zf
      rcases hst with hst | hst | hst | hst | hst
      · have v1 : IntKind.i64.wrap (D.di + 1) = D.di + 1 := by rw [IntKind.wrap_i64]; omega
        have v2 : IntKind.i64.wrap (x.since + (D.di + 1)) = x.since + (D.di + 1) := by rw [IntKind.wrap_i64]; omega
        have hwt : waitC D x.st = D.di := by rw [hst]; rfl
        by_cases hgo : D.di < day - x.since
        · have HON : Hid (onC D x day = ⟨6, x.since + (D.di + 1), x.disp, x.paid⟩) := hide (by unfold onC; rw [hwt, if_pos (by omega)]; congr 1; omega)
          rw [hst] at e0
          clear hst hwt
          go_wp2_with fail
          go_quiet (fail)
          go_wp2_with fail
          go_region
          all_goals
            go_wp2
            exact bodyPost_ret (v := .agg #[.int .i64 6, .int .i64 (x.since + (D.di + 1)), .int .i64 x.disp, .int .i64 x.paid]) (by simp [results, Try.results37, go_sem, z0, z1, z2, z3]) rfl ⟨by rw [unhide HRES, unhide HON]; rfl, (by repeat (first | with_reducible exact unhide HBL | with_reducible refine Below.drew ?_ | with_reducible refine below_drewN ?_ _ | with_reducible refine Below.setCell ?_ (by first | exact Nat.le_refl _ | exact Nat.le_succ _) _ | with_reducible refine Below.alloc ?_ (by simp [World.setCell]; omega) _))⟩
        · have HON : Hid (onC D x day = ⟨1, x.since, x.disp, x.paid⟩) := hide (by unfold onC; rw [hwt, if_neg (by omega), ← hst])
          rw [hst] at e0
          clear hst hwt
          go_wp2_with fail
          go_quiet (fail)
          go_wp2
          exact bodyPost_ret (v := .agg #[.int .i64 1, .int .i64 x.since, .int .i64 x.disp, .int .i64 x.paid]) (by simp [results, Try.results37, go_sem, z0, z1, z2, z3]) rfl ⟨by rw [unhide HRES, unhide HON]; rfl, (by repeat (first | with_reducible exact unhide HBL | with_reducible refine Below.drew ?_ | with_reducible refine below_drewN ?_ _ | with_reducible refine Below.setCell ?_ (by first | exact Nat.le_refl _ | exact Nat.le_succ _) _ | with_reducible refine Below.alloc ?_ (by simp [World.setCell]; omega) _))⟩
      · have v1 : IntKind.i64.wrap (D.an + 1) = D.an + 1 := by rw [IntKind.wrap_i64]; omega
        have v2 : IntKind.i64.wrap (x.since + (D.an + 1)) = x.since + (D.an + 1) := by rw [IntKind.wrap_i64]; omega
        have hwt : waitC D x.st = D.an := by rw [hst]; rfl
        by_cases hgo : D.an < day - x.since
        · have HON : Hid (onC D x day = ⟨6, x.since + (D.an + 1), x.disp, x.paid⟩) := hide (by unfold onC; rw [hwt, if_pos (by omega)]; congr 1; omega)
          rw [hst] at e0
          clear hst hwt
          go_wp2_with fail
          go_quiet (fail)
          go_wp2_with fail
          go_region
          all_goals
            go_wp2
            exact bodyPost_ret (v := .agg #[.int .i64 6, .int .i64 (x.since + (D.an + 1)), .int .i64 x.disp, .int .i64 x.paid]) (by simp [results, Try.results37, go_sem, z0, z1, z2, z3]) rfl ⟨by rw [unhide HRES, unhide HON]; rfl, (by repeat (first | with_reducible exact unhide HBL | with_reducible refine Below.drew ?_ | with_reducible refine below_drewN ?_ _ | with_reducible refine Below.setCell ?_ (by first | exact Nat.le_refl _ | exact Nat.le_succ _) _ | with_reducible refine Below.alloc ?_ (by simp [World.setCell]; omega) _))⟩
        · have HON : Hid (onC D x day = ⟨2, x.since, x.disp, x.paid⟩) := hide (by unfold onC; rw [hwt, if_neg (by omega), ← hst])
          rw [hst] at e0
          clear hst hwt
          go_wp2_with fail
          go_quiet (fail)
          go_wp2
          exact bodyPost_ret (v := .agg #[.int .i64 2, .int .i64 x.since, .int .i64 x.disp, .int .i64 x.paid]) (by simp [results, Try.results37, go_sem, z0, z1, z2, z3]) rfl ⟨by rw [unhide HRES, unhide HON]; rfl, (by repeat (first | with_reducible exact unhide HBL | with_reducible refine Below.drew ?_ | with_reducible refine below_drewN ?_ _ | with_reducible refine Below.setCell ?_ (by first | exact Nat.le_refl _ | exact Nat.le_succ _) _ | with_reducible refine Below.alloc ?_ (by simp [World.setCell]; omega) _))⟩
      · have v1 : IntKind.i64.wrap (D.ins + 1) = D.ins + 1 := by rw [IntKind.wrap_i64]; omega
        have v2 : IntKind.i64.wrap (x.since + (D.ins + 1)) = x.since + (D.ins + 1) := by rw [IntKind.wrap_i64]; omega
        have hwt : waitC D x.st = D.ins := by rw [hst]; rfl
        by_cases hgo : D.ins < day - x.since
        · have HON : Hid (onC D x day = ⟨6, x.since + (D.ins + 1), x.disp, x.paid⟩) := hide (by unfold onC; rw [hwt, if_pos (by omega)]; congr 1; omega)
          rw [hst] at e0
          clear hst hwt
          go_wp2_with fail
          go_quiet (fail)
          go_wp2_with fail
          go_region
          all_goals
            go_wp2
            exact bodyPost_ret (v := .agg #[.int .i64 6, .int .i64 (x.since + (D.ins + 1)), .int .i64 x.disp, .int .i64 x.paid]) (by simp [results, Try.results37, go_sem, z0, z1, z2, z3]) rfl ⟨by rw [unhide HRES, unhide HON]; rfl, (by repeat (first | with_reducible exact unhide HBL | with_reducible refine Below.drew ?_ | with_reducible refine below_drewN ?_ _ | with_reducible refine Below.setCell ?_ (by first | exact Nat.le_refl _ | exact Nat.le_succ _) _ | with_reducible refine Below.alloc ?_ (by simp [World.setCell]; omega) _))⟩
        · have HON : Hid (onC D x day = ⟨3, x.since, x.disp, x.paid⟩) := hide (by unfold onC; rw [hwt, if_neg (by omega), ← hst])
          rw [hst] at e0
          clear hst hwt
          go_wp2_with fail
          go_quiet (fail)
          go_wp2
          exact bodyPost_ret (v := .agg #[.int .i64 3, .int .i64 x.since, .int .i64 x.disp, .int .i64 x.paid]) (by simp [results, Try.results37, go_sem, z0, z1, z2, z3]) rfl ⟨by rw [unhide HRES, unhide HON]; rfl, (by repeat (first | with_reducible exact unhide HBL | with_reducible refine Below.drew ?_ | with_reducible refine below_drewN ?_ _ | with_reducible refine Below.setCell ?_ (by first | exact Nat.le_refl _ | exact Nat.le_succ _) _ | with_reducible refine Below.alloc ?_ (by simp [World.setCell]; omega) _))⟩
      · have hwt : waitC D x.st = 65535 := by rw [hst]; rfl
        have HON : Hid (onC D x day = ⟨4, x.since, x.disp, x.paid⟩) := hide (by unfold onC; rw [hwt, if_neg (by omega), ← hst])
        rw [hst] at e0
        clear hst hwt
        go_wp2_with fail
        go_quiet (fail)
        go_wp2
        exact bodyPost_ret (v := .agg #[.int .i64 4, .int .i64 x.since, .int .i64 x.disp, .int .i64 x.paid]) (by simp [results, Try.results37, go_sem, z0, z1, z2, z3]) rfl ⟨by rw [unhide HRES, unhide HON]; rfl, (by repeat (first | with_reducible exact unhide HBL | with_reducible refine Below.drew ?_ | with_reducible refine below_drewN ?_ _ | with_reducible refine Below.setCell ?_ (by first | exact Nat.le_refl _ | exact Nat.le_succ _) _ | with_reducible refine Below.alloc ?_ (by simp [World.setCell]; omega) _))⟩
      · have hwt : waitC D x.st = 65535 := by rw [hst]; rfl
        have HON : Hid (onC D x day = ⟨6, x.since, x.disp, x.paid⟩) := hide (by unfold onC; rw [hwt, if_neg (by omega), ← hst])
        rw [hst] at e0
        clear hst hwt
        go_wp2_with fail
        go_quiet (fail)
        go_wp2
        exact bodyPost_ret (v := .agg #[.int .i64 6, .int .i64 x.since, .int .i64 x.disp, .int .i64 x.paid]) (by simp [results, Try.results37, go_sem, z0, z1, z2, z3]) rfl ⟨by rw [unhide HRES, unhide HON]; rfl, (by repeat (first | with_reducible exact unhide HBL | with_reducible refine Below.drew ?_ | with_reducible refine below_drewN ?_ _ | with_reducible refine Below.setCell ?_ (by first | exact Nat.le_refl _ | exact Nat.le_succ _) _ | with_reducible refine Below.alloc ?_ (by simp [World.setCell]; omega) _))⟩
end Go.Proofs.Ytbgplapbdghdmaa
