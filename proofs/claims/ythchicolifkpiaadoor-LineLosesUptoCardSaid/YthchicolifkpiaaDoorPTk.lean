/- The program's end: Take; New. -/
import Derived.Test.YthchicolifkpiaaDoorPHear
import Derived.Test.YthchicolifkpiaaDoorRGot
namespace Go.Proofs.YthchicolifkpiaaDoor
open Go.RowKit Go.Lib
set_option linter.unusedVariables false

/-- what is sent, by the program -/
def sentP (T : List ByteArray) (k : Nat) (turn aw : Int) (due : Bool) : ByteArray :=
  if due then fText turn aw (pcAt (T.headD ByteArray.empty) k).2 true (pcAt (T.headD ByteArray.empty) k).1 else fText 0 aw false false ByteArray.empty
def dueP (T : List ByteArray) (pause : Int) : Bool := decide (T ≠ []) && decide (pause = 0)
def takeQ (w : World) (b base : Nat) (T : List ByteArray) (k : Nat) (turn pause aw : Int) (owed : Bool) (part : ByteArray) (lost : Bool) (got : List ByteArray) (tv pv gv : Value) (e : Ending) (w' : World) : Prop :=
  (dueP T pause = false ∧ owed = false ∧ e = .returned (.slice none 0 0) ∧ PAt w' b base T ((32 * k : Nat) : Int) turn pause aw owed part lost got tv pv gv ∧ StepP b w w' tv pv gv tv pv gv) ∨
  ((dueP T pause = true ∨ owed = true) ∧ ∃ g, e = .returned (.slice (some ⟨g, 0, none⟩) 1 1) ∧ g < w'.heap.size ∧ w.heap.size ≤ g ∧ w'.cell? ⟨g, 0, none⟩ = some (.string (sentP T k turn aw (dueP T pause))) ∧
    PAt w' b base T ((32 * k : Nat) : Int) turn (if dueP T pause then 4 else pause) aw false part lost got tv pv gv ∧ StepP b w w' tv pv gv tv pv gv)
theorem takeQ_none {w w' : World} {b base : Nat} {T : List ByteArray} {k : Nat} {turn pause aw : Int} {part : ByteArray} {lost : Bool} {got : List ByteArray} {tv pv gv : Value} (hd : dueP T pause = false) (hp : PAt w' b base T ((32 * k : Nat) : Int) turn pause aw false part lost got tv pv gv) (hs : StepP b w w' tv pv gv tv pv gv) :
    takeQ w b base T k turn pause aw false part lost got tv pv gv (.returned (.slice none 0 0)) w' := .inl ⟨hd, rfl, rfl, hp, hs⟩
theorem takeQ_some {w w' : World} {b base g : Nat} {T : List ByteArray} {k : Nat} {turn pause pause' aw : Int} {owed : Bool} {part : ByteArray} {lost : Bool} {got : List ByteArray} {tv pv gv : Value} (hd : dueP T pause = true ∨ owed = true) (hpa : pause' = if dueP T pause then 4 else pause) (h1 : g < w'.heap.size) (h2 : w.heap.size ≤ g) (h3 : w'.cell? ⟨g, 0, none⟩ = some (.string (sentP T k turn aw (dueP T pause)))) (hp : PAt w' b base T ((32 * k : Nat) : Int) turn pause' aw false part lost got tv pv gv) (hs : StepP b w w' tv pv gv tv pv gv) :
    takeQ w b base T k turn pause aw owed part lost got tv pv gv (.returned (.slice (some ⟨g, 0, none⟩) 1 1)) w' := .inr ⟨hd, g, rfl, h1, h2, h3, hpa ▸ hp, hs⟩
theorem PAt.aside {w : World} {b base x j : Nat} {T : List ByteArray} {arr turn pause aw : Int} {owed : Bool} {part : ByteArray} {lost : Bool} {got : List ByteArray} {tv pv gv v : Value} (h : PAt w b base T arr turn pause aw owed part lost got tv pv gv) (hx : ¬ InP b tv pv gv x) :
    PAt (w.setCell ⟨x, j, none⟩ v) b base T arr turn pause aw owed part lost got tv pv gv where
  blk := (set_other (fun e => hx (.inl e.symm))).trans h.blk
  lo := h.lo
  ot := slot_kept h.ot fun q hq => set_other (fun e => hx (.inr (.inl (e ▸ hq))))
  op := slot_kept h.op fun q hq => set_other (fun e => hx (.inr (.inr (.inl (e ▸ hq)))))
  og := slot_kept h.og fun q hq => set_other (fun e => hx (.inr (.inr (.inr (e ▸ hq)))))
  nt := h.nt
  np := h.np
  ng := h.ng
  tp := h.tp
  tg := h.tg
  pg := h.pg
theorem KeepP.setNew {S : Nat → Prop} {w w' : World} {x j : Nat} {v : Value} (h : KeepP S w w') (hx : w.heap.size ≤ x) : KeepP S w (w'.setCell ⟨x, j, none⟩ v) :=
  ⟨h.os, h.tape, h.output, by simpa using h.size, fun q hq hn => (set_other (by omega)).trans (h.block q hq hn)⟩
theorem Tab.keep {w w' : World} {S : Nat → Prop} (h : Tab w) (hk : KeepP S w w') (h0 : 0 < w.heap.size) (hn : ¬ S 0) : Tab w' := fun i hi => (hk.cell (a := ⟨0, i, none⟩) h0 hn).trans (h i hi)

set_option maxRecDepth 100000 in
set_option maxHeartbeats 4000000 in
theorem take_idle (w : World) (b base : Nat) (T : List ByteArray) (k : Nat) (turn pause aw : Int) (owed : Bool) (part : ByteArray) (lost : Bool) (got : List ByteArray) (tv pv gv : Value)
    (hP : PAt w b base T ((32 * k : Nat) : Int) turn pause aw owed part lost got tv pv gv) (ht : Tab w) (hbase : 0 < base) (hbw : base ≤ w.heap.size) (hd : dueP T pause = false) :
    Calls Tryd.prog 15 #[.pointer (some ⟨b, 0, none⟩)] w (takeQ w b base T k turn pause aw owed part lost got tv pv gv) := by
  have hlt := hP.lt
  obtain ⟨W0, hW0⟩ : ∃ W0, W0 = w.alloc (.cells #[.int .i64 0, .int .i64 0, .bool false, .bool false, .string ⟨#[]⟩] 59) := ⟨_, rfl⟩
  have hB0 : Below w.heap.size w W0 := by rw [hW0]; exact (Below.refl _ _).alloc (Nat.le_refl _) _
  have hP0 := hP.below hB0
  have hX0 := heap_alloc_new w (.cells #[.int .i64 0, .int .i64 0, .bool false, .bool false, .string ⟨#[]⟩] 59)
  rw [← hW0] at hX0
  have hs0 : W0.heap.size = w.heap.size + 1 := by rw [hW0]; simp
  obtain ⟨ta, tc, rfl⟩ := own_slice hP.ot
  have HW0 := hide hW0; have HP0 := hide hP0; have HX0 := hide hX0; have HB0 := hide hB0; have HS0 := hide hs0; have HDU := hide hd; have HP := hide hP
  have HTB := hide ht
  have N2 := hide (isOut_any W0 b ta T.length tc _ _ _ _ _ _ _ _ hP0.blk)
  obtain ⟨⟨c0, c1, c2, c3⟩, e0, e1, e2, e3⟩ := four_cells hP0.blk
  obtain ⟨⟨c4, c5, c6, c7, c8⟩, e4, e5, e6, e7, e8⟩ := nine_cells hP0.blk
  obtain ⟨⟨x0, x1, x2, x3, x4⟩, j0, j1, j2, j3, j4⟩ := five_cells hX0
  have HPZ : Hid (decide (0 < T.length) = true → (pause == 0) = false) := hide fun hx => by
    have hne : T ≠ [] := fun e => by rw [e] at hx; simp at hx
    unfold dueP at hd
    rw [decide_eq_true hne, Bool.true_and] at hd
    simpa using hd
  have hbz : b < W0.heap.size := by omega
  have hbx : w.heap.size ≠ b := by omega
  generalize hdd : decide (0 < T.length) = dd at *
  clear hdd hW0 hP hP0 hX0 hB0 hs0 hd ht
  cases owed with
  | false =>
    cases dd with
    | false =>
      go_enter Tryd.func15, Tryd.ntmps15
      go_upto_region 2 with fail
      rw [← unhide HW0]
      go_wp2_with fail
      refine (unhide N2).mono ?_
      rintro e w1 ⟨rfl, hw1⟩
      subst hw1
      go_wp2
      go_ret
      exact takeQ_none (unhide HDU) (unhide HP0) (StepP.of_below (unhide HB0))
    | true =>
      have hpz := unhide HPZ rfl
      go_enter Tryd.func15, Tryd.ntmps15
      go_upto_region 2 with fail
      rw [← unhide HW0]
      go_wp2_with fail
      refine (unhide N2).mono ?_
      rintro e w1 ⟨rfl, hw1⟩
      subst hw1
      go_wp2
      go_ret
      exact takeQ_none (unhide HDU) (unhide HP0) (StepP.of_below (unhide HB0))
  | true =>
    obtain ⟨W1, hW1⟩ : ∃ W1, W1 = W0.setCell ⟨w.heap.size, 1, none⟩ (.int .i64 aw) := ⟨_, rfl⟩
    obtain ⟨W2, hW2⟩ : ∃ W2, W2 = W1.setCell ⟨b, 5, none⟩ (.bool false) := ⟨_, rfl⟩
    have hnx : ¬ InP b (.slice ta T.length tc) pv gv w.heap.size := fun hx => by have := ((unhide HP).ge _ hx).2; omega
    have hP1 : PAt W1 b base T ((32 * k : Nat) : Int) turn pause aw true part lost got (.slice ta T.length tc) pv gv := by rw [hW1]; exact (unhide HP0).aside hnx
    have hP2 : PAt W2 b base T ((32 * k : Nat) : Int) turn pause aw false part lost got (.slice ta T.length tc) pv gv := by rw [hW2]; exact hP1.put ((set_row hP1.blk).trans rfl)
    have hK2 : KeepP (InP b (.slice ta T.length tc) pv gv) w W2 := by rw [hW2, hW1]; exact ((KeepP.of_below (unhide HB0)).setNew (Nat.le_refl _)).set b 5 _ (.inl rfl)
    have hT2 : Tab W2 := (unhide HTB).keep hK2 (by omega) (fun hx => by have := ((unhide HP).ge _ hx).1; omega)
    have hS2 : 0 < W2.heap.size := by have := hK2.size; omega
    have hW : W2 = (W0.setCell ⟨w.heap.size, 1, none⟩ (.int .i64 aw)).setCell ⟨b, 5, none⟩ (.bool false) := by rw [hW2, hW1]
    have HW2 := hide hW; have HP2 := hide hP2; have HK2 := hide hK2; have HT2 := hide hT2; have HS2 := hide hS2
    have N3 := hide (fun w' (ht : Tab w') (h0 : 0 < w'.heap.size) => frame_all 0 aw false false ⟨#[]⟩ w' ht h0 (Nat.zero_le _))
    have HSN := hide (show fText 0 aw false false ⟨#[]⟩ = sentP T k turn aw false by rw [sentP, if_neg (by decide)]; rfl)
    generalize fText 0 aw false false ⟨#[]⟩ = ft at *
    generalize checkE 0 aw false false ⟨#[]⟩ = ce at *
    clear hW1 hW2 hW hP1 hP2 hK2 hT2 hS2 hnx
    cases dd with
    | false =>
      go_enter Tryd.func15, Tryd.ntmps15
      go_upto_region 2 with fail
      rw [← unhide HW0]
      go_wp2_with fail
      refine (unhide N2).mono ?_
      rintro e w1 ⟨rfl, hw1⟩
      subst hw1
      go_wp2_with fail
      rw [← unhide HW2]
      refine (unhide N3 _ (unhide HT2) (by have := unhide HS2; omega)).mono ?_
      rintro e w3 ⟨rfl, hb3⟩
      have hP3 := (unhide HP2).below hb3
      have hK3 := (unhide HK2).trans (KeepP.of_below (S := InP b (.slice ta T.length tc) pv gv) hb3) inp_refl
      have hs3 : w.heap.size ≤ w3.heap.size := hK3.size
      have HP3 := hide hP3; have HK3 := hide hK3
      clear hb3 hP3 hK3
      go_wp2
      go_ret
      have hba : Below w3.heap.size w3 (w3.alloc (.cells #[.string ft] 9)) := (Below.refl _ _).alloc (Nat.le_refl _) _
      exact takeQ_some (.inr rfl) (by rw [unhide HDU]; rfl) (by simp) hs3 (by rw [unhide HDU, ← unhide HSN]; exact new_cellT _ _ _) ((unhide HP3).below hba) ⟨(unhide HK3).alloc _, inp_refl⟩
    | true =>
      have hpz := unhide HPZ rfl
      go_enter Tryd.func15, Tryd.ntmps15
      go_upto_region 2 with fail
      rw [← unhide HW0]
      go_wp2_with fail
      refine (unhide N2).mono ?_
      rintro e w1 ⟨rfl, hw1⟩
      subst hw1
      go_wp2_with fail
      rw [← unhide HW2]
      refine (unhide N3 _ (unhide HT2) (by have := unhide HS2; omega)).mono ?_
      rintro e w3 ⟨rfl, hb3⟩
      have hP3 := (unhide HP2).below hb3
      have hK3 := (unhide HK2).trans (KeepP.of_below (S := InP b (.slice ta T.length tc) pv gv) hb3) inp_refl
      have hs3 : w.heap.size ≤ w3.heap.size := hK3.size
      have HP3 := hide hP3; have HK3 := hide hK3
      clear hb3 hP3 hK3
      go_wp2
      go_ret
      have hba : Below w3.heap.size w3 (w3.alloc (.cells #[.string ft] 9)) := (Below.refl _ _).alloc (Nat.le_refl _) _
      exact takeQ_some (.inr rfl) (by rw [unhide HDU]; rfl) (by simp) hs3 (by rw [unhide HDU, ← unhide HSN]; exact new_cellT _ _ _) ((unhide HP3).below hba) ⟨(unhide HK3).alloc _, inp_refl⟩

set_option maxRecDepth 100000 in
set_option maxHeartbeats 4000000 in
theorem take_due (w : World) (b base : Nat) (s : ByteArray) (r : List ByteArray) (k : Nat) (turn aw : Int) (owed : Bool) (part : ByteArray) (lost : Bool) (got : List ByteArray) (tv pv gv : Value)
    (hP : PAt w b base (s :: r) ((32 * k : Nat) : Int) turn 0 aw owed part lost got tv pv gv) (ht : Tab w) (hbase : 0 < base) (hbw : base ≤ w.heap.size) (hs : s.size ≤ 4096) (hk : 32 * k ≤ s.size) :
    Calls Tryd.prog 15 #[.pointer (some ⟨b, 0, none⟩)] w (takeQ w b base (s :: r) k turn 0 aw owed part lost got tv pv gv) := by
  have hlt := hP.lt
  obtain ⟨W0, hW0⟩ : ∃ W0, W0 = w.alloc (.cells #[.int .i64 0, .int .i64 0, .bool false, .bool false, .string ⟨#[]⟩] 59) := ⟨_, rfl⟩
  have hB0 : Below w.heap.size w W0 := by rw [hW0]; exact (Below.refl _ _).alloc (Nat.le_refl _) _
  have hP0 := hP.below hB0
  have hX0 := heap_alloc_new w (.cells #[.int .i64 0, .int .i64 0, .bool false, .bool false, .string ⟨#[]⟩] 59)
  rw [← hW0] at hX0
  have hs0 : W0.heap.size = w.heap.size + 1 := by rw [hW0]; simp
  obtain ⟨g, cap, htv, _, _⟩ := hP.ot.form (by simp)
  subst htv
  have hc0 := (hP0.ot.cells (g := g) rfl) 0 (.string s) rfl
  rw [Addr.add_lit, Nat.add_zero] at hc0
  have N2 := hide (isOut_any W0 b (some ⟨g, 0, none⟩) (r.length + 1) cap _ _ _ _ _ _ _ _ hP0.blk)
  have N4 := hide (piece_any W0 b g (r.length + 1) cap s k _ _ _ _ _ _ _ hP0.blk (by omega) hc0 hk hs)
  rw [decide_eq_true (show 0 < r.length + 1 by omega)] at N2
  have hbz : (pcAt s k).1.size ≤ maxLen := by
    unfold pcAt maxLen
    simp only [ByteArray.size_extract]
    omega
  have N3 := hide (fun w' (ht : Tab w') (h0 : 0 < w'.heap.size) => frame_all turn aw (pcAt s k).2 true (pcAt s k).1 w' ht h0 hbz)
  have HDU := hide (show dueP (s :: r) 0 = true by simp [dueP])
  have HSN := hide (show fText turn aw (pcAt s k).2 true (pcAt s k).1 = sentP (s :: r) k turn aw true by rw [sentP, if_pos rfl, List.headD_cons])
  generalize fText turn aw (pcAt s k).2 true (pcAt s k).1 = ft at *
  generalize checkE turn aw (pcAt s k).2 true (pcAt s k).1 = ce at *
  generalize (pcAt s k).2 = mo at *
  generalize (pcAt s k).1 = bo at *
  obtain ⟨⟨c0, c1, c2, c3⟩, e0, e1, e2, e3⟩ := four_cells hP0.blk
  obtain ⟨⟨c4, c5, c6, c7, c8⟩, e4, e5, e6, e7, e8⟩ := nine_cells hP0.blk
  have hbz2 : b < W0.heap.size := by omega
  have hbx : w.heap.size ≠ b := by omega
  have HW0 := hide hW0; have HP0 := hide hP0; have HX0 := hide hX0; have HB0 := hide hB0; have HS0 := hide hs0; have HP := hide hP
  have HTB := hide ht
  clear hW0 hP hP0 hX0 hB0 hs0 hbz hc0 hs hk ht
  go_enter Tryd.func15, Tryd.ntmps15
  go_upto_region 2 with fail
  rw [← unhide HW0]
  go_wp2_with fail
  refine (unhide N2).mono ?_
  rintro e w9 ⟨rfl, hw9⟩
  subst hw9
  go_wp2_with fail
  refine (unhide N4).mono ?_
  rintro e w1 ⟨rfl, hb1⟩
  have hP1 := (unhide HP0).below hb1
  have hX1 := (hb1.block w.heap.size (by have := unhide HS0; omega)).trans (unhide HX0)
  clear c0 c1 c2 c3 e0 e1 e2 e3 c4 c5 c6 c7 c8 e4 e5 e6 e7 e8
  have hnx : ¬ InP b (.slice (some ⟨g, 0, none⟩) (r.length + 1) cap) pv gv w.heap.size := fun hx => by have := ((unhide HP).ge _ hx).2; omega
  obtain ⟨WA, hWA⟩ : ∃ WA, WA = ((((w1.setCell ⟨w.heap.size, 0, none⟩ (.int .i64 turn)).setCell ⟨w.heap.size, 1, none⟩ (.int .i64 0)).setCell ⟨w.heap.size, 2, none⟩ (.bool mo)).setCell ⟨w.heap.size, 3, none⟩ (.bool true)).setCell ⟨w.heap.size, 4, none⟩ (.string bo) := ⟨_, rfl⟩
  have hPA : PAt WA b base (s :: r) ((32 * k : Nat) : Int) turn 0 aw owed part lost got (.slice (some ⟨g, 0, none⟩) (r.length + 1) cap) pv gv := by rw [hWA]; exact ((((hP1.aside hnx).aside hnx).aside hnx).aside hnx).aside hnx
  have hXA : WA.heap[w.heap.size]? = some (.cells #[.int .i64 turn, .int .i64 0, .bool mo, .bool true, .string bo] 59) := by rw [hWA]; exact (set_row (set_row (set_row (set_row (set_row hX1))))).trans rfl
  have hKA : KeepP (InP b (.slice (some ⟨g, 0, none⟩) (r.length + 1) cap) pv gv) w WA := by rw [hWA]; exact ((((((KeepP.of_below (unhide HB0)).trans (KeepP.of_below (S := InP b (.slice (some ⟨g, 0, none⟩) (r.length + 1) cap) pv gv) hb1) inp_refl).setNew (Nat.le_refl _)).setNew (Nat.le_refl _)).setNew (Nat.le_refl _)).setNew (Nat.le_refl _)).setNew (Nat.le_refl _)
  obtain ⟨⟨x0, x1, x2, x3, x4⟩, j0, j1, j2, j3, j4⟩ := five_cells hX1
  have HWA := hide hWA
  have HP1 := hide hP1; have HB1 := hide hb1; have HX1 := hide hX1
  clear hP1 hb1 hX1 hWA
  go_upto_region 4 with fail
  rw [← unhide HWA]
  clear x0 x1 x2 x3 x4 j0 j1 j2 j3 j4
  obtain ⟨⟨c0, c1, c2, c3⟩, e0, e1, e2, e3⟩ := four_cells hPA.blk
  obtain ⟨WB, hWB⟩ : ∃ WB, WB = WA.setCell ⟨b, 3, none⟩ (.int .i64 4) := ⟨_, rfl⟩
  have hPB : PAt WB b base (s :: r) ((32 * k : Nat) : Int) turn 4 aw owed part lost got (.slice (some ⟨g, 0, none⟩) (r.length + 1) cap) pv gv := by rw [hWB]; exact hPA.put ((set_row hPA.blk).trans rfl)
  have hXB := (set_other (w := WA) (b := b) (j := 3) (v := .int .i64 4) hbx).trans hXA
  rw [← hWB] at hXB
  have hKB : KeepP (InP b (.slice (some ⟨g, 0, none⟩) (r.length + 1) cap) pv gv) w WB := by rw [hWB]; exact hKA.set b 3 _ (.inl rfl)
  have HWB := hide hWB
  clear hWB hPA hXA hKA HWA
  go_upto_region 7 with fail
  rw [← unhide HWB]
  clear c0 c1 c2 c3 e0 e1 e2 e3
  obtain ⟨⟨c4, c5, c6, c7, c8⟩, e4, e5, e6, e7, e8⟩ := nine_cells hPB.blk
  obtain ⟨⟨x0, x1, x2, x3, x4⟩, j0, j1, j2, j3, j4⟩ := five_cells hXB
  obtain ⟨WC, hWC⟩ : ∃ WC, WC = WB.setCell ⟨w.heap.size, 1, none⟩ (.int .i64 aw) := ⟨_, rfl⟩
  have hPC : PAt WC b base (s :: r) ((32 * k : Nat) : Int) turn 4 aw owed part lost got (.slice (some ⟨g, 0, none⟩) (r.length + 1) cap) pv gv := by rw [hWC]; exact hPB.aside hnx
  have hXC : WC.heap[w.heap.size]? = some (.cells #[.int .i64 turn, .int .i64 aw, .bool mo, .bool true, .string bo] 59) := by rw [hWC]; exact (set_row hXB).trans rfl
  have hKC : KeepP (InP b (.slice (some ⟨g, 0, none⟩) (r.length + 1) cap) pv gv) w WC := by rw [hWC]; exact hKB.setNew (Nat.le_refl _)
  have HWC := hide hWC
  clear hWC hPB hXB hKB HWB
  go_upto_region 8 with fail
  rw [← unhide HWC]
  clear c4 c5 c6 c7 c8 e4 e5 e6 e7 e8 x0 x1 x2 x3 x4 j0 j1 j2 j3 j4
  obtain ⟨⟨c4, c5, c6, c7, c8⟩, e4, e5, e6, e7, e8⟩ := nine_cells hPC.blk
  obtain ⟨W2, hW2⟩ : ∃ W2, W2 = WC.setCell ⟨b, 5, none⟩ (.bool false) := ⟨_, rfl⟩
  have hP2 : PAt W2 b base (s :: r) ((32 * k : Nat) : Int) turn 4 aw false part lost got (.slice (some ⟨g, 0, none⟩) (r.length + 1) cap) pv gv := by rw [hW2]; exact hPC.put ((set_row hPC.blk).trans rfl)
  have hX2 := (set_other (w := WC) (b := b) (j := 5) (v := .bool false) hbx).trans hXC
  rw [← hW2] at hX2
  have hK2 : KeepP (InP b (.slice (some ⟨g, 0, none⟩) (r.length + 1) cap) pv gv) w W2 := by rw [hW2]; exact hKC.set b 5 _ (.inl rfl)
  have hT2 : Tab W2 := (unhide HTB).keep hK2 (by omega) (fun hx => by have := ((unhide HP).ge _ hx).1; omega)
  have hS2 : 0 < W2.heap.size := by have := hK2.size; omega
  have HW2 := hide hW2; have HP2 := hide hP2; have HK2 := hide hK2; have HT2 := hide hT2; have HS2 := hide hS2
  clear hW2 hPC hXC hKC HWC hP2 hK2 hT2 hS2
  go_upto_region 9 with fail
  rw [← unhide HW2]
  clear c4 c5 c6 c7 c8 e4 e5 e6 e7 e8
  obtain ⟨⟨x0, x1, x2, x3, x4⟩, j0, j1, j2, j3, j4⟩ := five_cells hX2
  go_wp2_with fail
  refine (unhide N3 _ (unhide HT2) (unhide HS2)).mono ?_
  rintro e w3 ⟨rfl, hb3⟩
  have hP3 := (unhide HP2).below hb3
  have hK3 := (unhide HK2).trans (KeepP.of_below (S := InP b (.slice (some ⟨g, 0, none⟩) (r.length + 1) cap) pv gv) hb3) inp_refl
  have hs3 : w.heap.size ≤ w3.heap.size := hK3.size
  have HP3 := hide hP3; have HK3 := hide hK3
  clear hb3 hP3 hK3 hX2 x0 x1 x2 x3 x4 j0 j1 j2 j3 j4
  go_wp2
  go_ret
  have hba : Below w3.heap.size w3 (w3.alloc (.cells #[.string ft] 9)) := (Below.refl _ _).alloc (Nat.le_refl _) _
  exact takeQ_some (.inl (unhide HDU)) (by rw [unhide HDU]; rfl) (by simp) hs3 (by rw [unhide HDU, ← unhide HSN]; exact new_cellT _ _ _) ((unhide HP3).below hba) ⟨(unhide HK3).alloc _, inp_refl⟩
end Go.Proofs.YthchicolifkpiaaDoor
