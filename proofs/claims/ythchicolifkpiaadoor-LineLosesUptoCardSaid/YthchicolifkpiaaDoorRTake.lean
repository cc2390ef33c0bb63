/- The reference's end: Take. -/
import Derived.Test.YthchicolifkpiaaDoorRHear
namespace Go.Proofs.YthchicolifkpiaaDoor
open Go.RowKit
set_option linter.unusedVariables false

/-- a piece is due -/
def dueB (T : List ByteArray) (ago : Int) : Bool := decide (T ≠ []) && (decide (ago < 0) || decide (4 ≤ ago))
/-- what is sent, by the piece that is out -/
def sentT (T : List ByteArray) (A k kn : Nat) (due : Bool) : ByteArray :=
  if due then fText ((A % 2 : Nat) : Int) ((kn % 2 : Nat) : Int) (pcAt (T.headD ByteArray.empty) k).2 true (pcAt (T.headD ByteArray.empty) k).1 else fText 0 ((kn % 2 : Nat) : Int) false false ByteArray.empty
theorem cellsP_at (ps : List (ByteArray × Bool)) (i : Nat) (p : ByteArray × Bool) (h : ps[i]? = some p) :
    (cellsP ps)[i * 5]? = some (.int .i64 0) ∧ (cellsP ps)[i * 5 + 1]? = some (.int .i64 0) ∧ (cellsP ps)[i * 5 + 2]? = some (.bool p.2) ∧ (cellsP ps)[i * 5 + 3]? = some (.bool true) ∧ (cellsP ps)[i * 5 + 4]? = some (.string p.1) := by
  induction ps generalizing i with
  | nil => simp at h
  | cons x r ih =>
    have e : cellsP (x :: r) = [.int .i64 0, .int .i64 0, .bool x.2, .bool true, .string x.1] ++ cellsP r := by simp [cellsP]
    rw [e]
    cases i with
    | zero => simp at h; subst h; simp
    | succ i =>
      simp only [List.getElem?_cons_succ] at h
      obtain ⟨h0, h1, h2, h3, h4⟩ := ih i h
      refine ⟨?_, ?_, ?_, ?_, ?_⟩
      · rw [List.getElem?_append_right (by simp; omega), show (i + 1) * 5 - [Value.int .i64 0, .int .i64 0, .bool x.2, .bool true, .string x.1].length = i * 5 by simp; omega]; exact h0
      · rw [List.getElem?_append_right (by simp; omega), show (i + 1) * 5 + 1 - [Value.int .i64 0, .int .i64 0, .bool x.2, .bool true, .string x.1].length = i * 5 + 1 by simp; omega]; exact h1
      · rw [List.getElem?_append_right (by simp; omega), show (i + 1) * 5 + 2 - [Value.int .i64 0, .int .i64 0, .bool x.2, .bool true, .string x.1].length = i * 5 + 2 by simp; omega]; exact h2
      · rw [List.getElem?_append_right (by simp; omega), show (i + 1) * 5 + 3 - [Value.int .i64 0, .int .i64 0, .bool x.2, .bool true, .string x.1].length = i * 5 + 3 by simp; omega]; exact h3
      · rw [List.getElem?_append_right (by simp; omega), show (i + 1) * 5 + 4 - [Value.int .i64 0, .int .i64 0, .bool x.2, .bool true, .string x.1].length = i * 5 + 4 by simp; omega]; exact h4
/-WALK-/
def rtakeQ (G T : List ByteArray) (A k : Nat) (go : Option Addr) (gc : Nat) (ago : Int) (ko : Option Addr) (kn kc : Nat) (o : Bool) (told : Int) (w : World) (e : Ending) (w' : World) : Prop :=
  Below w.heap.size w w' ∧ ((dueB T ago = false ∧ o = false ∧ e = .returned (.tuple #[rend go G.length gc A ago ko kn kc o told, .slice none 0 0])) ∨
      ((dueB T ago = true ∨ o = true) ∧ ∃ g, e = .returned (.tuple #[rend go G.length gc A (if dueB T ago then 0 else ago) ko kn kc false told, .slice (some ⟨g, 0, none⟩) 1 1]) ∧ g < w'.heap.size ∧ w.heap.size ≤ g ∧ w'.cell? ⟨g, 0, none⟩ = some (.string (sentT T A k kn (dueB T ago)))))
theorem rtakeQ_none {G T : List ByteArray} {A k : Nat} {go : Option Addr} {gc : Nat} {ago : Int} {ko : Option Addr} {kn kc : Nat} {told : Int} {w w' : World} (hd : dueB T ago = false) (hb : Below w.heap.size w w') :
    rtakeQ G T A k go gc ago ko kn kc false told w (.returned (.tuple #[rend go G.length gc A ago ko kn kc false told, .slice none 0 0])) w' := ⟨hb, .inl ⟨hd, rfl, rfl⟩⟩
theorem rtakeQ_some {G T : List ByteArray} {A k : Nat} {go : Option Addr} {gc : Nat} {ago ago' : Int} {ko : Option Addr} {kn kc : Nat} {o : Bool} {told : Int} {w w' : World} {g : Nat} (hd : dueB T ago = true ∨ o = true) (ha : ago' = if dueB T ago then 0 else ago) (hb : Below w.heap.size w w') (h1 : g < w'.heap.size) (h2 : w.heap.size ≤ g) (h3 : w'.cell? ⟨g, 0, none⟩ = some (.string (sentT T A k kn (dueB T ago)))) :
    rtakeQ G T A k go gc ago ko kn kc o told w (.returned (.tuple #[rend go G.length gc A ago' ko kn kc false told, .slice (some ⟨g, 0, none⟩) 1 1])) w' := ⟨hb, .inr ⟨hd, g, by rw [ha], h1, h2, h3⟩⟩
theorem old_cellT {w : World} {o : Obj} {g i : Nat} {v : Value} (h : w.cell? ⟨g, i, none⟩ = some v) : (w.alloc o).cell? ⟨g, i, none⟩ = some v := (World.cell?_of_block (Below.heap_alloc _ _ _ (World.block_lt_of_cell? w _ h))).trans h
theorem new_cellT (w : World) (v : Value) (e : TypeId) : (w.alloc (.cells #[v] e)).cell? ⟨w.heap.size, 0, none⟩ = some v := (cell_of_row _ _ 0 _ _ _ (heap_alloc_new w (.cells #[v] e))).trans rfl
theorem new_cellT' {w : World} {v : Value} {e : TypeId} {g : Nat} (h : g = w.heap.size) : (w.alloc (.cells #[v] e)).cell? ⟨g, 0, none⟩ = some v := h ▸ new_cellT w v e
theorem set_cellT {w : World} {b j g i : Nat} {v x : Value} (hne : g ≠ b) (h : w.cell? ⟨g, i, none⟩ = some x) : (w.setCell ⟨b, j, none⟩ v).cell? ⟨g, i, none⟩ = some x := (World.cell?_of_block (set_other hne)).trans h
set_option maxRecDepth 100000 in
set_option maxHeartbeats 4000000 in
theorem rtake_any (G T : List ByteArray) (A k : Nat) (go : Option Addr) (gc : Nat) (ago : Int) (ko : Option Addr) (kn kc : Nat) (o : Bool) (told : Int) (w : World) (hr : SRow w go G) (hs : ∀ s ∈ G, s.size ≤ 4096) (hl : (G.length : Int) ≤ 1048576) (hkl : (kn : Int) ≤ 1048576) (hrel : OutRel G A T k) :
    Calls Tryd.prog 13 #[rend go G.length gc A ago ko kn kc o told] w (rtakeQ G T A k go gc ago ko kn kc o told w) := by
  have N2 := hide (fun w' (hb : Below w.heap.size w w') => pieces_any G go gc w' (hr.below hb) hs hl)
  have hle := out_le hrel
  have hpl := piecesL_length_le G hs
  have hp : ((piecesL G).length : Int) ≤ 134217728 := by omega
  have hA : (A : Int) ≤ 134217728 := by omega
  have HR := hide hrel
  have hk2 : Int.tmod (kn : Int) 2 = ((kn % 2 : Nat) : Int) := by rw [Int.tmod_eq_emod_of_nonneg (by omega)]; omega
  obtain ⟨kp, hkp⟩ : ∃ kp, kp = ((kn % 2 : Nat) : Int) := ⟨_, rfl⟩
  have HKP := hide hkp
  rw [← hkp] at hk2
  have hkp0 : 0 ≤ kp := by rw [hkp]; omega
  have hkp1 : kp ≤ 1 := by rw [hkp]; omega
  clear hkp
  obtain ⟨W0, hW0⟩ : ∃ W0, W0 = ((w.alloc (.cells #[.slice go G.length gc, .int .i64 A, .int .i64 ago, .slice ko kn kc, .bool o, .int .i64 told] 28)).alloc (.cells #[.slice none 0 0, .int .i64 0, .int .i64 0, .slice none 0 0, .bool false, .int .i64 0] 28)).alloc (.cells #[.int .i64 0, .int .i64 kp, .bool false, .bool false, .string ⟨#[]⟩] 59) := ⟨_, rfl⟩
  have HW0 := hide hW0
  have HB0 := hide (show Below w.heap.size w W0 by rw [hW0]; exact (two_below w _ _).alloc (by simp; omega) _)
  have HS0 := hide (show W0.heap.size = w.heap.size + 3 by rw [hW0]; simp)
  have P1 := hide (show W0.heap[w.heap.size]? = some (.cells #[.slice go G.length gc, .int .i64 A, .int .i64 ago, .slice ko kn kc, .bool o, .int .i64 told] 28) by rw [hW0]; exact (Below.heap_alloc _ _ _ (by simp; omega)).trans ((Below.heap_alloc _ _ _ (by simp)).trans (heap_alloc_new _ _)))
  have P2 := hide (show W0.heap[w.heap.size + 1]? = some (.cells #[.slice none 0 0, .int .i64 0, .int .i64 0, .slice none 0 0, .bool false, .int .i64 0] 28) by rw [hW0]; exact (Below.heap_alloc _ _ _ (by simp)).trans (by have := heap_alloc_new (w.alloc (.cells #[.slice go G.length gc, .int .i64 A, .int .i64 ago, .slice ko kn kc, .bool o, .int .i64 told] 28)) (.cells #[.slice none 0 0, .int .i64 0, .int .i64 0, .slice none 0 0, .bool false, .int .i64 0] 28); simpa using this))
  have P3 := hide (show W0.heap[w.heap.size + 2]? = some (.cells #[.int .i64 0, .int .i64 kp, .bool false, .bool false, .string ⟨#[]⟩] 59) by rw [hW0]; have := heap_alloc_new ((w.alloc (.cells #[.slice go G.length gc, .int .i64 A, .int .i64 ago, .slice ko kn kc, .bool o, .int .i64 told] 28)).alloc (.cells #[.slice none 0 0, .int .i64 0, .int .i64 0, .slice none 0 0, .bool false, .int .i64 0] 28)) (.cells #[.int .i64 0, .int .i64 kp, .bool false, .bool false, .string ⟨#[]⟩] 59); simpa using this)
  clear hr hs hW0 hrel hle hpl
  have hdd : dueB T ago = dueB T ago := rfl
  cases hd : dueB T ago with
  | false =>
    have HF : Hid (decide (A < (piecesL G).length) = true → (decide (ago < 0) = false ∧ decide (4 ≤ ago) = false)) := hide fun hx => by
      have hne : T ≠ [] := (out_lt (unhide HR)).1 (of_decide_eq_true hx)
      unfold dueB at hd
      rw [decide_eq_true hne, Bool.true_and, Bool.or_eq_false_iff] at hd
      exact hd
    have HDU := hide hd
    clear hd
    cases o with
    | false =>
      go_enter Tryd.func13, Tryd.ntmps13
      go_wp2_with fail
      rw [← unhide HW0]
      refine (unhide N2 _ (unhide HB0)).mono ?_
      rintro e w2 ⟨v, u, rfl, hv, hu, hb2⟩
      have hw2 : Below w.heap.size w w2 := (unhide HB0).trans (hb2.mono (unhide HB0).size)
      have r1 : w2.heap[w.heap.size]? = _ := (hb2.block _ (by rw [unhide HS0]; omega)).trans (unhide P1)
      have r2 : w2.heap[w.heap.size + 1]? = _ := (hb2.block _ (by rw [unhide HS0]; omega)).trans (unhide P2)
      have r3 : w2.heap[w.heap.size + 2]? = _ := (hb2.block _ (by rw [unhide HS0]; omega)).trans (unhide P3)
      have hsz2 : w.heap.size + 2 < w2.heap.size := by have := hb2.size; rw [unhide HS0] at this; omega
      have hB : w.heap.size ≤ w.heap.size + 1 := by omega
      have hB2 : w.heap.size ≤ w.heap.size + 2 := by omega
      clear hb2
      obtain ⟨vo, vc, rfl⟩ : ∃ vo vc, v = .slice vo (piecesL G).length vc := by
        rcases hv.2 with ⟨h1, h2⟩ | ⟨g, cap, cur, h1, _⟩
        · exact ⟨none, 0, by rw [h1, h2]⟩
        · exact ⟨_, cap, h1⟩
      obtain ⟨⟨c0, c1, c2, c3, c4, c5⟩, e0, e1, e2, e3, e4, e5⟩ := six_cells r1
      obtain ⟨⟨z0, z1, z2, z3, z4, z5⟩, f0, f1, f2, f3, f4, f5⟩ := six_cells r2
      obtain ⟨⟨b0, b1, b2, b3, b4⟩, g0, g1, g2, g3, g4⟩ := five_cells r3

      generalize (piecesL G).length = pn at *
      clear r1 r2 r3 hv hu
      by_cases hA2 : A < pn
      · obtain ⟨t1, t2⟩ := unhide HF (decide_eq_true hA2)
        have t3 : ¬ ago < 0 := of_decide_eq_false t1
        have t4 : ¬ 4 ≤ ago := of_decide_eq_false t2
        have t5 : (A : Int) < (pn : Int) := by omega
        go_wp2
        refine bodyPost_ret (v := .tuple #[rend go G.length gc A ago ko kn kc false told, .slice none 0 0]) (by simp [results, Tryd.results13, go_sem, z0, z1, z2, z3, z4, z5]) rfl (rtakeQ_none (unhide HDU) ?_)
        exact ((((((hw2.setCell hB _).setCell hB _).setCell hB _).setCell hB _).setCell hB _).setCell hB _)
      · have t5 : ¬ (A : Int) < (pn : Int) := by omega
        go_wp2
        refine bodyPost_ret (v := .tuple #[rend go G.length gc A ago ko kn kc false told, .slice none 0 0]) (by simp [results, Tryd.results13, go_sem, z0, z1, z2, z3, z4, z5]) rfl (rtakeQ_none (unhide HDU) ?_)
        exact ((((((hw2.setCell hB _).setCell hB _).setCell hB _).setCell hB _).setCell hB _).setCell hB _)
    | true =>
      go_enter Tryd.func13, Tryd.ntmps13
      go_wp2_with fail
      rw [← unhide HW0]
      refine (unhide N2 _ (unhide HB0)).mono ?_
      rintro e w2 ⟨v, u, rfl, hv, hu, hb2⟩
      have hw2 : Below w.heap.size w w2 := (unhide HB0).trans (hb2.mono (unhide HB0).size)
      have r1 : w2.heap[w.heap.size]? = _ := (hb2.block _ (by rw [unhide HS0]; omega)).trans (unhide P1)
      have r2 : w2.heap[w.heap.size + 1]? = _ := (hb2.block _ (by rw [unhide HS0]; omega)).trans (unhide P2)
      have r3 : w2.heap[w.heap.size + 2]? = _ := (hb2.block _ (by rw [unhide HS0]; omega)).trans (unhide P3)
      have hsz2 : w.heap.size + 2 < w2.heap.size := by have := hb2.size; rw [unhide HS0] at this; omega
      have hB : w.heap.size ≤ w.heap.size + 1 := by omega
      have hB2 : w.heap.size ≤ w.heap.size + 2 := by omega
      clear hb2
      obtain ⟨vo, vc, rfl⟩ : ∃ vo vc, v = .slice vo (piecesL G).length vc := by
        rcases hv.2 with ⟨h1, h2⟩ | ⟨g, cap, cur, h1, _⟩
        · exact ⟨none, 0, by rw [h1, h2]⟩
        · exact ⟨_, cap, h1⟩
      obtain ⟨⟨c0, c1, c2, c3, c4, c5⟩, e0, e1, e2, e3, e4, e5⟩ := six_cells r1
      obtain ⟨⟨z0, z1, z2, z3, z4, z5⟩, f0, f1, f2, f3, f4, f5⟩ := six_cells r2
      obtain ⟨⟨b0, b1, b2, b3, b4⟩, g0, g1, g2, g3, g4⟩ := five_cells r3

      have N3 := hide (fun w' => rframe_all 0 kp false false ⟨#[]⟩ w' (Nat.zero_le _) (by omega) (by omega) (by omega) (by omega))
      have HSN := hide (show fText 0 kp false false ⟨#[]⟩ = sentT T A k kn false by rw [unhide HKP]; rfl)
      generalize fText 0 kp false false ⟨#[]⟩ = ft at *
      generalize checkE 0 kp false false ⟨#[]⟩ = ce at *
      generalize (piecesL G).length = pn at *
      have HF2 : Hid (¬ (A : Int) < (pn : Int) ∨ ((A : Int) < (pn : Int) ∧ ¬ ago < 0 ∧ ¬ 4 ≤ ago)) := hide (by
        by_cases hA2 : A < pn
        · obtain ⟨t1, t2⟩ := unhide HF (decide_eq_true hA2)
          exact .inr ⟨by omega, of_decide_eq_false t1, of_decide_eq_false t2⟩
        · exact .inl (by omega))
      have HR2 := hide r2
      have HR1 := hide r1
      clear r1 r2 r3 hv hu HF hp hA
      rcases unhide HF2 with t5 | ⟨t5, t3, t4⟩
      all_goals
        clear HF2
        go_wp2_with fail
        refine (unhide N3 _).mono ?_
        rintro e w3 ⟨rfl, hb3⟩
        have x1 := (hb3.block w.heap.size (by simp; omega)).trans (set_row (j := 4) (v := .bool false) (unhide HR1))
        have x2 := (hb3.block (w.heap.size + 1) (by simp; omega)).trans ((set_other (b := w.heap.size) (j := 4) (v := .bool false) (by omega)).trans (unhide HR2))
        have hw3 : Below w.heap.size w w3 := (hw2.setCell (Nat.le_refl _) _).trans (hb3.mono (by have := hw2.size; simp; omega))
        obtain ⟨⟨x10, x11, x12, x13, x14, x15⟩, x1e0, x1e1, x1e2, x1e3, x1e4, x1e5⟩ := six_cells x1
        obtain ⟨⟨y0, y1, y2, y3, y4, y5⟩, l0, l1, l2, l3, l4, l5⟩ := six_cells x2
        have hs3 : w.heap.size + 2 < w3.heap.size := by have := hb3.size; simp at this; omega
        have hs4 : w.heap.size < w3.heap.size := by omega
        have hs5 : w.heap.size + 1 < w3.heap.size := by omega
        clear x1 hb3 c0 c1 c2 c3 c4 c5 z0 z1 z2 z3 z4 z5 f0 f1 f2 f3 f4 f5 e0 e1 e2 e3 e4 e5 b0 b1 b2 b3 b4 g0 g1 g2 g3 g4
        go_wp2
        obtain ⟨WG, hWG⟩ : ∃ WG, WG = (((((w3.setCell ⟨w.heap.size + 1, 0, none⟩ (.slice go G.length gc)).setCell ⟨w.heap.size + 1, 1, none⟩ (.int .i64 A)).setCell ⟨w.heap.size + 1, 2, none⟩ (.int .i64 ago)).setCell ⟨w.heap.size + 1, 3, none⟩ (.slice ko kn kc)).setCell ⟨w.heap.size + 1, 4, none⟩ (.bool false)).setCell ⟨w.heap.size + 1, 5, none⟩ (.int .i64 told) := ⟨_, rfl⟩
        have hG1 : WG.heap.size = w3.heap.size := by rw [hWG]; simp
        have hG2 : Below w.heap.size w WG := by rw [hWG]; exact (((((hw3.setCell hB _).setCell hB _).setCell hB _).setCell hB _).setCell hB _).setCell hB _
        have hG3 : WG.heap[w.heap.size + 1]? = some (.cells #[.slice go G.length gc, .int .i64 A, .int .i64 ago, .slice ko kn kc, .bool false, .int .i64 told] 28) := by
          rw [hWG]
          exact (set_row (set_row (set_row (set_row (set_row (set_row x2)))))).trans rfl
        rw [← hWG]
        obtain ⟨⟨u0, u1, u2, u3, u4, u5⟩, _⟩ := six_cells ((Below.heap_alloc WG (.cells #[.string ft] 9) (w.heap.size + 1) (by omega)).trans hG3)
        refine bodyPost_ret (v := .tuple #[rend go G.length gc A ago ko kn kc false told, .slice (some ⟨w3.heap.size, 0, none⟩) 1 1]) (by simp [results, Tryd.results13, go_sem, u0, u1, u2, u3, u4, u5]) rfl (rtakeQ_some (.inr rfl) (by rw [unhide HDU]; rfl) ?_ ?_ ?_ ?_)
        · exact hG2.alloc hG2.size _
        · simp [hG1]
        · exact hw3.size
        · rw [unhide HDU, ← unhide HSN]
          exact new_cellT' hG1.symm
  | true =>
    have HDU := hide hd
    obtain ⟨s, r, rfl⟩ : ∃ s r, T = s :: r := by
      cases T with
      | nil => simp [dueB] at hd
      | cons s r => exact ⟨s, r, rfl⟩
    have hd2 : ago < 0 ∨ (¬ ago < 0 ∧ 4 ≤ ago) := by
      simp [dueB] at hd
      omega
    clear hd hdd
    obtain ⟨o1, o2, _⟩ := out_some (unhide HR)
    obtain ⟨q0, q1, q2, q3, q4⟩ := cellsP_at _ _ _ o2
    have hA2 : (A : Int) < ((piecesL G).length : Int) := by omega
    have hap : ((A : Int).tmod 2) = ((A % 2 : Nat) : Int) := by rw [Int.tmod_eq_emod_of_nonneg (by omega)]; omega
    obtain ⟨ap, hap2⟩ : ∃ ap, ap = ((A % 2 : Nat) : Int) := ⟨_, rfl⟩
    have HAP := hide hap2
    rw [← hap2] at hap
    have hap0 : 0 ≤ ap := by rw [hap2]; omega
    have hap1 : ap ≤ 1 := by rw [hap2]; omega
    clear hap2
    have hbz : (pcAt s k).1.size ≤ maxLen := by
      unfold pcAt maxLen
      simp only [ByteArray.size_extract]
      omega
    have N3 := hide (fun w' => rframe_all ap kp (pcAt s k).2 true (pcAt s k).1 w' hbz (by omega) (by omega) (by omega) (by omega))
    have HSN := hide (show fText ap kp (pcAt s k).2 true (pcAt s k).1 = sentT (s :: r) A k kn true by rw [unhide HKP, unhide HAP]; rfl)
    clear hbz
    generalize fText ap kp (pcAt s k).2 true (pcAt s k).1 = ft at *
    generalize checkE ap kp (pcAt s k).2 true (pcAt s k).1 = ce at *
    generalize (pcAt s k).2 = mo at *
    generalize (pcAt s k).1 = bo at *
    clear o2
    go_enter Tryd.func13, Tryd.ntmps13
    go_wp2_with fail
    rw [← unhide HW0]
    refine (unhide N2 _ (unhide HB0)).mono ?_
    rintro e w2 ⟨v, u, rfl, hv, hu, hb2⟩
    have hw2 : Below w.heap.size w w2 := (unhide HB0).trans (hb2.mono (unhide HB0).size)
    have r1 : w2.heap[w.heap.size]? = _ := (hb2.block _ (by rw [unhide HS0]; omega)).trans (unhide P1)
    have r2 : w2.heap[w.heap.size + 1]? = _ := (hb2.block _ (by rw [unhide HS0]; omega)).trans (unhide P2)
    have r3 : w2.heap[w.heap.size + 2]? = _ := (hb2.block _ (by rw [unhide HS0]; omega)).trans (unhide P3)
    have hsz2 : w.heap.size + 2 < w2.heap.size := by have := hb2.size; rw [unhide HS0] at this; omega
    have hB : w.heap.size ≤ w.heap.size + 1 := by omega
    have hB2 : w.heap.size ≤ w.heap.size + 2 := by omega
    clear hb2
    obtain ⟨vo, vc, rfl⟩ : ∃ vo vc, v = .slice vo (piecesL G).length vc := by
      rcases hv.2 with ⟨h1, h2⟩ | ⟨g, cap, cur, h1, _⟩
      · exact ⟨none, 0, by rw [h1, h2]⟩
      · exact ⟨_, cap, h1⟩
    obtain ⟨⟨c0, c1, c2, c3, c4, c5⟩, e0, e1, e2, e3, e4, e5⟩ := six_cells r1
    obtain ⟨⟨z0, z1, z2, z3, z4, z5⟩, f0, f1, f2, f3, f4, f5⟩ := six_cells r2
    obtain ⟨⟨b0, b1, b2, b3, b4⟩, g0, g1, g2, g3, g4⟩ := five_cells r3

    rcases hv.2 with ⟨_, h2⟩ | ⟨vg, cap, cur, h1, _⟩
    · omega
    cases h1
    have hcv := hv.cells (g := vg) rfl
    have ea : ∀ i, (⟨vg, 0, none⟩ : Addr).add i = ⟨vg, i, none⟩ := fun i => by unfold Addr.add; split <;> simp_all
    have v0 := hcv _ _ q0; have v1 := hcv _ _ q1; have v2 := hcv _ _ q2; have v3 := hcv _ _ q3; have v4 := hcv _ _ q4
    rw [ea] at v0 v1 v2 v3 v4
    generalize (piecesL G).length = pn at *
    have HR2 := hide r2; have HR1 := hide r1; have HR3 := hide r3
    clear r1 r2 r3 hv hu hcv ea q0 q1 q2 q3 q4 hp
    rcases hd2 with t3 | ⟨t3, t4⟩
    all_goals
      obtain ⟨W5, hW5⟩ : ∃ W5, W5 = w2.alloc (.cells #[.int .i64 0, .int .i64 0, .bool mo, .bool true, .string bo] 59) := ⟨_, rfl⟩
      have y1 := (Below.heap_alloc w2 (.cells #[.int .i64 0, .int .i64 0, .bool mo, .bool true, .string bo] 59) w.heap.size (by omega)).trans (unhide HR1)
      have y2 := (Below.heap_alloc w2 (.cells #[.int .i64 0, .int .i64 0, .bool mo, .bool true, .string bo] 59) (w.heap.size + 1) (by omega)).trans (unhide HR2)
      have y3 := (Below.heap_alloc w2 (.cells #[.int .i64 0, .int .i64 0, .bool mo, .bool true, .string bo] 59) (w.heap.size + 2) (by omega)).trans (unhide HR3)
      have y4 := heap_alloc_new w2 (.cells #[.int .i64 0, .int .i64 0, .bool mo, .bool true, .string bo] 59)
      have y5 : Below w.heap.size w W5 := by rw [hW5]; exact hw2.alloc hw2.size _
      have y6 : W5.heap.size = w2.heap.size + 1 := by rw [hW5]; simp
      rw [← hW5] at y1 y2 y3 y4
      have HW5 := hide hW5
      have Y6 := hide y6
      clear hW5 y6
      go_upto_region 5 with fail
      rw [← unhide HW5]
      clear c0 c1 c2 c3 c4 c5 z0 z1 z2 z3 z4 z5 f0 f1 f2 f3 f4 f5 e0 e1 e2 e3 e4 e5 b0 b1 b2 b3 b4 g0 g1 g2 g3 g4 v0 v1 v2 v3 v4
      obtain ⟨⟨c0, c1, c2, c3, c4, c5⟩, e0, e1, e2, e3, e4, e5⟩ := six_cells y1
      obtain ⟨⟨b0, b1, b2, b3, b4⟩, g0, g1, g2, g3, g4⟩ := five_cells y3
      obtain ⟨⟨x0, x1, x2, x3, x4⟩, j0, j1, j2, j3, j4⟩ := five_cells y4
      go_cut [] (fun wx => wx.heap[w.heap.size]? = W5.heap[w.heap.size]? ∧ wx.heap[w.heap.size + 1]? = W5.heap[w.heap.size + 1]? ∧ wx.heap[w.heap.size + 2]? = W5.heap[w.heap.size + 2]? ∧ wx.heap[w2.heap.size]? = some (.cells #[.int .i64 ap, .int .i64 kp, .bool mo, .bool true, .string bo] 59) ∧ wx.heap.size = W5.heap.size ∧ Below w.heap.size w wx)
      case first =>
        go_region
        all_goals
          go_wp2_with fail
          go_meet
          refine ⟨?_, ?_, ?_, ?_, ?_, ?_⟩
          · exact (set_other (by omega)).trans (set_other (by omega))
          · exact (set_other (by omega)).trans (set_other (by omega))
          · exact (set_other (by omega)).trans (set_other (by omega))
          · exact (set_row (set_row y4)).trans rfl
          · simp
          · exact ((y5.setCell (p := ⟨w2.heap.size, 0, none⟩) hw2.size _).setCell (p := ⟨w2.heap.size, 1, none⟩) hw2.size _).drew
      case rest =>
      obtain ⟨k1, k2, k3, k4, k5, k6⟩ := hcut
      have m1 := k1.trans y1
      have m2 := k2.trans y2
      have m3 := k3.trans y3
      have hwcs : w2.heap.size < wc.heap.size := by have := unhide Y6; omega
      clear c0 c1 c2 c3 c4 c5 e0 e1 e2 e3 e4 e5 b0 b1 b2 b3 b4 g0 g1 g2 g3 g4 x0 x1 x2 x3 x4 j0 j1 j2 j3 j4 y1 y2 y3 y4 k1 k2 k3
      obtain ⟨⟨c0, c1, c2, c3, c4, c5⟩, e0, e1, e2, e3, e4, e5⟩ := six_cells m1
      obtain ⟨⟨b0, b1, b2, b3, b4⟩, g0, g1, g2, g3, g4⟩ := five_cells m3
      obtain ⟨⟨x0, x1, x2, x3, x4⟩, j0, j1, j2, j3, j4⟩ := five_cells k4
      have M1 := hide m1; have M2 := hide m2
      clear m1 m2 m3 k4
      obtain ⟨WF, hWF⟩ : ∃ WF, WF = ((((((wc.setCell ⟨w.heap.size + 1 + 1, 0, none⟩ (.int .i64 ap)).setCell ⟨w.heap.size + 1 + 1, 1, none⟩ (.int .i64 kp)).setCell ⟨w.heap.size + 1 + 1, 2, none⟩ (.bool mo)).setCell ⟨w.heap.size + 1 + 1, 3, none⟩ (.bool true)).setCell ⟨w.heap.size + 1 + 1, 4, none⟩ (.string bo)).setCell ⟨w.heap.size, 2, none⟩ (.int .i64 0)).setCell ⟨w.heap.size, 4, none⟩ (.bool false) := ⟨_, rfl⟩
      have hF1 : WF.heap[w.heap.size]? = some (.cells #[.slice go G.length gc, .int .i64 A, .int .i64 0, .slice ko kn kc, .bool false, .int .i64 told] 28) := by
        rw [hWF]
        refine (set_row (j := 4) (v := .bool false) (set_row (j := 2) (v := .int .i64 0) (cs := #[.slice go G.length gc, .int .i64 A, .int .i64 ago, .slice ko kn kc, .bool o, .int .i64 told]) (e := 28) (fr := (0, 0)) ?_)).trans rfl
        rw [set_other (by omega), set_other (by omega), set_other (by omega), set_other (by omega), set_other (by omega)]
        exact unhide M1
      have hF2 : WF.heap[w.heap.size + 1]? = some (.cells #[.slice none 0 0, .int .i64 0, .int .i64 0, .slice none 0 0, .bool false, .int .i64 0] 28) := by
        rw [hWF, set_other (by omega), set_other (by omega), set_other (by omega), set_other (by omega), set_other (by omega), set_other (by omega), set_other (by omega)]
        exact unhide M2
      have hF3 : WF.heap.size = wc.heap.size := by rw [hWF]; simp
      have hB3 : w.heap.size ≤ w.heap.size + 1 + 1 := by omega
      have hF4 : Below w.heap.size w WF := by
        rw [hWF]
        exact ((((((k6.setCell hB3 _).setCell hB3 _).setCell hB3 _).setCell hB3 _).setCell hB3 _).setCell (Nat.le_refl _) _).setCell (Nat.le_refl _) _
      have HWF := hide hWF; have HF1 := hide hF1; have HF2 := hide hF2; have HF3 := hide hF3; have HF4 := hide hF4
      clear hWF hF1 hF2 hF3 hF4
      go_wp2_with fail
      rw [← unhide HWF]
      refine (unhide N3 _).mono ?_
      rintro e w3 ⟨rfl, hb3⟩
      have x1 := (hb3.block w.heap.size (by rw [unhide HF3]; omega)).trans (unhide HF1)
      have x2 := (hb3.block (w.heap.size + 1) (by rw [unhide HF3]; omega)).trans (unhide HF2)
      have hw3 : Below w.heap.size w w3 := (unhide HF4).trans (hb3.mono (unhide HF4).size)
      have hs3 : w.heap.size + 2 < w3.heap.size := by have := hb3.size; rw [unhide HF3] at this; omega
      obtain ⟨⟨x10, x11, x12, x13, x14, x15⟩, x1e0, x1e1, x1e2, x1e3, x1e4, x1e5⟩ := six_cells x1
      obtain ⟨⟨y0, y1, y2, y3, y4, y5⟩, l0, l1, l2, l3, l4, l5⟩ := six_cells x2
      have hs4 : w.heap.size < w3.heap.size := by omega
      have hs5 : w.heap.size + 1 < w3.heap.size := by omega
      clear x1 hb3 c0 c1 c2 c3 c4 c5 e0 e1 e2 e3 e4 e5 b0 b1 b2 b3 b4 g0 g1 g2 g3 g4
      go_wp2
      obtain ⟨WG, hWG⟩ : ∃ WG, WG = (((((w3.setCell ⟨w.heap.size + 1, 0, none⟩ (.slice go G.length gc)).setCell ⟨w.heap.size + 1, 1, none⟩ (.int .i64 A)).setCell ⟨w.heap.size + 1, 2, none⟩ (.int .i64 0)).setCell ⟨w.heap.size + 1, 3, none⟩ (.slice ko kn kc)).setCell ⟨w.heap.size + 1, 4, none⟩ (.bool false)).setCell ⟨w.heap.size + 1, 5, none⟩ (.int .i64 told) := ⟨_, rfl⟩
      have hG1 : WG.heap.size = w3.heap.size := by rw [hWG]; simp
      have hG2 : Below w.heap.size w WG := by rw [hWG]; exact (((((hw3.setCell hB _).setCell hB _).setCell hB _).setCell hB _).setCell hB _).setCell hB _
      have hG3 : WG.heap[w.heap.size + 1]? = some (.cells #[.slice go G.length gc, .int .i64 A, .int .i64 0, .slice ko kn kc, .bool false, .int .i64 told] 28) := by
        rw [hWG]
        exact (set_row (set_row (set_row (set_row (set_row (set_row x2)))))).trans rfl
      rw [← hWG]
      obtain ⟨⟨u0, u1, u2, u3, u4, u5⟩, _⟩ := six_cells ((Below.heap_alloc WG (.cells #[.string ft] 9) (w.heap.size + 1) (by omega)).trans hG3)
      refine bodyPost_ret (v := .tuple #[rend go G.length gc A 0 ko kn kc false told, .slice (some ⟨w3.heap.size, 0, none⟩) 1 1]) (by simp [results, Tryd.results13, go_sem, u0, u1, u2, u3, u4, u5]) rfl (rtakeQ_some (.inl (unhide HDU)) (by rw [unhide HDU]; rfl) ?_ ?_ ?_ ?_)
      · exact hG2.alloc hG2.size _
      · simp [hG1]
      · exact hw3.size
      · rw [unhide HDU, ← unhide HSN]
        exact new_cellT' hG1.symm
end Go.Proofs.YthchicolifkpiaaDoor
