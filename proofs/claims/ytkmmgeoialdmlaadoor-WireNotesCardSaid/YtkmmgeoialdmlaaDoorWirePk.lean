/- The law WirePacks: its walk. -/
import Derived.Test.YtkmmgeoialdmlaaDoorWireRu
import Derived.Test.YtkmmgeoialdmlaaDoorShW
namespace Go.Proofs.YtkmmgeoialdmlaaDoor
open Go.RowKit
set_option linter.unusedVariables false

theorem below_drewNW {B : Nat} {a b : World} (h : Below B a b) (q : Nat) : Below B a (b.drewN q) := ⟨h.os, h.tape, h.output, h.size, h.block⟩
set_option maxRecDepth 100000 in
set_option maxHeartbeats 2000000 in
theorem sameW_any (L : List Prt) (ao bo : Option Addr) (c d : Nat) (w : World) (hg : PRow w ao L) (hh : PRow w bo L) (hl : (L.length : Int) ≤ 9223372036854775807) :
    Calls Tryd.prog 27 #[.slice ao L.length c, .slice bo L.length d] w fun e w' => e = .returned (.bool true) ∧ Below w.heap.size w w' := by
  have HG := hide hg; have HH := hide hh
  clear hg hh
  go_enter Tryd.func27, Tryd.ntmps27
  go_wp2
  go_loopw [13] (fun i wr => ∃ k : Nat, k ≤ L.length ∧ i = .int .i64 k ∧ ∃ q, wr = w.drewN q) (fun i _ => L.length - (intOf i).toNat)
  case atStart => exact ⟨0, Nat.zero_le _, rfl, 0, rfl⟩
  case round =>
    obtain ⟨k, hk, rfl, q, rfl⟩ := hrel
    by_cases hlt : k < L.length
    · obtain ⟨x, hx⟩ : ∃ s, L[k]? = some s := ⟨_, List.getElem?_eq_getElem hlt⟩
      rcases unhide HG with hn | ⟨b1, o1, rfl, _, hc1⟩
      · rw [hn] at hlt; simp at hlt
      rcases unhide HH with hn | ⟨b2, o2, rfl, _, hc2⟩
      · rw [hn] at hlt; simp at hlt
      obtain ⟨c0, c1⟩ := hc1 k x hx
      obtain ⟨d0, d1⟩ := hc2 k x hx
      have hki : (k : Int) < (L.length : Int) := by omega
      clear hx hc1 hc2
      go_wp2_with fail
      go_quiet (fail)
      go_wp2
      go_roundw
      case rel => exact ⟨k + 1, by omega, by go_num, _, rfl⟩
      case measure => simp [intOf]; omega
    · go_wp2
      go_ret
      exact ⟨rfl, below_drewNW (Below.refl _ _) _⟩
set_option maxRecDepth 100000 in
set_option maxHeartbeats 2000000 in
theorem sameM_any (kd : Int) (L : List Prt) (ao bo : Option Addr) (c d : Nat) (w : World) (hg : PRow w ao L) (hh : PRow w bo L) (hl : (L.length : Int) ≤ 9223372036854775807) :
    Calls Tryd.prog 9 #[.agg #[.int .i64 kd, .slice ao L.length c], .agg #[.int .i64 kd, .slice bo L.length d]] w fun e w' => e = .returned (.bool true) ∧ Below w.heap.size w w' := by
  obtain ⟨W2, hW2⟩ : ∃ W2, W2 = (w.alloc (.cells #[.int .i64 kd, .slice ao L.length c] 24)).alloc (.cells #[.int .i64 kd, .slice bo L.length d] 24) := ⟨_, rfl⟩
  have hB2 : Below w.heap.size w W2 := by rw [hW2]; exact ((Below.refl _ _).alloc (Nat.le_refl _) _).alloc (by simp) _
  have hX : W2.heap[w.heap.size]? = some (.cells #[.int .i64 kd, .slice ao L.length c] 24 (0, 0)) := by rw [hW2]; exact (Below.heap_alloc _ _ _ (by simp)).trans (heap_alloc_new _ _)
  have hY : W2.heap[w.heap.size + 1]? = some (.cells #[.int .i64 kd, .slice bo L.length d] 24 (0, 0)) := by
    rw [hW2]
    have e1 : (w.alloc (.cells #[.int .i64 kd, .slice ao L.length c] 24)).heap.size = w.heap.size + 1 := by simp
    rw [← e1]; exact heap_alloc_new _ _
  have x0 : W2.cell? ⟨w.heap.size, 0, none⟩ = some (.int .i64 kd) := (cell_of_row _ _ 0 _ _ _ hX).trans rfl
  have x1 : W2.cell? ⟨w.heap.size, 1, none⟩ = some (.slice ao L.length c) := (cell_of_row _ _ 1 _ _ _ hX).trans rfl
  have y0 : W2.cell? ⟨w.heap.size + 1, 0, none⟩ = some (.int .i64 kd) := (cell_of_row _ _ 0 _ _ _ hY).trans rfl
  have y1 : W2.cell? ⟨w.heap.size + 1, 1, none⟩ = some (.slice bo L.length d) := (cell_of_row _ _ 1 _ _ _ hY).trans rfl
  have N1 := hide (sameW_any L ao bo c d W2 (hg.below hB2 (Nat.le_refl _)) (hh.below hB2 (Nat.le_refl _)) hl)
  have HW2 := hide hW2; have HB2 := hide hB2
  clear hW2 hB2 hX hY hg hh
  go_enter Tryd.func9, Tryd.ntmps9
  go_upto_region 1 with fail
  rw [← unhide HW2]
  go_wp2_with fail
  refine (unhide N1).mono ?_
  rintro e w1 ⟨rfl, hb⟩
  have HB := hide hb
  clear hb
  go_wp2
  go_ret
  exact ⟨rfl, (unhide HB2).trans ((unhide HB).mono (unhide HB2).size)⟩
theorem unp_pack (kd : Int) (l : List Prt) (h : packE kd l = 0) : unpK (packS kd l) = kd ∧ unpL (packS kd l) = l ∧ unpE (packS kd l) = 0 := by
  have hl : (packS kd l).data.toList = packL kd l := by rw [packS, if_pos h]
  have hm := msgP_pack kd l h
  have hb : unpB (packS kd l) = true := by
    unfold unpB
    rw [hl, hm]
    exact decide_eq_true ⟨h, rfl⟩
  unfold unpK unpL unpE
  rw [hb, hl, hm]
  exact ⟨rfl, rfl, rfl⟩
theorem pack_len (kd : Int) (l : List Prt) : (packS kd l).size ≤ 9223372036854775807 := by
  unfold packS
  split
  · rename_i h
    obtain ⟨_, _, hg⟩ := good_of_packE h
    have h1 := body_len (Int.le_refl 0) hg
    have h3 := good_len hg
    have h4 := last_le hg (by omega)
    have h2 : l.length ≤ 16 := by omega
    have : 10003 * l.length ≤ 10003 * 16 := Nat.mul_le_mul_left _ h2
    show (packL kd l).toArray.size ≤ _
    rw [List.size_toArray, packL, List.length_append, List.length_append, digs_length]
    simp only [List.length_cons, List.length_nil]
    omega
  · show 0 ≤ _; omega
theorem unpL_len (s : ByteArray) : (unpL s).length ≤ 16 := by
  unfold unpL
  split
  · have : ∀ f n b l, (readP f n b l).length ≤ f := by
      intro f
      induction f with
      | zero => intro n b l; exact Nat.le_refl _
      | succ f ih =>
        intro n b l
        simp only [readP]
        split
        · rw [List.length_cons]; have := ih (n + 1) b (partL n l).2; omega
        · have := ih (n + 1) b l; omega
    exact this 16 1 _ _
  · simp
theorem PRow.setY {w : World} {pa : Option Addr} {l : List Prt} {g : Nat} {k : Int} {a : Option Addr} {n c : Nat} {e : TypeId} (h : PRow w pa l) (hx : w.heap[g]? = some (.cells #[.int .i64 k, .slice a n c] e (0, 0))) (j j' : Nat) (v v' : Value) : PRow ((w.setCell ⟨g, j, none⟩ v).setCell ⟨g, j', none⟩ v') pa l := by
  rcases h with h | ⟨b, off, e1, hlt, hc⟩
  · exact .inl h
  · cases l with
    | nil => exact .inl rfl
    | cons x r =>
      have hne : b ≠ g := by
        intro hbg
        subst hbg
        have h1 := (hc 0 x rfl).2
        rw [cell_of_row _ _ (off + 0 * 2 + 1) _ _ _ hx] at h1
        cases off with
        | zero => cases h1
        | succ o => rw [show o + 1 + 0 * 2 + 1 = o + 2 by omega] at h1; simp at h1
      have hk : ((w.setCell ⟨g, j, none⟩ v).setCell ⟨g, j', none⟩ v').heap[b]? = w.heap[b]? := (set_otherW hne).trans (set_otherW hne)
      refine .inr ⟨b, off, e1, by simpa [World.setCell] using hlt, fun i p hi => ⟨(World.cell?_of_block hk).trans (hc i p hi).1, (World.cell?_of_block hk).trans (hc i p hi).2⟩⟩
theorem Env.below' {w w' : World} (h : Env w) (hb : Below w.heap.size w w') (h4 : 4 ≤ w.heap.size) : Env w' := h.below hb h4
set_option maxRecDepth 100000 in
set_option maxHeartbeats 8000000 in
theorem walkPacks (kd : Int) (l : List Prt) (pa : Option Addr) (c : Nat) (s : ByteArray) (w : World) (hr : PRow w pa l) (hl : (l.length : Int) ≤ 9223372036854775807)
    (hp : ∀ p ∈ l, (-9223372036854775808 ≤ p.1 ∧ p.1 ≤ 9223372036854775807) ∧ p.2.size ≤ maxLen) (hs : s.size ≤ 9223372036854775807) (he : Env w) (h4 : 4 ≤ w.heap.size) :
    Calls Tryd.prog 3 #[.agg #[.int .i64 kd, .slice pa l.length c], .string s] w fun e w' => e = .returned (.bool true) ∧ Below w.heap.size w w' := by
  obtain ⟨W1, hW1⟩ : ∃ W1, W1 = w.alloc (.cells #[.int .i64 kd, .slice pa l.length c] 24) := ⟨_, rfl⟩
  have hB1 : Below w.heap.size w W1 := by rw [hW1]; exact (Below.refl _ _).alloc (Nat.le_refl _) _
  have hS1 : W1.heap.size = w.heap.size + 1 := by rw [hW1]; simp
  have hX1 : W1.heap[w.heap.size]? = some (.cells #[.int .i64 kd, .slice pa l.length c] 24 (0, 0)) := by rw [hW1]; exact heap_alloc_new _ _
  have C0 := hide (fun w' (h : Below W1.heap.size W1 w') => (h.cell (p := ⟨w.heap.size, 0, none⟩) (by show w.heap.size < _; omega)).trans ((cell_of_row _ _ 0 _ _ _ hX1).trans rfl : W1.cell? ⟨w.heap.size, 0, none⟩ = some (.int .i64 kd)))
  have C1 := hide (fun w' (h : Below W1.heap.size W1 w') => (h.cell (p := ⟨w.heap.size, 1, none⟩) (by show w.heap.size < _; omega)).trans ((cell_of_row _ _ 1 _ _ _ hX1).trans rfl : W1.cell? ⟨w.heap.size, 1, none⟩ = some (.slice pa l.length c)))
  have hE1 : Env W1 := he.below hB1 h4
  have hR1 : PRow W1 pa l := hr.below hB1 (Nat.le_refl _)
  have N1 := hide (fun w' (h : Below W1.heap.size W1 w') => pack_any kd l pa c w' (hR1.below h (Nat.le_refl _)) hl hp (hE1.below h (by omega)) (by have := h.size; omega))
  have N2 := hide (fun w' (h : Below W1.heap.size W1 w') => rpack_any kd l pa c w' (hR1.below h (Nat.le_refl _)) hl hp)
  have N3 := hide (fun w' (h : Below W1.heap.size W1 w') => unpack_any s hs w' (hE1.below h (by omega)) (by have := h.size; omega))
  have N4 := hide (fun w' => runpack_any s hs w')
  have N5 := hide (fun w' (h : Below W1.heap.size W1 w') => unpack_any (packS kd l) (pack_len kd l) w' (hE1.below h (by omega)) (by have := h.size; omega))
  have hu := unp_pack kd l
  have N6 := hide (fun w' ao bo c d (h1 : PRow w' ao (unpL s)) (h2 : PRow w' bo (unpL s)) => sameM_any (unpK s) (unpL s) ao bo c d w' h1 h2 (by have := unpL_len s; omega))
  have N7 := hide (fun w' ao bo c d (h1 : PRow w' ao l) (h2 : PRow w' bo l) => sameM_any kd l ao bo c d w' h1 h2 hl)
  have hl3 := unpL_len s
  generalize unpK s = uk at *
  generalize unpL s = ul at *
  generalize unpE s = ue at *
  generalize unpK (packS kd l) = pk at *
  generalize unpL (packS kd l) = pl at *
  generalize unpE (packS kd l) = pue at *
  generalize packS kd l = ps at *
  generalize packE kd l = pe at *
  have HW1 := hide hW1; have HB1 := hide hB1; have HR1 := hide hR1; have HU := hide hu; have HS1 := hide hS1; have HX1 := hide hX1
  clear hW1 hB1 hS1 hX1 hE1 hR1 hu he hr hp
  go_enter Tryd.func3, Tryd.ntmps3
  go_upto_region 1 with fail
  rw [← unhide HW1]
  have c0 := unhide C0 W1 (Below.refl _ _); have c1 := unhide C1 W1 (Below.refl _ _)
  go_wp2_with fail
  refine (unhide N1 W1 (Below.refl _ _)).mono ?_
  rintro e w1 ⟨rfl, hb1⟩
  clear c0 c1
  have c0 := unhide C0 w1 hb1; have c1 := unhide C1 w1 hb1
  go_wp2_with fail
  refine (unhide N2 w1 hb1).mono ?_
  rintro e w2 ⟨rfl, hb2⟩
  have hb2' : Below W1.heap.size W1 w2 := hb1.trans (hb2.mono hb1.size)
  clear c0 c1 hb2
  go_wp2_with fail
  refine (unhide N3 w2 hb2').mono ?_
  rintro e w3 ⟨xa, xc, rfl, hx, hb3⟩
  obtain ⟨W4, hW4⟩ : ∃ W4, W4 = w3.alloc (.cells #[.int .i64 uk, .slice xa ul.length xc] 24) := ⟨_, rfl⟩
  have hB4 : Below w3.heap.size w3 W4 := by rw [hW4]; exact (Below.refl _ _).alloc (Nat.le_refl _) _
  have hS4 : W4.heap.size = w3.heap.size + 1 := by rw [hW4]; simp
  have hX4 : W4.heap[w3.heap.size]? = some (.cells #[.int .i64 uk, .slice xa ul.length xc] 24 (0, 0)) := by rw [hW4]; exact heap_alloc_new _ _
  have hb3' : Below W1.heap.size W1 w3 := hb2'.trans (hb3.mono hb2'.size)
  have hb4' : Below W1.heap.size W1 W4 := hb3'.trans (hB4.mono hb3'.size)
  have hx4 := hx.below hB4 (Nat.le_refl _)
  have HW4 := hide hW4; have HX4 := hide hX4; have HS4 := hide hS4; have HXR := hide hx4; have HB4' := hide hb4'
  have hbs4 := hb4'.size
  have hbs3 := hb3'.size
  clear hb1 hb2' hb3 hx hx4 hX4 hW4 hb3' hb4' hB4 hS4
  go_upto_region 4 with fail
  rw [← unhide HW4]
  go_wp2_with fail
  refine (unhide N4 W4).mono ?_
  rintro e w5 ⟨ya, yc, rfl, hy, hb5⟩
  obtain ⟨W6, hW6⟩ : ∃ W6, W6 = w5.alloc (.cells #[.int .i64 uk, .slice ya ul.length yc] 24) := ⟨_, rfl⟩
  have hB6 : Below w5.heap.size w5 W6 := by rw [hW6]; exact (Below.refl _ _).alloc (Nat.le_refl _) _
  have hS6 : W6.heap.size = w5.heap.size + 1 := by rw [hW6]; simp
  have hY6 : W6.heap[w5.heap.size]? = some (.cells #[.int .i64 uk, .slice ya ul.length yc] 24 (0, 0)) := by rw [hW6]; exact heap_alloc_new _ _
  have hs4 := unhide HS4
  have hs5 := hb5.size
  have hB46 : Below W4.heap.size W4 W6 := hb5.trans (hB6.mono hb5.size)
  have hX6 : W6.heap[w3.heap.size]? = some (.cells #[.int .i64 uk, .slice xa ul.length xc] 24 (0, 0)) := (hB46.block _ (by omega)).trans (unhide HX4)
  have hx6 := (unhide HXR).below hB46 (Nat.le_refl _)
  have hy6 := hy.below hB6 (Nat.le_refl _)
  have hb6' : Below W1.heap.size W1 W6 := (unhide HB4').trans (hB46.mono (unhide HB4').size)
  have N8 := hide (unhide N6 W6 xa ya xc yc hx6 hy6)
  have p0 : W6.cell? ⟨w3.heap.size, 0, none⟩ = some (.int .i64 uk) := (cell_of_row _ _ 0 _ _ _ hX6).trans rfl
  have p1 : W6.cell? ⟨w3.heap.size, 1, none⟩ = some (.slice xa ul.length xc) := (cell_of_row _ _ 1 _ _ _ hX6).trans rfl
  have q0 : W6.cell? ⟨w5.heap.size, 0, none⟩ = some (.int .i64 uk) := (cell_of_row _ _ 0 _ _ _ hY6).trans rfl
  have q1 : W6.cell? ⟨w5.heap.size, 1, none⟩ = some (.slice ya ul.length yc) := (cell_of_row _ _ 1 _ _ _ hY6).trans rfl
  have HW6 := hide hW6; have HX6 := hide hX6; have HB6' := hide hb6'
  have hlt3 : w3.heap.size < W6.heap.size := by omega
  have hne3 : w.heap.size < w3.heap.size := by have := unhide HS1; omega
  clear hW6 hB6 hS6 hY6 hs4 hs5 hB46 hX6 hx6 hy6 hb6' hy hb5
  go_upto_region 5 with fail
  rw [← unhide HW6]
  go_wp2_with fail
  refine (unhide N8).mono ?_
  rintro e w7 ⟨rfl, hb7⟩
  clear p0 p1 q0 q1 N8
  have hb7' : Below W1.heap.size W1 w7 := (unhide HB6').trans (hb7.mono (unhide HB6').size)
  have hX7 : w7.heap[w3.heap.size]? = some (.cells #[.int .i64 uk, .slice xa ul.length xc] 24 (0, 0)) := (hb7.block _ hlt3).trans (unhide HX6)
  have hlt7 : w3.heap.size < w7.heap.size := Nat.lt_of_lt_of_le hlt3 hb7.size
  have HX7 := hide hX7; have HB7' := hide hb7'
  clear hb7 hX7 hb7'
  go_wp2_with fail
  refine (unhide N5 w7 (unhide HB7')).mono ?_
  rintro e w8 ⟨za, zc, rfl, hz, hb8⟩
  have hX8 : w8.heap[w3.heap.size]? = some (.cells #[.int .i64 uk, .slice xa ul.length xc] 24 (0, 0)) := (hb8.block _ hlt7).trans (unhide HX7)
  have hb8' : Below W1.heap.size W1 w8 := (unhide HB7').trans (hb8.mono (unhide HB7').size)
  have e0 : w8.cell? ⟨w3.heap.size, 0, none⟩ = some (.int .i64 uk) := (cell_of_row _ _ 0 _ _ _ hX8).trans rfl
  have e1 : w8.cell? ⟨w3.heap.size, 1, none⟩ = some (.slice xa ul.length xc) := (cell_of_row _ _ 1 _ _ _ hX8).trans rfl
  have f0 : w8.frozen? ⟨w3.heap.size, 0, none⟩ = false := frozen_of_row _ _ 0 _ _ hX8
  have f1 : w8.frozen? ⟨w3.heap.size, 1, none⟩ = false := frozen_of_row _ _ 1 _ _ hX8
  have c0 := unhide C0 w8 hb8'
  have c1 := unhide C1 w8 hb8'
  have hB8 : Below w.heap.size w w8 := (unhide HB1).trans (hb8'.mono (unhide HB1).size)
  have HB8 := hide hB8
  by_cases h0 : pe = 0
  · obtain ⟨rfl, rfl, rfl⟩ := unhide HU h0
    subst h0
    have hz9 := hz.setY hX8 0 1 (.int .i64 pk) (.slice za pl.length zc)
    have hr9 := ((unhide HR1).below hb8' (Nat.le_refl _)).setY hX8 0 1 (.int .i64 pk) (.slice za pl.length zc)
    have N9 := hide (unhide N7 _ za pa zc c hz9 hr9)
    clear hz hb8 hX8 hb8' hB8 hz9 hr9
    go_wp2_with fail
    refine (unhide N9).mono ?_
    rintro e w9 ⟨rfl, hb9⟩
    have HB9 := hide hb9
    clear hb9
    go_wp2
    go_ret
    have h1 := ((unhide HB8).setCell (p := ⟨w3.heap.size, 0, none⟩) (by show w.heap.size ≤ w3.heap.size; omega) (.int .i64 pk)).setCell (p := ⟨w3.heap.size, 1, none⟩) (by show w.heap.size ≤ w3.heap.size; omega) (.slice za pl.length zc)
    exact ⟨rfl, h1.trans ((unhide HB9).mono h1.size)⟩
  · clear hz hb8 hX8 hb8' hB8
    have hpe : (pe != 0) = true := by simpa using h0
    go_wp2
    go_ret
    exact ⟨rfl, ((unhide HB8).setCell (p := ⟨w3.heap.size, 0, none⟩) (by show w.heap.size ≤ w3.heap.size; omega) _).setCell (p := ⟨w3.heap.size, 1, none⟩) (by show w.heap.size ≤ w3.heap.size; omega) _⟩
end Go.Proofs.YtkmmgeoialdmlaaDoor
