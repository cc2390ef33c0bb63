/- wire's Unpack. -/
import Derived.Test.YtkmmgeoialdmlaaDoorWireU
namespace Go.Proofs.YtkmmgeoialdmlaaDoor
open Go.RowKit
set_option linter.unusedVariables false

theorem PRow.setX {w : World} {pa : Option Addr} {l : List Prt} {g : Nat} {k : Int} {e : TypeId} (h : PRow w pa l) (hx : w.heap[g]? = some (.cells #[.int .i64 k, .slice none 0 0] e (0, 0))) (j j' : Nat) (v v' : Value) : PRow ((w.setCell ⟨g, j, none⟩ v).setCell ⟨g, j', none⟩ v') pa l := by
  rcases h with h | ⟨b, off, e1, hlt, hc⟩
  · exact .inl h
  · cases l with
    | nil => exact .inl rfl
    | cons x r =>
      have hne : b ≠ g := by
        intro hbg
        subst hbg
        have h1 := (hc 0 x rfl).2
        rw [cell_of_row _ _ (off + 0 * 2 + 1) _ _ _ hx] at h1
        cases off with
        | zero => cases h1
        | succ o => rw [show o + 1 + 0 * 2 + 1 = o + 2 by omega] at h1; simp at h1
      have hk : ((w.setCell ⟨g, j, none⟩ v).setCell ⟨g, j', none⟩ v').heap[b]? = w.heap[b]? := (set_otherW hne).trans (set_otherW hne)
      refine .inr ⟨b, off, e1, by simpa [World.setCell] using hlt, fun i p hi => ⟨(World.cell?_of_block hk).trans (hc i p hi).1, (World.cell?_of_block hk).trans (hc i p hi).2⟩⟩
/-- a message is what was written so -/
def unpB (s : ByteArray) : Bool := decide (packE (msgP s.data.toList).1 (msgP s.data.toList).2 = 0 ∧ packS (msgP s.data.toList).1 (msgP s.data.toList).2 = s)
def unpK (s : ByteArray) : Int := if unpB s then (msgP s.data.toList).1 else 0
def unpL (s : ByteArray) : List Prt := if unpB s then (msgP s.data.toList).2 else []
def unpE (s : ByteArray) : Int := if unpB s then 0 else 1
set_option maxRecDepth 100000 in
set_option maxHeartbeats 4000000 in
theorem unpack_any (s : ByteArray) (hs : s.size ≤ 9223372036854775807) (w : World) (he : Env w) (h4 : 4 ≤ w.heap.size) :
    Calls Tryd.prog 7 #[.string s] w fun e w' => ∃ pa c, e = .returned (.tuple #[.agg #[.int .i64 (unpK s), .slice pa (unpL s).length c], .int .i64 (unpE s)]) ∧ PRow w' pa (unpL s) ∧ Below w.heap.size w w' := by
  obtain ⟨W0, hW0⟩ : ∃ W0, W0 = w.alloc (.cells #[.int .i64 0, .slice none 0 0] 24) := ⟨_, rfl⟩
  have hB0 : Below w.heap.size w W0 := by rw [hW0]; exact (Below.refl _ _).alloc (Nat.le_refl _) _
  have hS0 : W0.heap.size = w.heap.size + 1 := by rw [hW0]; simp
  have hX0 : W0.heap[w.heap.size]? = some (.cells #[.int .i64 0, .slice none 0 0] 24 (0, 0)) := by rw [hW0]; exact heap_alloc_new _ _
  have hE0 := he.below hB0 h4
  have N1 := hide (messageOf_any s hs W0 hE0 (by omega))
  have hok := fun p hp => readP_ok 16 1 (bitsL (takeL 2 (numL 2 s.data.toList).2).1) (takeL 2 (numL 2 s.data.toList).2).2 (by omega) p hp
  have hlen : (takeL 2 (numL 2 s.data.toList).2).2.length ≤ s.size := by
    have h1 := (takeL_len 2 (numL 2 s.data.toList).2).2
    have h2 : (numL 2 s.data.toList).2.length ≤ s.data.toList.length := (takeL_len _ _).2
    have h3 : s.data.toList.length = s.size := by rw [Array.length_toList]; rfl
    omega
  have hok2 : ∀ p ∈ (msgP s.data.toList).2, (-9223372036854775808 ≤ p.1 ∧ p.1 ≤ 9223372036854775807) ∧ p.2.size ≤ maxLen := fun p hp => ⟨(hok p hp).1, Nat.le_trans (hok p hp).2 (by unfold maxLen; omega)⟩
  have hl16 : (msgP s.data.toList).2.length ≤ 16 := by
    have : ∀ f n b l, (readP f n b l).length ≤ f := by
      intro f
      induction f with
      | zero => intro n b l; exact Nat.le_refl _
      | succ f ih =>
        intro n b l
        simp only [readP]
        split
        · rw [List.length_cons]; have := ih (n + 1) b (partL n l).2; omega
        · have := ih (n + 1) b l; omega
    exact this 16 1 _ _
  have hub : unpB s = decide (packE (msgP s.data.toList).1 (msgP s.data.toList).2 = 0 ∧ packS (msgP s.data.toList).1 (msgP s.data.toList).2 = s) := rfl
  unfold unpK unpL unpE
  generalize (msgP s.data.toList).1 = kd at *
  generalize (msgP s.data.toList).2 = l at *
  generalize unpB s = ub at *
  have N2 := hide (fun w' pa c (h' : PRow w' pa l) (he' : Env w') (hs' : 4 ≤ w'.heap.size) => pack_any kd l pa c w' h' (by omega) hok2 he' hs')
  have HW0 := hide hW0; have HB0 := hide hB0; have HS0 := hide hS0; have HX0 := hide hX0; have HE0 := hide hE0
  clear hW0 hB0 hS0 hX0 hE0 hok hlen hok2 he hs
  obtain ⟨pe, hpe⟩ : ∃ pe, pe = packE kd l := ⟨_, rfl⟩
  obtain ⟨ps, hps⟩ : ∃ ps, ps = packS kd l := ⟨_, rfl⟩
  rw [← hpe, ← hps] at hub N2
  clear hpe hps
  go_enter Tryd.func7, Tryd.ntmps7
  go_upto_region 1 with fail
  rw [← unhide HW0]
  go_wp2_with fail
  refine (unhide N1).mono ?_
  rintro e w1 ⟨pa, c, rfl, hp1, hb1⟩
  obtain ⟨W2, hW2⟩ : ∃ W2, W2 = w1.alloc (.cells #[.int .i64 kd, .slice pa l.length c] 24) := ⟨_, rfl⟩
  have hB2 : Below w1.heap.size w1 W2 := by rw [hW2]; exact (Below.refl _ _).alloc (Nat.le_refl _) _
  have hS2 : W2.heap.size = w1.heap.size + 1 := by rw [hW2]; simp
  have hM2 : W2.heap[w1.heap.size]? = some (.cells #[.int .i64 kd, .slice pa l.length c] 24 (0, 0)) := by rw [hW2]; exact heap_alloc_new _ _
  have hp2 : PRow W2 pa l := hp1.below hB2 (Nat.le_refl _)
  have hs1 := hb1.size
  have hs0 := unhide HS0
  have hE2 : Env W2 := ((unhide HE0).below hb1 (by omega)).below hB2 (by omega)
  have N3 := hide (unhide N2 W2 pa c hp2 hE2 (by omega))
  have m0 : W2.cell? ⟨w1.heap.size, 0, none⟩ = some (.int .i64 kd) := (cell_of_row _ _ 0 _ _ _ hM2).trans rfl
  have m1 : W2.cell? ⟨w1.heap.size, 1, none⟩ = some (.slice pa l.length c) := (cell_of_row _ _ 1 _ _ _ hM2).trans rfl
  have hX2 : W2.heap[w.heap.size]? = some (.cells #[.int .i64 0, .slice none 0 0] 24 (0, 0)) := ((hB2.block _ (by omega)).trans (hb1.block _ (by omega))).trans (unhide HX0)
  have hB02 : Below w.heap.size w W2 := (unhide HB0).trans ((hb1.mono (by omega)).trans (hB2.mono (by omega)))
  have HW2 := hide hW2; have HM2 := hide hM2; have HP2 := hide hp2; have HX2 := hide hX2; have HB02 := hide hB02
  have hlt1 : w.heap.size < w1.heap.size := by omega
  have hlt2 : w1.heap.size < W2.heap.size := by omega
  clear hW2 hB2 hS2 hM2 hp2 hs1 hs0 hE2 hX2 hB02 N1 N2 hp1 hb1
  go_upto_region 2 with fail
  rw [← unhide HW2]
  go_wp2_with fail
  refine (unhide N3).mono ?_
  rintro e w3 ⟨rfl, hb3⟩
  have hM3 := (hb3.block _ hlt2).trans (unhide HM2)
  have hX3 := (hb3.block _ (by omega)).trans (unhide HX2)
  have hP3 := (unhide HP2).below hb3 (Nat.le_refl _)
  have hB3 : Below w.heap.size w w3 := (unhide HB02).trans (hb3.mono (by omega))
  have c0 : w3.cell? ⟨w1.heap.size, 0, none⟩ = some (.int .i64 kd) := (cell_of_row _ _ 0 _ _ _ hM3).trans rfl
  have c1 : w3.cell? ⟨w1.heap.size, 1, none⟩ = some (.slice pa l.length c) := (cell_of_row _ _ 1 _ _ _ hM3).trans rfl
  have x0 : w3.cell? ⟨w.heap.size, 0, none⟩ = some (.int .i64 0) := (cell_of_row _ _ 0 _ _ _ hX3).trans rfl
  have x1 : w3.cell? ⟨w.heap.size, 1, none⟩ = some (.slice none 0 0) := (cell_of_row _ _ 1 _ _ _ hX3).trans rfl
  have f0 : w3.frozen? ⟨w.heap.size, 0, none⟩ = false := frozen_of_row _ _ 0 _ _ hX3
  have f1 : w3.frozen? ⟨w.heap.size, 1, none⟩ = false := frozen_of_row _ _ 1 _ _ hX3
  have HP3 := hide (hP3.setX hX3 0 1 (.int .i64 kd) (.slice pa l.length c)); have HB3 := hide hB3
  clear hM3 hX3 hP3 hB3 hb3 N3 HM2 HX2 HP2 HB02 HW2 HW0 HB0 HS0 HX0 HE0 m0 m1
  by_cases h0 : pe = 0
  · subst h0
    by_cases h1 : ps = s
    · subst h1
      have hu : ub = true := by rw [hub]; simp
      subst hu
      clear hub
      go_wp2_with fail
      refine bodyPost_ret (v := .tuple #[.agg #[.int .i64 kd, .slice pa l.length c], .int .i64 0]) (by simp [results, Tryd.results7, go_sem, x0, x1]) rfl ⟨pa, ⟨c, rfl⟩, unhide HP3, ?_⟩
      exact ((unhide HB3).setCell (p := ⟨w.heap.size, 0, none⟩) (Nat.le_refl _) _).setCell (p := ⟨w.heap.size, 1, none⟩) (Nat.le_refl _) _
    · have hu : ub = false := by rw [hub]; simp [h1]
      subst hu
      have hne : (ps.toList == s.toList) = false := by
        rw [beq_eq_false_iff_ne, Lib.toList_data, Lib.toList_data]
        exact fun h => h1 (ByteArray.ext (Array.toList_inj.1 h))
      clear hub
      go_wp2_with fail
      refine bodyPost_ret (v := .tuple #[.agg #[.int .i64 0, .slice none 0 0], .int .i64 1]) (by simp [results, Tryd.results7, go_sem, x0, x1]) rfl ⟨none, ⟨0, rfl⟩, .inl rfl, ?_⟩
      exact ((unhide HB3).setCell (p := ⟨w.heap.size, 0, none⟩) (Nat.le_refl _) _).setCell (p := ⟨w.heap.size, 1, none⟩) (Nat.le_refl _) _
  · have hu : ub = false := by rw [hub]; simp [h0]
    subst hu
    clear hub
    go_wp2_with fail
    refine bodyPost_ret (v := .tuple #[.agg #[.int .i64 0, .slice none 0 0], .int .i64 1]) (by simp [results, Tryd.results7, go_sem, x0, x1]) rfl ⟨none, ⟨0, rfl⟩, .inl rfl, ?_⟩
    exact ((unhide HB3).setCell (p := ⟨w.heap.size, 0, none⟩) (Nat.le_refl _) _).setCell (p := ⟨w.heap.size, 1, none⟩) (Nat.le_refl _) _
end Go.Proofs.YtkmmgeoialdmlaaDoor
