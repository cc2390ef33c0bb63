/- clear, the document's own: Look; and Look of the program over the whole. -/
import Derived.Test.YtbgplapbdghdmaaClrZ
namespace Go.Proofs.Ytbgplapbdghdmaa
open Go.RowKit
set_option linter.unusedVariables false
set_option linter.unusedSimpArgs false
set_option maxRecDepth 100000

/-- Look of the program -/
theorem lookC {w : World} {F : Nat → Prop} {b m1 m2 n k : Nat} {S : Clr} {qs : List Nat} (h : CIn w F b S m1 m2 n k qs) (hok : okS S) (shop trace day : Int) (h1 : InR shop) (h2 : InR trace) :
    Calls Try.prog 12 #[.pointer (some ⟨b, 0, none⟩), .int .i64 shop, .int .i64 trace, .int .i64 day] w fun e w' => e = .returned (.tuple #[caseV (lookS S shop trace day).1, .int .i64 (lookS S shop trace day).2]) ∧ Below w.heap.size w w' := by
  unfold lookS
  by_cases hd : dayE S.last day = 0
  · rw [if_neg (by simpa using hd)]
    cases hi : idxK S.L shop trace with
    | none => exact look_none b m1 m2 n S.L.length S.D S.last shop trace day (gOf S.L qs) w h.blk h.nm h1 h2 hd (by unfold gOf; rw [hi]; rfl)
    | some i =>
      obtain ⟨q, x, hq, hx, hg, hP, e1, e2⟩ := h.at hi
      have hgd : S.L.getD i default = x := by rw [List.getD_eq_getElem?_getD, hx]; rfl
      obtain ⟨o1, o2, o3⟩ := hok.each x (List.mem_of_getElem? hx)
      dsimp only
      rw [hgd]
      exact look_yes b m1 m2 n S.L.length q S.D S.last shop trace day (gOf S.L qs) x.p x.c w h.blk h.nm h1 h2 hd hg hP ⟨o1.2.1, o1.2.2.1⟩ (wait_in hok.D _)
  · rw [if_pos hd]
    exact look_day b m1 m2 S.D S.last shop trace day w h.blk hd
variable {w w' : World} {G : Nat → Prop} {r : Nat} {S : Clr} {vL vO : Value} {ks : List (Kse × Value)} {os : List Ow}
set_option maxHeartbeats 2000000 in
theorem rlookC (h : RIn w G r S vL vO ks os) (hok : okS S) (hokD : okDs S.L) (shop trace day : Int) :
    Calls Try.prog 16 #[.pointer (some ⟨r, 0, none⟩), .int .i64 shop, .int .i64 trace, .int .i64 day] w fun e w' => e = .returned (.tuple #[caseV (lookS S shop trace day).1, .int .i64 (lookS S shop trace day).2]) ∧ Below w.heap.size w w' := by
  have ha : Below w.heap.size w (w.alloc (.cells #[.int .i64 0, .int .i64 0, .int .i64 0, .int .i64 0] 49)) := (Below.refl w.heap.size w).alloc (Nat.le_refl _) _
  have hI := h.keep ha.size (fun x hx => ha.block x (h.glt x hx))
  have n1 := rday_any r S.D S.last day vL vO _ hI.blk
  have HA := hide ha
  unfold lookS
  by_cases hd : dayE S.last day = 0
  · rw [if_neg (by simpa using hd)]
    rw [hd] at n1
    have n2 := kase_any hI hok shop trace
    cases hi : idxK S.L shop trace with
    | none =>
      rw [hi] at n2
      have N1 := hide n1; have N2 := hide n2
      unfold kPtr caseV at *
      clear n1 n2 h hI hok hokD hd hi ha
      go_enter Try.func16, Try.ntmps16
      go_wp2_with fail
      refine (unhide N1).mono ?_
      rintro e w1 ⟨rfl, hw1⟩
      rw [hw1]
      clear hw1
      go_wp2_with fail
      refine (unhide N2).mono ?_
      rintro e w1 ⟨rfl, hw1⟩
      rw [hw1]
      clear hw1
      go_wp2
      exact bodyPost_ret (v := .tuple #[.agg #[.int .i64 0, .int .i64 0, .int .i64 0, .int .i64 0], .int .i64 5]) (by simp [results, Try.results16, go_sem]) rfl ⟨rfl, by first | exact unhide HA | exact (((((unhide HA).setCell (Nat.le_refl _) _).setCell (Nat.le_refl _) _).setCell (Nat.le_refl _) _).setCell (Nat.le_refl _) _)⟩
    | some i =>
      rw [hi] at n2
      obtain ⟨k0, hk0, _, _, hlt⟩ := idxK_some hi
      have hkl : ks.length = S.L.length := by rw [← h.lst, List.length_map]
      obtain ⟨x, hx⟩ : ∃ x, ks[i]? = some x := ⟨_, List.getElem?_eq_getElem (by omega)⟩
      have hxL : S.L[i]? = some x.1 := by rw [← h.lst, List.getElem?_map, hx]; rfl
      have hgd : S.L.getD i default = x.1 := by rw [List.getD_eq_getElem?_getD, hxL]; rfl
      have hz := dayE_zero hd
      obtain ⟨gL, hgL, n3⟩ := rOnC hI hok hokD hx day ⟨hz.1, hz.2.1⟩
      have hp : kPtr vL (some i) = .pointer (some ⟨gL, i * 7, none⟩) := by unfold kPtr; rw [hgL]; rfl
      rw [hp] at n2
      dsimp only
      rw [hgd]
      unfold caseV at *
      generalize onC S.D x.1.c day = oc at *
      obtain ⟨o1, o2, o3, o4⟩ := oc
      dsimp only at *
      have R8 := hide (alloc_at w (.cells #[.int .i64 0, .int .i64 0, .int .i64 0, .int .i64 0] 49))
      have N1 := hide n1; have N2 := hide n2; have N3 := hide n3
      clear n1 n2 n3 h hI hok hokD hd hi ha hk0 hlt hkl hx hxL hgd hz hgL hp
      go_enter Try.func16, Try.ntmps16
      go_wp2_with fail
      refine (unhide N1).mono ?_
      rintro e w1 ⟨rfl, hw1⟩
      rw [hw1]
      clear hw1
      go_wp2_with fail
      refine (unhide N2).mono ?_
      rintro e w1 ⟨rfl, hw1⟩
      rw [hw1]
      clear hw1
      go_wp2_with fail
      refine (unhide N3).mono ?_
      rintro e w2 ⟨rfl, hb2⟩
      have hb8 := (hb2.block w.heap.size (by simp)).trans (unhide R8)
      have z0 : w2.cell? ⟨w.heap.size, 0, none⟩ = some (.int .i64 0) := by simp [World.cell?, hb8]
      have z1 : w2.cell? ⟨w.heap.size, 1, none⟩ = some (.int .i64 0) := by simp [World.cell?, hb8]
      have z2 : w2.cell? ⟨w.heap.size, 2, none⟩ = some (.int .i64 0) := by simp [World.cell?, hb8]
      have z3 : w2.cell? ⟨w.heap.size, 3, none⟩ = some (.int .i64 0) := by simp [World.cell?, hb8]
      have f0 : w2.frozen? ⟨w.heap.size, 0, none⟩ = false := by simp [World.frozen?, hb8]
      have f1 : w2.frozen? ⟨w.heap.size, 1, none⟩ = false := by simp [World.frozen?, hb8]
      have f2 : w2.frozen? ⟨w.heap.size, 2, none⟩ = false := by simp [World.frozen?, hb8]
      have f3 : w2.frozen? ⟨w.heap.size, 3, none⟩ = false := by simp [World.frozen?, hb8]
      have HB := hide ((unhide HA).trans (hb2.mono (by simp)))
      clear hb2 hb8
      go_wp2
      exact bodyPost_ret (v := .tuple #[.agg #[.int .i64 o1, .int .i64 o2, .int .i64 o3, .int .i64 o4], .int .i64 0]) (by simp [results, Try.results16, go_sem, z0, z1, z2, z3]) rfl ⟨rfl, (((((unhide HB).setCell (Nat.le_refl _) _).setCell (Nat.le_refl _) _).setCell (Nat.le_refl _) _).setCell (Nat.le_refl _) _)⟩
  · rw [if_pos hd]
    have hne : (dayE S.last day != 0) = true := by simpa using hd
    generalize dayE S.last day = er at *
    have N1 := hide n1
    unfold caseV at *
    clear n1 h hI hok hokD hd ha
    go_enter Try.func16, Try.ntmps16
    go_wp2_with fail
    refine (unhide N1).mono ?_
    rintro e w1 ⟨rfl, hw1⟩
    rw [hw1]
    clear hw1
    go_wp2
    exact bodyPost_ret (v := .tuple #[.agg #[.int .i64 0, .int .i64 0, .int .i64 0, .int .i64 0], .int .i64 er]) (by simp [results, Try.results16, go_sem]) rfl ⟨rfl, by first | exact unhide HA | exact (((((unhide HA).setCell (Nat.le_refl _) _).setCell (Nat.le_refl _) _).setCell (Nat.le_refl _) _).setCell (Nat.le_refl _) _)⟩
end Go.Proofs.Ytbgplapbdghdmaa
