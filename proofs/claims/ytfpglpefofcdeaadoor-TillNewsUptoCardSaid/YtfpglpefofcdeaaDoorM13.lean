/- What a customer wants: what is wrong with it, by the program and by the document's own. Made by drafts/genTnF.py. -/
import Derived.Test.YtfpglpefofcdeaaDoorM12
namespace Go.Proofs.YtfpglpefofcdeaaDoor
open Go.RowKit
set_option linter.unusedVariables false
set_option linter.unusedSimpArgs false
set_option maxRecDepth 100000

theorem digitsB_asN (s : ByteArray) (lo hi : Int) : digitsB s lo hi = (inB s.size lo hi && allDig s) := by
  unfold digitsB
  rw [digB_all, Bool.and_comm]
set_option maxHeartbeats 1000000 in
theorem tdigits_any (s : ByteArray) (hs : s.size ≤ maxLen) (w : World) :
    Calls Tryd.prog 29 #[.string s] w fun e w' => e = .returned (.bool (digitsB s 4 12)) ∧ Below w.heap.size w w' := by
  have N0 := hide (fun w' => nwithin_any (s.size : Int) 4 12 w')
  have N1 := hide (fun w' => trim_any s w' (by unfold maxLen at hs; omega))
  have HD := hide (digitsB_asN s 4 12)
  generalize digitsB s 4 12 = db at *
  generalize allDig s = ad at *
  unfold digitsT at N1
  clear hs
  cases hi2 : inB s.size 4 12 with
  | false =>
    rw [hi2] at N0 HD
    have HQ : Hid (db = false) := hide ((unhide HD).trans rfl)
    clear hi2
    go_enter Tryd.func29, Tryd.ntmps29
    go_wp2_with fail
    refine (unhide N0 _).mono ?_
    rintro e w1 ⟨rfl, hw1⟩
    have hw2 := hw1.symm
    subst hw2
    go_wp2
    go_ret
    exact ⟨ret_bool (unhide HQ).symm, Below.refl _ _⟩
  | true =>
    rw [hi2] at N0 HD
    have HQ : Hid (db = ad) := hide ((unhide HD).trans (Bool.true_and _))
    clear hi2
    go_enter Tryd.func29, Tryd.ntmps29
    go_wp2_with fail
    refine (unhide N0 _).mono ?_
    rintro e w1 ⟨rfl, hw1⟩
    have hw2 := hw1.symm
    subst hw2
    go_wp2_with fail
    refine (unhide N1 _).mono ?_
    rintro e w2 ⟨hb, t, rfl, ht⟩
    have HB := hide hb; have HT := hide ht
    clear hb ht
    go_wp2
    go_ret
    exact ⟨ret_bool (by rw [unhide HQ, ← unhide HT]), unhide HB⟩
/-- what is wrong with what a customer wants -/
def buyV (q : Bool) (n8 : Bool) (em dg : Bool) : Int := bif q then (bif n8 then (bif em || dg then 0 else 1) else 1) else 3
def buyQ (b : XBuy) : Bool := inB b.amount 0 999999999999 && inB b.other 0 999999999999 && inB b.day 0 65535 && inB b.month 0 65535 && inB b.trace 0 4294967295 && inB b.draw 1 99
def buyE (b : XBuy) : Int := buyV (buyQ b) (decide (b.nonce.size = 8)) b.digits.toList.isEmpty (digitsB b.digits 4 12)
theorem buyAt {W : World} {b : Nat} {t : TypeId} {v0 v1 v2 v3 v4 v5 v6 v7 v8 v9 v10 v11 : Value} (h : W.heap[b]? = some (.cells #[v0, v1, v2, v3, v4, v5, v6, v7, v8, v9, v10, v11] t (0, 0))) : W.cell? ⟨b, 0, none⟩ = some v0 ∧ W.cell? ⟨b, 1, none⟩ = some v1 ∧ W.cell? ⟨b, 2, none⟩ = some v2 ∧ W.cell? ⟨b, 3, none⟩ = some v3 ∧ W.cell? ⟨b, 4, none⟩ = some v4 ∧ W.cell? ⟨b, 5, none⟩ = some v5 ∧ W.cell? ⟨b, 6, none⟩ = some v6 ∧ W.cell? ⟨b, 7, none⟩ = some v7 ∧ W.cell? ⟨b, 8, none⟩ = some v8 ∧ W.cell? ⟨b, 9, none⟩ = some v9 ∧ W.cell? ⟨b, 10, none⟩ = some v10 ∧ W.cell? ⟨b, 11, none⟩ = some v11 :=
  ⟨cell_of_row _ _ 0 _ _ _ h, cell_of_row _ _ 1 _ _ _ h, cell_of_row _ _ 2 _ _ _ h, cell_of_row _ _ 3 _ _ _ h, cell_of_row _ _ 4 _ _ _ h, cell_of_row _ _ 5 _ _ _ h, cell_of_row _ _ 6 _ _ _ h, cell_of_row _ _ 7 _ _ _ h, cell_of_row _ _ 8 _ _ _ h, cell_of_row _ _ 9 _ _ _ h, cell_of_row _ _ 10 _ _ _ h, cell_of_row _ _ 11 _ _ _ h⟩
set_option maxHeartbeats 4000000 in
theorem checkBuy_any (b : XBuy) (w : World) (hok : okBuy w b) :
    Calls Tryd.prog 15 #[valBuy b] w fun e w' => e = .returned (.int .i64 (buyE b)) ∧ Below w.heap.size w w' := by
  obtain ⟨am, ot, dy, mt, tr, dr, ca, sg, mu, dg, no, co, cf, cc⟩ := b
  obtain ⟨_, _, _, _, _, _, hdz, _, _⟩ := hok
  have hdz : dg.size ≤ maxLen := hdz
  unfold buyE buyQ valBuy
  simp only
  obtain ⟨W1, hW1⟩ : ∃ W1, W1 = w.alloc (.cells #[.int .i64 am, .int .i64 ot, .int .i64 dy, .int .i64 mt, .int .i64 tr, .int .i64 dr, .bool ca, .bool sg, .bool mu, .string dg, .string no, .slice co cf.length cc] 33) := ⟨_, rfl⟩
  have hB1 : Below w.heap.size w W1 := by rw [hW1]; exact (Below.refl _ _).alloc (Nat.le_refl _) _
  have hX1 : W1.heap[w.heap.size]? = some (.cells #[.int .i64 am, .int .i64 ot, .int .i64 dy, .int .i64 mt, .int .i64 tr, .int .i64 dr, .bool ca, .bool sg, .bool mu, .string dg, .string no, .slice co cf.length cc] 33 (0, 0)) := by rw [hW1]; exact heap_alloc_new _ _
  have HX := hide (fun W (hb : Below W1.heap.size W1 W) => buyAt (rowN hX1 hb))
  have N0 := hide (fun W => nwithin_any am 0 999999999999 W)
  have N1 := hide (fun W => nwithin_any ot 0 999999999999 W)
  have N2 := hide (fun W => nwithin_any dy 0 65535 W)
  have N3 := hide (fun W => nwithin_any mt 0 65535 W)
  have N4 := hide (fun W => nwithin_any tr 0 4294967295 W)
  have N5 := hide (fun W => nwithin_any dr 1 99 W)
  have ND := hide (fun W => tdigits_any dg hdz W)
  generalize inB am 0 999999999999 = q0 at *
  generalize inB ot 0 999999999999 = q1 at *
  generalize inB dy 0 65535 = q2 at *
  generalize inB mt 0 65535 = q3 at *
  generalize inB tr 0 4294967295 = q4 at *
  generalize inB dr 1 99 = q5 at *
  generalize digitsB dg 4 12 = db at *
  obtain ⟨em, hem⟩ : ∃ em, em = dg.toList.isEmpty := ⟨_, rfl⟩
  obtain ⟨n8, hn8⟩ : ∃ n8, n8 = decide (no.size = 8) := ⟨_, rfl⟩
  rw [← hem, ← hn8]
  have HB1 := hide hB1; have HW1 := hide hW1; have HE := hide hem; have HN8 := hide hn8
  clear hB1 hX1 hW1 hdz hem hn8
  cases q0 with
  | false =>
    have HV : Hid (buyV (false && q1 && q2 && q3 && q4 && q5) n8 em db = 3) := hide (by simp [buyV])
    obtain ⟨c0, c1, c2, c3, c4, c5, c6, c7, c8, c9, c10, c11⟩ := unhide HX W1 (Below.refl _ _)
    go_enter Tryd.func15, Tryd.ntmps15
    go_upto_region 1 with fail
    rw [← unhide HW1]
    go_wp2_with fail
    refine (unhide N0 _).mono ?_
    rintro e u0 ⟨rfl, hy⟩
    have hy' := hy.symm
    subst hy'
    clear hy
    go_wp2
    go_ret
    exact ⟨ret_intN HV, unhide HB1⟩
  | true =>
  cases q1 with
  | false =>
    have HV : Hid (buyV (true && false && q2 && q3 && q4 && q5) n8 em db = 3) := hide (by simp [buyV])
    obtain ⟨c0, c1, c2, c3, c4, c5, c6, c7, c8, c9, c10, c11⟩ := unhide HX W1 (Below.refl _ _)
    go_enter Tryd.func15, Tryd.ntmps15
    go_upto_region 1 with fail
    rw [← unhide HW1]
    go_wp2_with fail
    refine (unhide N0 _).mono ?_
    rintro e u0 ⟨rfl, hy⟩
    have hy' := hy.symm
    subst hy'
    clear hy
    go_wp2_with fail
    refine (unhide N1 _).mono ?_
    rintro e u1 ⟨rfl, hy⟩
    have hy' := hy.symm
    subst hy'
    clear hy
    go_wp2
    go_ret
    exact ⟨ret_intN HV, unhide HB1⟩
  | true =>
  cases q2 with
  | false =>
    have HV : Hid (buyV (true && true && false && q3 && q4 && q5) n8 em db = 3) := hide (by simp [buyV])
    obtain ⟨c0, c1, c2, c3, c4, c5, c6, c7, c8, c9, c10, c11⟩ := unhide HX W1 (Below.refl _ _)
    go_enter Tryd.func15, Tryd.ntmps15
    go_upto_region 1 with fail
    rw [← unhide HW1]
    go_wp2_with fail
    refine (unhide N0 _).mono ?_
    rintro e u0 ⟨rfl, hy⟩
    have hy' := hy.symm
    subst hy'
    clear hy
    go_wp2_with fail
    refine (unhide N1 _).mono ?_
    rintro e u1 ⟨rfl, hy⟩
    have hy' := hy.symm
    subst hy'
    clear hy
    go_wp2_with fail
    refine (unhide N2 _).mono ?_
    rintro e u2 ⟨rfl, hy⟩
    have hy' := hy.symm
    subst hy'
    clear hy
    go_wp2
    go_ret
    exact ⟨ret_intN HV, unhide HB1⟩
  | true =>
  cases q3 with
  | false =>
    have HV : Hid (buyV (true && true && true && false && q4 && q5) n8 em db = 3) := hide (by simp [buyV])
    obtain ⟨c0, c1, c2, c3, c4, c5, c6, c7, c8, c9, c10, c11⟩ := unhide HX W1 (Below.refl _ _)
    go_enter Tryd.func15, Tryd.ntmps15
    go_upto_region 1 with fail
    rw [← unhide HW1]
    go_wp2_with fail
    refine (unhide N0 _).mono ?_
    rintro e u0 ⟨rfl, hy⟩
    have hy' := hy.symm
    subst hy'
    clear hy
    go_wp2_with fail
    refine (unhide N1 _).mono ?_
    rintro e u1 ⟨rfl, hy⟩
    have hy' := hy.symm
    subst hy'
    clear hy
    go_wp2_with fail
    refine (unhide N2 _).mono ?_
    rintro e u2 ⟨rfl, hy⟩
    have hy' := hy.symm
    subst hy'
    clear hy
    go_wp2_with fail
    refine (unhide N3 _).mono ?_
    rintro e u3 ⟨rfl, hy⟩
    have hy' := hy.symm
    subst hy'
    clear hy
    go_wp2
    go_ret
    exact ⟨ret_intN HV, unhide HB1⟩
  | true =>
  cases q4 with
  | false =>
    have HV : Hid (buyV (true && true && true && true && false && q5) n8 em db = 3) := hide (by simp [buyV])
    obtain ⟨c0, c1, c2, c3, c4, c5, c6, c7, c8, c9, c10, c11⟩ := unhide HX W1 (Below.refl _ _)
    go_enter Tryd.func15, Tryd.ntmps15
    go_upto_region 1 with fail
    rw [← unhide HW1]
    go_wp2_with fail
    refine (unhide N0 _).mono ?_
    rintro e u0 ⟨rfl, hy⟩
    have hy' := hy.symm
    subst hy'
    clear hy
    go_wp2_with fail
    refine (unhide N1 _).mono ?_
    rintro e u1 ⟨rfl, hy⟩
    have hy' := hy.symm
    subst hy'
    clear hy
    go_wp2_with fail
    refine (unhide N2 _).mono ?_
    rintro e u2 ⟨rfl, hy⟩
    have hy' := hy.symm
    subst hy'
    clear hy
    go_wp2_with fail
    refine (unhide N3 _).mono ?_
    rintro e u3 ⟨rfl, hy⟩
    have hy' := hy.symm
    subst hy'
    clear hy
    go_wp2_with fail
    refine (unhide N4 _).mono ?_
    rintro e u4 ⟨rfl, hy⟩
    have hy' := hy.symm
    subst hy'
    clear hy
    go_wp2
    go_ret
    exact ⟨ret_intN HV, unhide HB1⟩
  | true =>
  cases q5 with
  | false =>
    have HV : Hid (buyV (true && true && true && true && true && false) n8 em db = 3) := hide (by simp [buyV])
    obtain ⟨c0, c1, c2, c3, c4, c5, c6, c7, c8, c9, c10, c11⟩ := unhide HX W1 (Below.refl _ _)
    go_enter Tryd.func15, Tryd.ntmps15
    go_upto_region 1 with fail
    rw [← unhide HW1]
    go_wp2_with fail
    refine (unhide N0 _).mono ?_
    rintro e u0 ⟨rfl, hy⟩
    have hy' := hy.symm
    subst hy'
    clear hy
    go_wp2_with fail
    refine (unhide N1 _).mono ?_
    rintro e u1 ⟨rfl, hy⟩
    have hy' := hy.symm
    subst hy'
    clear hy
    go_wp2_with fail
    refine (unhide N2 _).mono ?_
    rintro e u2 ⟨rfl, hy⟩
    have hy' := hy.symm
    subst hy'
    clear hy
    go_wp2_with fail
    refine (unhide N3 _).mono ?_
    rintro e u3 ⟨rfl, hy⟩
    have hy' := hy.symm
    subst hy'
    clear hy
    go_wp2_with fail
    refine (unhide N4 _).mono ?_
    rintro e u4 ⟨rfl, hy⟩
    have hy' := hy.symm
    subst hy'
    clear hy
    go_wp2_with fail
    refine (unhide N5 _).mono ?_
    rintro e u5 ⟨rfl, hy⟩
    have hy' := hy.symm
    subst hy'
    clear hy
    go_wp2
    go_ret
    exact ⟨ret_intN HV, unhide HB1⟩
  | true =>
  by_cases h8 : no.size = 8
  case neg =>
    have hn : n8 = false := by rw [unhide HN8]; exact decide_eq_false h8
    subst hn
    have HV : Hid (buyV (true && true && true && true && true && true) false em db = 1) := hide (by simp [buyV])
    have t8 : ((no.size : Int) != 8) = true := by simp; omega
    clear h8
    obtain ⟨c0, c1, c2, c3, c4, c5, c6, c7, c8, c9, c10, c11⟩ := unhide HX W1 (Below.refl _ _)
    go_enter Tryd.func15, Tryd.ntmps15
    go_upto_region 1 with fail
    rw [← unhide HW1]
    go_wp2_with fail
    refine (unhide N0 _).mono ?_
    rintro e u0 ⟨rfl, hy⟩
    have hy' := hy.symm
    subst hy'
    clear hy
    go_wp2_with fail
    refine (unhide N1 _).mono ?_
    rintro e u1 ⟨rfl, hy⟩
    have hy' := hy.symm
    subst hy'
    clear hy
    go_wp2_with fail
    refine (unhide N2 _).mono ?_
    rintro e u2 ⟨rfl, hy⟩
    have hy' := hy.symm
    subst hy'
    clear hy
    go_wp2_with fail
    refine (unhide N3 _).mono ?_
    rintro e u3 ⟨rfl, hy⟩
    have hy' := hy.symm
    subst hy'
    clear hy
    go_wp2_with fail
    refine (unhide N4 _).mono ?_
    rintro e u4 ⟨rfl, hy⟩
    have hy' := hy.symm
    subst hy'
    clear hy
    go_wp2_with fail
    refine (unhide N5 _).mono ?_
    rintro e u5 ⟨rfl, hy⟩
    have hy' := hy.symm
    subst hy'
    clear hy
    go_wp2
    go_ret
    exact ⟨ret_intN HV, unhide HB1⟩
  have hn : n8 = true := by rw [unhide HN8]; exact decide_eq_true h8
  subst hn
  have t8 : ((no.size : Int) != 8) = false := by simp; omega
  clear h8
  cases em with
  | true =>
    have HV : Hid (buyV (true && true && true && true && true && true) true true db = 0) := hide (by simp [buyV])
    have hE : dg.toList.isEmpty = true := (unhide HE).symm
    obtain ⟨c0, c1, c2, c3, c4, c5, c6, c7, c8, c9, c10, c11⟩ := unhide HX W1 (Below.refl _ _)
    go_enter Tryd.func15, Tryd.ntmps15
    go_upto_region 1 with fail
    rw [← unhide HW1]
    go_wp2_with fail
    refine (unhide N0 _).mono ?_
    rintro e u0 ⟨rfl, hy⟩
    have hy' := hy.symm
    subst hy'
    clear hy
    go_wp2_with fail
    refine (unhide N1 _).mono ?_
    rintro e u1 ⟨rfl, hy⟩
    have hy' := hy.symm
    subst hy'
    clear hy
    go_wp2_with fail
    refine (unhide N2 _).mono ?_
    rintro e u2 ⟨rfl, hy⟩
    have hy' := hy.symm
    subst hy'
    clear hy
    go_wp2_with fail
    refine (unhide N3 _).mono ?_
    rintro e u3 ⟨rfl, hy⟩
    have hy' := hy.symm
    subst hy'
    clear hy
    go_wp2_with fail
    refine (unhide N4 _).mono ?_
    rintro e u4 ⟨rfl, hy⟩
    have hy' := hy.symm
    subst hy'
    clear hy
    go_wp2_with fail
    refine (unhide N5 _).mono ?_
    rintro e u5 ⟨rfl, hy⟩
    have hy' := hy.symm
    subst hy'
    clear hy
    go_wp2
    go_ret
    exact ⟨ret_intN HV, unhide HB1⟩
  | false =>
  have hE : dg.toList.isEmpty = false := (unhide HE).symm
  cases db with
  | false =>
    have HV : Hid (buyV (true && true && true && true && true && true) true false false = 1) := hide (by simp [buyV])
    obtain ⟨c0, c1, c2, c3, c4, c5, c6, c7, c8, c9, c10, c11⟩ := unhide HX W1 (Below.refl _ _)
    go_enter Tryd.func15, Tryd.ntmps15
    go_upto_region 1 with fail
    rw [← unhide HW1]
    go_wp2_with fail
    refine (unhide N0 _).mono ?_
    rintro e u0 ⟨rfl, hy⟩
    have hy' := hy.symm
    subst hy'
    clear hy
    go_wp2_with fail
    refine (unhide N1 _).mono ?_
    rintro e u1 ⟨rfl, hy⟩
    have hy' := hy.symm
    subst hy'
    clear hy
    go_wp2_with fail
    refine (unhide N2 _).mono ?_
    rintro e u2 ⟨rfl, hy⟩
    have hy' := hy.symm
    subst hy'
    clear hy
    go_wp2_with fail
    refine (unhide N3 _).mono ?_
    rintro e u3 ⟨rfl, hy⟩
    have hy' := hy.symm
    subst hy'
    clear hy
    go_wp2_with fail
    refine (unhide N4 _).mono ?_
    rintro e u4 ⟨rfl, hy⟩
    have hy' := hy.symm
    subst hy'
    clear hy
    go_wp2_with fail
    refine (unhide N5 _).mono ?_
    rintro e u5 ⟨rfl, hy⟩
    have hy' := hy.symm
    subst hy'
    clear hy
    go_wp2_with fail
    refine (unhide ND _).mono ?_
    rintro e y2 ⟨rfl, k2⟩
    have K2 := hide k2
    clear k2
    go_wp2
    go_ret
    exact ⟨ret_intN HV, (unhide HB1).trans ((unhide K2).mono (unhide HB1).size)⟩
  | true =>
    have HV : Hid (buyV (true && true && true && true && true && true) true false true = 0) := hide (by simp [buyV])
    obtain ⟨c0, c1, c2, c3, c4, c5, c6, c7, c8, c9, c10, c11⟩ := unhide HX W1 (Below.refl _ _)
    go_enter Tryd.func15, Tryd.ntmps15
    go_upto_region 1 with fail
    rw [← unhide HW1]
    go_wp2_with fail
    refine (unhide N0 _).mono ?_
    rintro e u0 ⟨rfl, hy⟩
    have hy' := hy.symm
    subst hy'
    clear hy
    go_wp2_with fail
    refine (unhide N1 _).mono ?_
    rintro e u1 ⟨rfl, hy⟩
    have hy' := hy.symm
    subst hy'
    clear hy
    go_wp2_with fail
    refine (unhide N2 _).mono ?_
    rintro e u2 ⟨rfl, hy⟩
    have hy' := hy.symm
    subst hy'
    clear hy
    go_wp2_with fail
    refine (unhide N3 _).mono ?_
    rintro e u3 ⟨rfl, hy⟩
    have hy' := hy.symm
    subst hy'
    clear hy
    go_wp2_with fail
    refine (unhide N4 _).mono ?_
    rintro e u4 ⟨rfl, hy⟩
    have hy' := hy.symm
    subst hy'
    clear hy
    go_wp2_with fail
    refine (unhide N5 _).mono ?_
    rintro e u5 ⟨rfl, hy⟩
    have hy' := hy.symm
    subst hy'
    clear hy
    go_wp2_with fail
    refine (unhide ND _).mono ?_
    rintro e y2 ⟨rfl, k2⟩
    have K2 := hide k2
    clear k2
    go_wp2
    go_ret
    exact ⟨ret_intN HV, (unhide HB1).trans ((unhide K2).mono (unhide HB1).size)⟩
set_option maxHeartbeats 4000000 in
theorem rbuy_any (b : XBuy) (w : World) (hok : okBuy w b) :
    Calls Tryd.prog 20 #[valBuy b] w fun e w' => e = .returned (.int .i64 (buyE b)) ∧ Below w.heap.size w w' := by
  obtain ⟨am, ot, dy, mt, tr, dr, ca, sg, mu, dg, no, co, cf, cc⟩ := b
  obtain ⟨_, _, _, _, _, _, hdz, _, _⟩ := hok
  have hdz : dg.size ≤ maxLen := hdz
  unfold buyE buyQ valBuy
  simp only
  obtain ⟨W1, hW1⟩ : ∃ W1, W1 = w.alloc (.cells #[.int .i64 am, .int .i64 ot, .int .i64 dy, .int .i64 mt, .int .i64 tr, .int .i64 dr, .bool ca, .bool sg, .bool mu, .string dg, .string no, .slice co cf.length cc] 33) := ⟨_, rfl⟩
  have hB1 : Below w.heap.size w W1 := by rw [hW1]; exact (Below.refl _ _).alloc (Nat.le_refl _) _
  have hX1 : W1.heap[w.heap.size]? = some (.cells #[.int .i64 am, .int .i64 ot, .int .i64 dy, .int .i64 mt, .int .i64 tr, .int .i64 dr, .bool ca, .bool sg, .bool mu, .string dg, .string no, .slice co cf.length cc] 33 (0, 0)) := by rw [hW1]; exact heap_alloc_new _ _
  have HX := hide (fun W (hb : Below W1.heap.size W1 W) => buyAt (rowN hX1 hb))
  have N0 := hide (fun W => ramount_any am W)
  have N1 := hide (fun W => ramount_any ot W)
  have ND := hide (fun W => rdigits_any dg 4 12 hdz W)
  have e0 : decide (0 ≤ am ∧ am ≤ 999999999999) = inB am 0 999999999999 := rfl
  have e1 : decide (0 ≤ ot ∧ ot ≤ 999999999999) = inB ot 0 999999999999 := rfl
  rw [e0] at N0
  rw [e1] at N1
  clear e0 e1
  have Q2 : Hid (inB dy 0 65535 = decide (0 ≤ dy ∧ dy ≤ 65535)) := hide rfl
  have Q3 : Hid (inB mt 0 65535 = decide (0 ≤ mt ∧ mt ≤ 65535)) := hide rfl
  have Q4 : Hid (inB tr 0 4294967295 = decide (0 ≤ tr ∧ tr ≤ 4294967295)) := hide rfl
  have Q5 : Hid (inB dr 1 99 = decide (1 ≤ dr ∧ dr ≤ 99)) := hide rfl
  generalize inB am 0 999999999999 = q0 at *
  generalize inB ot 0 999999999999 = q1 at *
  generalize inB dy 0 65535 = q2 at *
  generalize inB mt 0 65535 = q3 at *
  generalize inB tr 0 4294967295 = q4 at *
  generalize inB dr 1 99 = q5 at *
  generalize digitsB dg 4 12 = db at *
  obtain ⟨em, hem⟩ : ∃ em, em = dg.toList.isEmpty := ⟨_, rfl⟩
  obtain ⟨n8, hn8⟩ : ∃ n8, n8 = decide (no.size = 8) := ⟨_, rfl⟩
  rw [← hem, ← hn8]
  have HB1 := hide hB1; have HW1 := hide hW1; have HE := hide hem; have HN8 := hide hn8
  clear hB1 hX1 hW1 hdz hem hn8
  cases q0 with
  | false =>
    have HV : Hid (buyV (false && q1 && q2 && q3 && q4 && q5) n8 em db = 3) := hide (by simp [buyV])
    obtain ⟨c0, c1, c2, c3, c4, c5, c6, c7, c8, c9, c10, c11⟩ := unhide HX W1 (Below.refl _ _)
    go_enter Tryd.func20, Tryd.ntmps20
    go_upto_region 1 with fail
    rw [← unhide HW1]
    go_wp2_with fail
    refine (unhide N0 _).mono ?_
    rintro e u0 ⟨rfl, hy⟩
    have hy' := hy.symm
    subst hy'
    clear hy
    go_wp2
    go_ret
    exact ⟨ret_intN HV, unhide HB1⟩
  | true =>
  cases q1 with
  | false =>
    have HV : Hid (buyV (true && false && q2 && q3 && q4 && q5) n8 em db = 3) := hide (by simp [buyV])
    obtain ⟨c0, c1, c2, c3, c4, c5, c6, c7, c8, c9, c10, c11⟩ := unhide HX W1 (Below.refl _ _)
    go_enter Tryd.func20, Tryd.ntmps20
    go_upto_region 1 with fail
    rw [← unhide HW1]
    go_wp2_with fail
    refine (unhide N0 _).mono ?_
    rintro e u0 ⟨rfl, hy⟩
    have hy' := hy.symm
    subst hy'
    clear hy
    go_wp2_with fail
    refine (unhide N1 _).mono ?_
    rintro e u1 ⟨rfl, hy⟩
    have hy' := hy.symm
    subst hy'
    clear hy
    go_wp2
    go_ret
    exact ⟨ret_intN HV, unhide HB1⟩
  | true =>
  by_cases g20 : dy < 0
  case pos =>
    have hq : q2 = false := by rw [unhide Q2]; exact decide_eq_false (by omega)
    subst hq
    have HV : Hid (buyV (true && true && false && q3 && q4 && q5) n8 em db = 3) := hide (by simp [buyV])
    obtain ⟨c0, c1, c2, c3, c4, c5, c6, c7, c8, c9, c10, c11⟩ := unhide HX W1 (Below.refl _ _)
    go_enter Tryd.func20, Tryd.ntmps20
    go_upto_region 1 with fail
    rw [← unhide HW1]
    go_wp2_with fail
    refine (unhide N0 _).mono ?_
    rintro e u0 ⟨rfl, hy⟩
    have hy' := hy.symm
    subst hy'
    clear hy
    go_wp2_with fail
    refine (unhide N1 _).mono ?_
    rintro e u1 ⟨rfl, hy⟩
    have hy' := hy.symm
    subst hy'
    clear hy
    go_wp2
    go_ret
    exact ⟨ret_intN HV, unhide HB1⟩
  by_cases g21 : 65535 < dy
  case pos =>
    have hq : q2 = false := by rw [unhide Q2]; exact decide_eq_false (by omega)
    subst hq
    have HV : Hid (buyV (true && true && false && q3 && q4 && q5) n8 em db = 3) := hide (by simp [buyV])
    obtain ⟨c0, c1, c2, c3, c4, c5, c6, c7, c8, c9, c10, c11⟩ := unhide HX W1 (Below.refl _ _)
    go_enter Tryd.func20, Tryd.ntmps20
    go_upto_region 1 with fail
    rw [← unhide HW1]
    go_wp2_with fail
    refine (unhide N0 _).mono ?_
    rintro e u0 ⟨rfl, hy⟩
    have hy' := hy.symm
    subst hy'
    clear hy
    go_wp2_with fail
    refine (unhide N1 _).mono ?_
    rintro e u1 ⟨rfl, hy⟩
    have hy' := hy.symm
    subst hy'
    clear hy
    go_wp2
    go_ret
    exact ⟨ret_intN HV, unhide HB1⟩
  have hq : q2 = true := by rw [unhide Q2]; exact decide_eq_true (by omega)
  subst hq
  by_cases g30 : mt < 0
  case pos =>
    have hq : q3 = false := by rw [unhide Q3]; exact decide_eq_false (by omega)
    subst hq
    have HV : Hid (buyV (true && true && true && false && q4 && q5) n8 em db = 3) := hide (by simp [buyV])
    obtain ⟨c0, c1, c2, c3, c4, c5, c6, c7, c8, c9, c10, c11⟩ := unhide HX W1 (Below.refl _ _)
    go_enter Tryd.func20, Tryd.ntmps20
    go_upto_region 1 with fail
    rw [← unhide HW1]
    go_wp2_with fail
    refine (unhide N0 _).mono ?_
    rintro e u0 ⟨rfl, hy⟩
    have hy' := hy.symm
    subst hy'
    clear hy
    go_wp2_with fail
    refine (unhide N1 _).mono ?_
    rintro e u1 ⟨rfl, hy⟩
    have hy' := hy.symm
    subst hy'
    clear hy
    go_wp2
    go_ret
    exact ⟨ret_intN HV, unhide HB1⟩
  by_cases g31 : 65535 < mt
  case pos =>
    have hq : q3 = false := by rw [unhide Q3]; exact decide_eq_false (by omega)
    subst hq
    have HV : Hid (buyV (true && true && true && false && q4 && q5) n8 em db = 3) := hide (by simp [buyV])
    obtain ⟨c0, c1, c2, c3, c4, c5, c6, c7, c8, c9, c10, c11⟩ := unhide HX W1 (Below.refl _ _)
    go_enter Tryd.func20, Tryd.ntmps20
    go_upto_region 1 with fail
    rw [← unhide HW1]
    go_wp2_with fail
    refine (unhide N0 _).mono ?_
    rintro e u0 ⟨rfl, hy⟩
    have hy' := hy.symm
    subst hy'
    clear hy
    go_wp2_with fail
    refine (unhide N1 _).mono ?_
    rintro e u1 ⟨rfl, hy⟩
    have hy' := hy.symm
    subst hy'
    clear hy
    go_wp2
    go_ret
    exact ⟨ret_intN HV, unhide HB1⟩
  have hq : q3 = true := by rw [unhide Q3]; exact decide_eq_true (by omega)
  subst hq
  by_cases g40 : tr < 0
  case pos =>
    have hq : q4 = false := by rw [unhide Q4]; exact decide_eq_false (by omega)
    subst hq
    have HV : Hid (buyV (true && true && true && true && false && q5) n8 em db = 3) := hide (by simp [buyV])
    obtain ⟨c0, c1, c2, c3, c4, c5, c6, c7, c8, c9, c10, c11⟩ := unhide HX W1 (Below.refl _ _)
    go_enter Tryd.func20, Tryd.ntmps20
    go_upto_region 1 with fail
    rw [← unhide HW1]
    go_wp2_with fail
    refine (unhide N0 _).mono ?_
    rintro e u0 ⟨rfl, hy⟩
    have hy' := hy.symm
    subst hy'
    clear hy
    go_wp2_with fail
    refine (unhide N1 _).mono ?_
    rintro e u1 ⟨rfl, hy⟩
    have hy' := hy.symm
    subst hy'
    clear hy
    go_wp2
    go_ret
    exact ⟨ret_intN HV, unhide HB1⟩
  by_cases g41 : 4294967296 ≤ tr
  case pos =>
    have hq : q4 = false := by rw [unhide Q4]; exact decide_eq_false (by omega)
    subst hq
    have HV : Hid (buyV (true && true && true && true && false && q5) n8 em db = 3) := hide (by simp [buyV])
    obtain ⟨c0, c1, c2, c3, c4, c5, c6, c7, c8, c9, c10, c11⟩ := unhide HX W1 (Below.refl _ _)
    go_enter Tryd.func20, Tryd.ntmps20
    go_upto_region 1 with fail
    rw [← unhide HW1]
    go_wp2_with fail
    refine (unhide N0 _).mono ?_
    rintro e u0 ⟨rfl, hy⟩
    have hy' := hy.symm
    subst hy'
    clear hy
    go_wp2_with fail
    refine (unhide N1 _).mono ?_
    rintro e u1 ⟨rfl, hy⟩
    have hy' := hy.symm
    subst hy'
    clear hy
    go_wp2
    go_ret
    exact ⟨ret_intN HV, unhide HB1⟩
  have hq : q4 = true := by rw [unhide Q4]; exact decide_eq_true (by omega)
  subst hq
  by_cases g50 : dr < 1
  case pos =>
    have hq : q5 = false := by rw [unhide Q5]; exact decide_eq_false (by omega)
    subst hq
    have HV : Hid (buyV (true && true && true && true && true && false) n8 em db = 3) := hide (by simp [buyV])
    obtain ⟨c0, c1, c2, c3, c4, c5, c6, c7, c8, c9, c10, c11⟩ := unhide HX W1 (Below.refl _ _)
    go_enter Tryd.func20, Tryd.ntmps20
    go_upto_region 1 with fail
    rw [← unhide HW1]
    go_wp2_with fail
    refine (unhide N0 _).mono ?_
    rintro e u0 ⟨rfl, hy⟩
    have hy' := hy.symm
    subst hy'
    clear hy
    go_wp2_with fail
    refine (unhide N1 _).mono ?_
    rintro e u1 ⟨rfl, hy⟩
    have hy' := hy.symm
    subst hy'
    clear hy
    go_wp2
    go_ret
    exact ⟨ret_intN HV, unhide HB1⟩
  by_cases g51 : 99 < dr
  case pos =>
    have hq : q5 = false := by rw [unhide Q5]; exact decide_eq_false (by omega)
    subst hq
    have HV : Hid (buyV (true && true && true && true && true && false) n8 em db = 3) := hide (by simp [buyV])
    obtain ⟨c0, c1, c2, c3, c4, c5, c6, c7, c8, c9, c10, c11⟩ := unhide HX W1 (Below.refl _ _)
    go_enter Tryd.func20, Tryd.ntmps20
    go_upto_region 1 with fail
    rw [← unhide HW1]
    go_wp2_with fail
    refine (unhide N0 _).mono ?_
    rintro e u0 ⟨rfl, hy⟩
    have hy' := hy.symm
    subst hy'
    clear hy
    go_wp2_with fail
    refine (unhide N1 _).mono ?_
    rintro e u1 ⟨rfl, hy⟩
    have hy' := hy.symm
    subst hy'
    clear hy
    go_wp2
    go_ret
    exact ⟨ret_intN HV, unhide HB1⟩
  have hq : q5 = true := by rw [unhide Q5]; exact decide_eq_true (by omega)
  subst hq
  by_cases h8 : no.size = 8
  case neg =>
    have hn : n8 = false := by rw [unhide HN8]; exact decide_eq_false h8
    subst hn
    have HV : Hid (buyV (true && true && true && true && true && true) false em db = 1) := hide (by simp [buyV])
    have t8 : ((no.size : Int) != 8) = true := by simp; omega
    clear h8
    obtain ⟨c0, c1, c2, c3, c4, c5, c6, c7, c8, c9, c10, c11⟩ := unhide HX W1 (Below.refl _ _)
    go_enter Tryd.func20, Tryd.ntmps20
    go_upto_region 1 with fail
    rw [← unhide HW1]
    go_wp2_with fail
    refine (unhide N0 _).mono ?_
    rintro e u0 ⟨rfl, hy⟩
    have hy' := hy.symm
    subst hy'
    clear hy
    go_wp2_with fail
    refine (unhide N1 _).mono ?_
    rintro e u1 ⟨rfl, hy⟩
    have hy' := hy.symm
    subst hy'
    clear hy
    go_wp2
    go_ret
    exact ⟨ret_intN HV, unhide HB1⟩
  have hn : n8 = true := by rw [unhide HN8]; exact decide_eq_true h8
  subst hn
  have t8 : ((no.size : Int) != 8) = false := by simp; omega
  clear h8
  cases em with
  | true =>
    have HV : Hid (buyV (true && true && true && true && true && true) true true db = 0) := hide (by simp [buyV])
    have hE : dg.toList.isEmpty = true := (unhide HE).symm
    obtain ⟨c0, c1, c2, c3, c4, c5, c6, c7, c8, c9, c10, c11⟩ := unhide HX W1 (Below.refl _ _)
    go_enter Tryd.func20, Tryd.ntmps20
    go_upto_region 1 with fail
    rw [← unhide HW1]
    go_wp2_with fail
    refine (unhide N0 _).mono ?_
    rintro e u0 ⟨rfl, hy⟩
    have hy' := hy.symm
    subst hy'
    clear hy
    go_wp2_with fail
    refine (unhide N1 _).mono ?_
    rintro e u1 ⟨rfl, hy⟩
    have hy' := hy.symm
    subst hy'
    clear hy
    go_wp2
    go_ret
    exact ⟨ret_intN HV, unhide HB1⟩
  | false =>
  have hE : dg.toList.isEmpty = false := (unhide HE).symm
  cases db with
  | false =>
    have HV : Hid (buyV (true && true && true && true && true && true) true false false = 1) := hide (by simp [buyV])
    obtain ⟨c0, c1, c2, c3, c4, c5, c6, c7, c8, c9, c10, c11⟩ := unhide HX W1 (Below.refl _ _)
    go_enter Tryd.func20, Tryd.ntmps20
    go_upto_region 1 with fail
    rw [← unhide HW1]
    go_wp2_with fail
    refine (unhide N0 _).mono ?_
    rintro e u0 ⟨rfl, hy⟩
    have hy' := hy.symm
    subst hy'
    clear hy
    go_wp2_with fail
    refine (unhide N1 _).mono ?_
    rintro e u1 ⟨rfl, hy⟩
    have hy' := hy.symm
    subst hy'
    clear hy
    go_wp2_with fail
    refine (unhide ND _).mono ?_
    rintro e y2 ⟨rfl, hy⟩
    have hy' := hy.symm
    subst hy'
    clear hy
    have K2 : Hid (Below W1.heap.size W1 W1) := hide (Below.refl _ _)
    go_wp2
    go_ret
    exact ⟨ret_intN HV, (unhide HB1).trans ((unhide K2).mono (unhide HB1).size)⟩
  | true =>
    have HV : Hid (buyV (true && true && true && true && true && true) true false true = 0) := hide (by simp [buyV])
    obtain ⟨c0, c1, c2, c3, c4, c5, c6, c7, c8, c9, c10, c11⟩ := unhide HX W1 (Below.refl _ _)
    go_enter Tryd.func20, Tryd.ntmps20
    go_upto_region 1 with fail
    rw [← unhide HW1]
    go_wp2_with fail
    refine (unhide N0 _).mono ?_
    rintro e u0 ⟨rfl, hy⟩
    have hy' := hy.symm
    subst hy'
    clear hy
    go_wp2_with fail
    refine (unhide N1 _).mono ?_
    rintro e u1 ⟨rfl, hy⟩
    have hy' := hy.symm
    subst hy'
    clear hy
    go_wp2_with fail
    refine (unhide ND _).mono ?_
    rintro e y2 ⟨rfl, hy⟩
    have hy' := hy.symm
    subst hy'
    clear hy
    have K2 : Hid (Below W1.heap.size W1 W1) := hide (Below.refl _ _)
    go_wp2
    go_ret
    exact ⟨ret_intN HV, (unhide HB1).trans ((unhide K2).mono (unhide HB1).size)⟩
end Go.Proofs.YtfpglpefofcdeaaDoor
