/- clear: Post, its walk. -/
import Derived.Test.YtdameincehiieaaClrM
namespace Go.Proofs.Ytdameincehiieaa
open Go.RowKit Go.WideMaps Go.Maps
set_option linter.unusedVariables false
set_option maxRecDepth 100000

variable {w w' : World} {F : Nat → Prop} {b m1 m2 n k : Nat} {S : Clr} {qs : List Nat}
theorem boxC {w : World} {g : Nat} {p : Pst} (h : w.heap[g]? = some (boxP p)) : w.cell? ⟨g, 0, none⟩ = some (.int .i64 p.frm) ∧ w.cell? ⟨g, 1, none⟩ = some (.int .i64 p.to) ∧ w.cell? ⟨g, 2, none⟩ = some (.int .i64 p.shop) ∧ w.cell? ⟨g, 3, none⟩ = some (.int .i64 p.trace) ∧ w.cell? ⟨g, 4, none⟩ = some (.int .i64 p.amt) ∧ w.cell? ⟨g, 5, none⟩ = some (.int .i64 p.day) := by
  unfold boxP at h
  refine ⟨?_, ?_, ?_, ?_, ?_, ?_⟩ <;> simp [World.cell?, h]
/-- the beginning of Post: its argument lies in a new block -/
structure Bx (w W : World) (p : Pst) : Prop where
  bel : Below w.heap.size w W
  box : W.heap[w.heap.size]? = some (boxP p)
theorem Bx.start (w : World) (p : Pst) : Bx w (w.alloc (boxP p)) p := ⟨(Below.refl w.heap.size w).alloc (Nat.le_refl _) _, alloc_at w _⟩
theorem Bx.step {w W W' : World} {p : Pst} (h : Bx w W p) (hb : Below W.heap.size W W') : Bx w W' p := ⟨h.bel.trans (hb.mono h.bel.size), (hb.block _ (blk_lt h.box)).trans h.box⟩
theorem Bx.cin (h : CIn w F b S m1 m2 n k qs) {W : World} {p : Pst} (hx : Bx w W p) : CIn W F b S m1 m2 n k qs := h.keep hx.bel.size (fun x hx' => hx.bel.block x (h.flt x hx'))
set_option maxHeartbeats 2000000 in
theorem post_badA (h : CIn w F b S m1 m2 n k qs) (p : Pst) (hA : okA p = false) :
    Calls Try.prog 7 #[.pointer (some ⟨b, 0, none⟩), pstV p] w (cPost w F b (3, S)) := by
  have N1 := hide (areBanks_any p (w.alloc (boxP p)))
  rw [hA] at N1
  have HX0 := hide (Bx.start w p)
  have HH := hide h
  clear h hA
  unfold pstV boxP at *
  go_enter Try.func7, Try.ntmps7
  go_wp2_with fail
  refine (unhide N1).mono ?_
  rintro e w1 ⟨rfl, hb1⟩
  have HX1 : Hid (Bx w w1 p) := hide ((unhide HX0).step hb1)
  obtain ⟨c0, c1, c2, c3, c4, c5⟩ := boxC (unhide HX1).box
  clear hb1 HX0
  go_wp2
  go_ret
  exact ⟨rfl, F, ⟨_, _, _, _, _, (unhide HX1).cin (unhide HH)⟩, Chg.of_below F (unhide HX1).bel, fun x hx => .inl hx⟩
set_option maxHeartbeats 2000000 in
theorem post_badM (h : CIn w F b S m1 m2 n k qs) (p : Pst) (hA : okA p = true) (hM : inB 0 p.amt 999999999999 = false) :
    Calls Try.prog 7 #[.pointer (some ⟨b, 0, none⟩), pstV p] w (cPost w F b (3, S)) := by
  have N1 := hide (areBanks_any p (w.alloc (boxP p)))
  rw [hA] at N1
  have HX0 := hide (Bx.start w p)
  have HH := hide h
  clear h hA
  unfold pstV boxP at *
  go_enter Try.func7, Try.ntmps7
  go_wp2_with fail
  refine (unhide N1).mono ?_
  rintro e w1 ⟨rfl, hb1⟩
  have HX1 : Hid (Bx w w1 p) := hide ((unhide HX0).step hb1)
  obtain ⟨c0, c1, c2, c3, c4, c5⟩ := boxC (unhide HX1).box
  clear hb1 HX0
  have N2 := hide (cwithin_any p.amt 0 999999999999 w1)
  rw [hM] at N2
  clear hM
  go_wp2_with fail
  refine (unhide N2).mono ?_
  rintro e w2 ⟨rfl, hw2⟩
  rw [hw2]
  clear hw2
  go_wp2
  go_ret
  exact ⟨rfl, F, ⟨_, _, _, _, _, (unhide HX1).cin (unhide HH)⟩, Chg.of_below F (unhide HX1).bel, fun x hx => .inl hx⟩
set_option maxHeartbeats 2000000 in
theorem post_badN (h : CIn w F b S m1 m2 n k qs) (p : Pst) (hA : okA p = true) (hM : inB 0 p.amt 999999999999 = true) (hN : okN p = false) :
    Calls Try.prog 7 #[.pointer (some ⟨b, 0, none⟩), pstV p] w (cPost w F b (3, S)) := by
  have N1 := hide (areBanks_any p (w.alloc (boxP p)))
  rw [hA] at N1
  have HX0 := hide (Bx.start w p)
  have HH := hide h
  clear h hA
  unfold pstV boxP at *
  go_enter Try.func7, Try.ntmps7
  go_wp2_with fail
  refine (unhide N1).mono ?_
  rintro e w1 ⟨rfl, hb1⟩
  have HX1 : Hid (Bx w w1 p) := hide ((unhide HX0).step hb1)
  obtain ⟨c0, c1, c2, c3, c4, c5⟩ := boxC (unhide HX1).box
  clear hb1 HX0
  have N2 := hide (cwithin_any p.amt 0 999999999999 w1)
  rw [hM] at N2
  clear hM
  go_wp2_with fail
  refine (unhide N2).mono ?_
  rintro e w2 ⟨rfl, hw2⟩
  rw [hw2]
  clear hw2
  have N3 := hide (areNumbers_any p w1)
  unfold pstV at N3
  rw [hN] at N3
  clear hN
  go_wp2_with fail
  refine (unhide N3).mono ?_
  rintro e w3 ⟨rfl, hb3⟩
  have HX3 : Hid (Bx w w3 p) := hide ((unhide HX1).step hb3)
  clear c0 c1 c2 c3 c4 c5
  obtain ⟨c0, c1, c2, c3, c4, c5⟩ := boxC (unhide HX3).box
  clear hb3 HX1
  go_wp2
  go_ret
  exact ⟨rfl, F, ⟨_, _, _, _, _, (unhide HX3).cin (unhide HH)⟩, Chg.of_below F (unhide HX3).bel, fun x hx => .inl hx⟩
set_option maxHeartbeats 2000000 in
theorem post_day (h : CIn w F b S m1 m2 n k qs) (p : Pst) (hA : okA p = true) (hM : inB 0 p.amt 999999999999 = true) (hN : okN p = true) (hd : dayE S.last p.day ≠ 0) :
    Calls Try.prog 7 #[.pointer (some ⟨b, 0, none⟩), pstV p] w (cPost w F b (dayE S.last p.day, S)) := by
  have N1 := hide (areBanks_any p (w.alloc (boxP p)))
  rw [hA] at N1
  have HX0 := hide (Bx.start w p)
  have HH := hide h
  have hne : (dayE S.last p.day != 0) = true := by simpa using hd
  clear h hA
  unfold pstV boxP at *
  go_enter Try.func7, Try.ntmps7
  go_wp2_with fail
  refine (unhide N1).mono ?_
  rintro e w1 ⟨rfl, hb1⟩
  have HX1 : Hid (Bx w w1 p) := hide ((unhide HX0).step hb1)
  obtain ⟨c0, c1, c2, c3, c4, c5⟩ := boxC (unhide HX1).box
  clear hb1 HX0
  have N2 := hide (cwithin_any p.amt 0 999999999999 w1)
  rw [hM] at N2
  clear hM
  go_wp2_with fail
  refine (unhide N2).mono ?_
  rintro e w2 ⟨rfl, hw2⟩
  rw [hw2]
  clear hw2
  have N3 := hide (areNumbers_any p w1)
  unfold pstV at N3
  rw [hN] at N3
  clear hN
  go_wp2_with fail
  refine (unhide N3).mono ?_
  rintro e w3 ⟨rfl, hb3⟩
  have HX3 : Hid (Bx w w3 p) := hide ((unhide HX1).step hb3)
  clear c0 c1 c2 c3 c4 c5
  obtain ⟨c0, c1, c2, c3, c4, c5⟩ := boxC (unhide HX3).box
  clear hb3 HX1
  have n4 := tell_any b S.D S.last p.day m1 m2 w3 ((unhide HX3).cin (unhide HH)).blk
  rw [if_neg hd] at n4
  have N4 := hide n4
  clear n4 hd
  generalize dayE S.last p.day = er at *
  go_wp2_with fail
  refine (unhide N4).mono ?_
  rintro e w4 ⟨rfl, hw4⟩
  rw [hw4]
  clear hw4
  go_wp2
  go_ret
  exact ⟨rfl, F, ⟨_, _, _, _, _, (unhide HX3).cin (unhide HH)⟩, Chg.of_below F (unhide HX3).bel, fun x hx => .inl hx⟩
set_option maxHeartbeats 2000000 in
theorem post_twice (h : CIn w F b S m1 m2 n k qs) (p : Pst) (hA : okA p = true) (hM : inB 0 p.amt 999999999999 = true) (hN : okN p = true) (hS1 : InR p.shop) (hS2 : InR p.trace) (hd : dayE S.last p.day = 0) {i : Nat} (hi : idxK S.L p.shop p.trace = some i) :
    Calls Try.prog 7 #[.pointer (some ⟨b, 0, none⟩), pstV p] w (cPost w F b (6, { S with last := p.day })) := by
  have N1 := hide (areBanks_any p (w.alloc (boxP p)))
  rw [hA] at N1
  have HX0 := hide (Bx.start w p)
  have HH := hide h
  have HS1 := hS1; have HS2 := hS2
  obtain ⟨q, x, hq, hx, hg, hP, _, _⟩ := h.at hi
  clear h hA hP hi
  unfold pstV boxP at *
  go_enter Try.func7, Try.ntmps7
  go_wp2_with fail
  refine (unhide N1).mono ?_
  rintro e w1 ⟨rfl, hb1⟩
  have HX1 : Hid (Bx w w1 p) := hide ((unhide HX0).step hb1)
  obtain ⟨c0, c1, c2, c3, c4, c5⟩ := boxC (unhide HX1).box
  clear hb1 HX0
  have N2 := hide (cwithin_any p.amt 0 999999999999 w1)
  rw [hM] at N2
  clear hM
  go_wp2_with fail
  refine (unhide N2).mono ?_
  rintro e w2 ⟨rfl, hw2⟩
  rw [hw2]
  clear hw2
  have N3 := hide (areNumbers_any p w1)
  unfold pstV at N3
  rw [hN] at N3
  clear hN
  go_wp2_with fail
  refine (unhide N3).mono ?_
  rintro e w3 ⟨rfl, hb3⟩
  have HX3 : Hid (Bx w w3 p) := hide ((unhide HX1).step hb3)
  clear c0 c1 c2 c3 c4 c5
  obtain ⟨c0, c1, c2, c3, c4, c5⟩ := boxC (unhide HX3).box
  clear hb3 HX1
  have hI3 := (unhide HX3).cin (unhide HH)
  have n4 := tell_any b S.D S.last p.day m1 m2 w3 hI3.blk
  rw [if_pos hd, hd] at n4
  have N4 := hide n4
  have hT4 : Tnd w3 (w3.setCell ⟨b, 4, none⟩ (.int .i64 p.day)) b := Tnd.set w3 b 4 (.int .i64 p.day)
  have hI4 := hI3.told (hI3.blk.tell p.day) hT4
  have hx4 : (w3.setCell ⟨b, 4, none⟩ (.int .i64 p.day)).heap[w.heap.size]? = some (boxP p) := (hT4.2.1 _ (blk_lt (unhide HX3).box) (by have := (unhide HH).blk.lt; omega)).trans (unhide HX3).box
  have hC4 : Chg F w (w3.setCell ⟨b, 4, none⟩ (.int .i64 p.day)) := (Chg.of_below F (unhide HX3).bel).trans (Chg.of_tnd hT4) (fun x hx => by subst hx; exact .inl (unhide HH).fb)
  have HI4 := hide hI4; have HX4 := hide hx4; have HC4 := hide hC4
  clear n4 hd hI3 hT4 hI4 hx4 hC4 HX3
  go_wp2_with fail
  refine (unhide N4).mono ?_
  rintro e w4 ⟨rfl, hw4⟩
  rw [hw4]
  clear hw4 N4 c0 c1 c2 c3 c4 c5
  generalize w3.setCell ⟨b, 4, none⟩ (.int .i64 p.day) = W at *
  have hIa : CIn (W.alloc (.cells #[.int .i64 p.shop, .int .i64 p.trace] 72)) F b { S with last := p.day } m1 m2 n k qs := (unhide HI4).keep (by simp) (fun x hx => Below.heap_alloc _ _ _ ((unhide HI4).flt x hx))
  have hla : ∀ j, (Instr.lookup 64 (.map (some m1)) (.agg #[.int .i64 p.shop, .int .i64 p.trace]) false).run Try.prog ((W.alloc (.cells #[.int .i64 p.shop, .int .i64 p.trace] 72)).drewN j) = .ok (pOf (gOf S.L qs p.shop p.trace)) _ := fun j => (hIa.nm.of_block (w' := (W.alloc (.cells #[.int .i64 p.shop, .int .i64 p.trace] 72)).drewN j) rfl).look p.shop p.trace HS1 HS2
  obtain ⟨_, _, _, _, _, b5, _⟩ := hIa.blk.cells
  have hCa : Chg F w (W.alloc (.cells #[.int .i64 p.shop, .int .i64 p.trace] 72)) := (unhide HC4).trans (Chg.of_below F ((Below.refl W.heap.size W).alloc (Nat.le_refl _) _)) (fun x hx => .inl hx)
  have hxa : (W.alloc (.cells #[.int .i64 p.shop, .int .i64 p.trace] 72)).heap[w.heap.size]? = some (boxP p) := (Below.heap_alloc _ _ _ (blk_lt (unhide HX4))).trans (unhide HX4)
  have HIa := hide hIa; have HCa := hide hCa; have HXa := hide hxa
  obtain ⟨c0, c1, c2, c3, c4, c5⟩ := boxC (unhide HX4)
  have hbn : b < W.heap.size := (unhide HI4).blk.lt
  have HNA := hide (alloc_at W (.cells #[.int .i64 p.shop, .int .i64 p.trace] 72))
  clear hIa hCa hxa
  rw [hg] at hla
  have hla' : ∀ j, (Instr.lookup 64 (.map (some m1)) (.agg #[.int .i64 p.shop, .int .i64 p.trace]) false).run Try.prog ((W.alloc (.cells #[.int .i64 p.shop, .int .i64 p.trace] 72)).drewN j) = .ok (.pointer (some ⟨q, 0, none⟩)) _ := hla
  clear hla hq hx hg hS1 hS2 HS1 HS2
  go_wp2_with fail
  go_quiet (fail)
  go_wp2
  go_ret
  exact ⟨rfl, F, ⟨_, _, _, _, _, (unhide HIa).keep (Nat.le_refl _) (fun x hx => rfl)⟩, (unhide HCa).drewN _, fun x hx => .inl hx⟩
set_option maxHeartbeats 2000000 in
theorem post_full (h : CIn w F b S m1 m2 n k qs) (p : Pst) (hA : okA p = true) (hM : inB 0 p.amt 999999999999 = true) (hN : okN p = true) (hS1 : InR p.shop) (hS2 : InR p.trace) (hd : dayE S.last p.day = 0) (hi : idxK S.L p.shop p.trace = none) (hl : S.L.length = 100000) :
    Calls Try.prog 7 #[.pointer (some ⟨b, 0, none⟩), pstV p] w (cPost w F b (8, { S with last := p.day })) := by
  have N1 := hide (areBanks_any p (w.alloc (boxP p)))
  rw [hA] at N1
  have HX0 := hide (Bx.start w p)
  have HH := hide h
  have HS1 := hS1; have HS2 := hS2
  clear h hA
  unfold pstV boxP at *
  go_enter Try.func7, Try.ntmps7
  go_wp2_with fail
  refine (unhide N1).mono ?_
  rintro e w1 ⟨rfl, hb1⟩
  have HX1 : Hid (Bx w w1 p) := hide ((unhide HX0).step hb1)
  obtain ⟨c0, c1, c2, c3, c4, c5⟩ := boxC (unhide HX1).box
  clear hb1 HX0
  have N2 := hide (cwithin_any p.amt 0 999999999999 w1)
  rw [hM] at N2
  clear hM
  go_wp2_with fail
  refine (unhide N2).mono ?_
  rintro e w2 ⟨rfl, hw2⟩
  rw [hw2]
  clear hw2
  have N3 := hide (areNumbers_any p w1)
  unfold pstV at N3
  rw [hN] at N3
  clear hN
  go_wp2_with fail
  refine (unhide N3).mono ?_
  rintro e w3 ⟨rfl, hb3⟩
  have HX3 : Hid (Bx w w3 p) := hide ((unhide HX1).step hb3)
  clear c0 c1 c2 c3 c4 c5
  obtain ⟨c0, c1, c2, c3, c4, c5⟩ := boxC (unhide HX3).box
  clear hb3 HX1
  have hI3 := (unhide HX3).cin (unhide HH)
  have n4 := tell_any b S.D S.last p.day m1 m2 w3 hI3.blk
  rw [if_pos hd, hd] at n4
  have N4 := hide n4
  have hT4 : Tnd w3 (w3.setCell ⟨b, 4, none⟩ (.int .i64 p.day)) b := Tnd.set w3 b 4 (.int .i64 p.day)
  have hI4 := hI3.told (hI3.blk.tell p.day) hT4
  have hx4 : (w3.setCell ⟨b, 4, none⟩ (.int .i64 p.day)).heap[w.heap.size]? = some (boxP p) := (hT4.2.1 _ (blk_lt (unhide HX3).box) (by have := (unhide HH).blk.lt; omega)).trans (unhide HX3).box
  have hC4 : Chg F w (w3.setCell ⟨b, 4, none⟩ (.int .i64 p.day)) := (Chg.of_below F (unhide HX3).bel).trans (Chg.of_tnd hT4) (fun x hx => by subst hx; exact .inl (unhide HH).fb)
  have HI4 := hide hI4; have HX4 := hide hx4; have HC4 := hide hC4
  clear n4 hd hI3 hT4 hI4 hx4 hC4 HX3
  go_wp2_with fail
  refine (unhide N4).mono ?_
  rintro e w4 ⟨rfl, hw4⟩
  rw [hw4]
  clear hw4 N4 c0 c1 c2 c3 c4 c5
  generalize w3.setCell ⟨b, 4, none⟩ (.int .i64 p.day) = W at *
  have hIa : CIn (W.alloc (.cells #[.int .i64 p.shop, .int .i64 p.trace] 72)) F b { S with last := p.day } m1 m2 n k qs := (unhide HI4).keep (by simp) (fun x hx => Below.heap_alloc _ _ _ ((unhide HI4).flt x hx))
  have hla : ∀ j, (Instr.lookup 64 (.map (some m1)) (.agg #[.int .i64 p.shop, .int .i64 p.trace]) false).run Try.prog ((W.alloc (.cells #[.int .i64 p.shop, .int .i64 p.trace] 72)).drewN j) = .ok (pOf (gOf S.L qs p.shop p.trace)) _ := fun j => (hIa.nm.of_block (w' := (W.alloc (.cells #[.int .i64 p.shop, .int .i64 p.trace] 72)).drewN j) rfl).look p.shop p.trace HS1 HS2
  obtain ⟨_, _, _, _, _, b5, _⟩ := hIa.blk.cells
  have hCa : Chg F w (W.alloc (.cells #[.int .i64 p.shop, .int .i64 p.trace] 72)) := (unhide HC4).trans (Chg.of_below F ((Below.refl W.heap.size W).alloc (Nat.le_refl _) _)) (fun x hx => .inl hx)
  have hxa : (W.alloc (.cells #[.int .i64 p.shop, .int .i64 p.trace] 72)).heap[w.heap.size]? = some (boxP p) := (Below.heap_alloc _ _ _ (blk_lt (unhide HX4))).trans (unhide HX4)
  have HIa := hide hIa; have HCa := hide hCa; have HXa := hide hxa
  obtain ⟨c0, c1, c2, c3, c4, c5⟩ := boxC (unhide HX4)
  have hbn : b < W.heap.size := (unhide HI4).blk.lt
  have HNA := hide (alloc_at W (.cells #[.int .i64 p.shop, .int .i64 p.trace] 72))
  clear hIa hCa hxa
  have hgn : gOf S.L qs p.shop p.trace = none := by unfold gOf; rw [hi]; rfl
  rw [hgn] at hla
  have hla' : ∀ j, (Instr.lookup 64 (.map (some m1)) (.agg #[.int .i64 p.shop, .int .i64 p.trace]) false).run Try.prog ((W.alloc (.cells #[.int .i64 p.shop, .int .i64 p.trace] 72)).drewN j) = .ok (.pointer none) _ := hla
  have hln : ∀ j ty, (Builtin.len_ #[64] ty #[.map (some m1)]).run Try.prog ((W.alloc (.cells #[.int .i64 p.shop, .int .i64 p.trace] 72)).drewN j) = .ok (.int .i64 S.L.length) _ := fun j ty => ((unhide HIa).nm.of_block (w' := (W.alloc (.cells #[.int .i64 p.shop, .int .i64 p.trace] 72)).drewN j) rfl).len ty
  rw [hl] at hln
  clear hla hgn hi hS1 hS2 HS1 HS2 hl
  go_wp2_with fail
  go_quiet (fail)
  go_wp2
  go_ret
  exact ⟨rfl, F, ⟨_, _, _, _, _, (unhide HIa).keep (Nat.le_refl _) (fun x hx => rfl)⟩, (unhide HCa).drewN _, fun x hx => .inl hx⟩
set_option maxHeartbeats 2000000 in
theorem post_new (h : CIn w F b S m1 m2 n k qs) (p : Pst) (hA : okA p = true) (hM : inB 0 p.amt 999999999999 = true) (hN : okN p = true) (hS1 : InR p.shop) (hS2 : InR p.trace) (hd : dayE S.last p.day = 0) (hi : idxK S.L p.shop p.trace = none) (hl : S.L.length < 100000) (hok : okS S) :
    Calls Try.prog 7 #[.pointer (some ⟨b, 0, none⟩), pstV p] w (cPost w F b (0, { S with last := p.day, L := S.L ++ [⟨p, [], startC p⟩], ow := owU S.ow p p.amt })) := by
  have N1 := hide (areBanks_any p (w.alloc (boxP p)))
  rw [hA] at N1
  have HX0 := hide (Bx.start w p)
  have HH := hide h
  have hIN := of_decide_eq_true hM
  have hAA : (1 ≤ p.frm ∧ p.frm ≤ 99) ∧ 1 ≤ p.to ∧ p.to ≤ 99 := by
    unfold okA at hA
    exact ⟨of_decide_eq_true (Bool.and_eq_true_iff.1 hA).1, of_decide_eq_true (Bool.and_eq_true_iff.1 hA).2⟩
  have HR : Hid (InR (-p.amt) ∧ InR (0 + p.amt) ∧ InR p.frm ∧ InR p.to ∧ ∀ i j, InR (S.ow i j + p.amt) ∧ InR (S.ow i j + -p.amt)) := hide (by
    unfold InR
    refine ⟨by omega, by omega, by omega, by omega, fun i j => ?_⟩
    have := hok.small i j
    omega)
  have HK := hide (kLess h hok)
  have HF0 := hide hok.ow0
  have HNL : Hid (n < maxLen) := hide (by have := h.nn; have h4 : (500001 : Nat) ≤ maxLen := by decide
                                          omega)
  have hlb : ((S.L.length : Int) == 100000) = false := by
    have : (S.L.length : Int) ≠ 100000 := by omega
    simpa using this
  have HLS : Hid (S.L.length = S.L.length) := hide rfl
  clear hIN hAA hok hl
  have HS1 := hS1; have HS2 := hS2
  clear h hA
  unfold pstV boxP at *
  go_enter Try.func7, Try.ntmps7
  go_wp2_with fail
  refine (unhide N1).mono ?_
  rintro e w1 ⟨rfl, hb1⟩
  have HX1 : Hid (Bx w w1 p) := hide ((unhide HX0).step hb1)
  obtain ⟨c0, c1, c2, c3, c4, c5⟩ := boxC (unhide HX1).box
  clear hb1 HX0
  have N2 := hide (cwithin_any p.amt 0 999999999999 w1)
  rw [hM] at N2
  clear hM
  go_wp2_with fail
  refine (unhide N2).mono ?_
  rintro e w2 ⟨rfl, hw2⟩
  rw [hw2]
  clear hw2
  have N3 := hide (areNumbers_any p w1)
  unfold pstV at N3
  rw [hN] at N3
  clear hN
  go_wp2_with fail
  refine (unhide N3).mono ?_
  rintro e w3 ⟨rfl, hb3⟩
  have HX3 : Hid (Bx w w3 p) := hide ((unhide HX1).step hb3)
  clear c0 c1 c2 c3 c4 c5
  obtain ⟨c0, c1, c2, c3, c4, c5⟩ := boxC (unhide HX3).box
  clear hb3 HX1
  have hI3 := (unhide HX3).cin (unhide HH)
  have n4 := tell_any b S.D S.last p.day m1 m2 w3 hI3.blk
  rw [if_pos hd, hd] at n4
  have N4 := hide n4
  have hT4 : Tnd w3 (w3.setCell ⟨b, 4, none⟩ (.int .i64 p.day)) b := Tnd.set w3 b 4 (.int .i64 p.day)
  have hI4 := hI3.told (hI3.blk.tell p.day) hT4
  have hx4 : (w3.setCell ⟨b, 4, none⟩ (.int .i64 p.day)).heap[w.heap.size]? = some (boxP p) := (hT4.2.1 _ (blk_lt (unhide HX3).box) (by have := (unhide HH).blk.lt; omega)).trans (unhide HX3).box
  have hC4 : Chg F w (w3.setCell ⟨b, 4, none⟩ (.int .i64 p.day)) := (Chg.of_below F (unhide HX3).bel).trans (Chg.of_tnd hT4) (fun x hx => by subst hx; exact .inl (unhide HH).fb)
  have HI4 := hide hI4; have HX4 := hide hx4; have HC4 := hide hC4
  clear n4 hd hI3 hT4 hI4 hx4 hC4 HX3
  go_wp2_with fail
  refine (unhide N4).mono ?_
  rintro e w4 ⟨rfl, hw4⟩
  rw [hw4]
  clear hw4 N4 c0 c1 c2 c3 c4 c5
  generalize w3.setCell ⟨b, 4, none⟩ (.int .i64 p.day) = W at *
  have hIa : CIn (W.alloc (.cells #[.int .i64 p.shop, .int .i64 p.trace] 72)) F b { S with last := p.day } m1 m2 n k qs := (unhide HI4).keep (by simp) (fun x hx => Below.heap_alloc _ _ _ ((unhide HI4).flt x hx))
  have hla : ∀ j, (Instr.lookup 64 (.map (some m1)) (.agg #[.int .i64 p.shop, .int .i64 p.trace]) false).run Try.prog ((W.alloc (.cells #[.int .i64 p.shop, .int .i64 p.trace] 72)).drewN j) = .ok (pOf (gOf S.L qs p.shop p.trace)) _ := fun j => (hIa.nm.of_block (w' := (W.alloc (.cells #[.int .i64 p.shop, .int .i64 p.trace] 72)).drewN j) rfl).look p.shop p.trace HS1 HS2
  obtain ⟨_, _, _, _, _, b5, _⟩ := hIa.blk.cells
  have hCa : Chg F w (W.alloc (.cells #[.int .i64 p.shop, .int .i64 p.trace] 72)) := (unhide HC4).trans (Chg.of_below F ((Below.refl W.heap.size W).alloc (Nat.le_refl _) _)) (fun x hx => .inl hx)
  have hxa : (W.alloc (.cells #[.int .i64 p.shop, .int .i64 p.trace] 72)).heap[w.heap.size]? = some (boxP p) := (Below.heap_alloc _ _ _ (blk_lt (unhide HX4))).trans (unhide HX4)
  have HIa := hide hIa; have HCa := hide hCa; have HXa := hide hxa
  obtain ⟨c0, c1, c2, c3, c4, c5⟩ := boxC (unhide HX4)
  have hbn : b < W.heap.size := (unhide HI4).blk.lt
  have HNA := hide (alloc_at W (.cells #[.int .i64 p.shop, .int .i64 p.trace] 72))
  clear hIa hCa hxa
  have hgn : gOf S.L qs p.shop p.trace = none := by unfold gOf; rw [hi]; rfl
  rw [hgn] at hla
  have hla' : ∀ j, (Instr.lookup 64 (.map (some m1)) (.agg #[.int .i64 p.shop, .int .i64 p.trace]) false).run Try.prog ((W.alloc (.cells #[.int .i64 p.shop, .int .i64 p.trace] 72)).drewN j) = .ok (.pointer none) _ := hla
  have hln : ∀ j ty, (Builtin.len_ #[64] ty #[.map (some m1)]).run Try.prog ((W.alloc (.cells #[.int .i64 p.shop, .int .i64 p.trace] 72)).drewN j) = .ok (.int .i64 S.L.length) _ := fun j ty => ((unhide HIa).nm.of_block (w' := (W.alloc (.cells #[.int .i64 p.shop, .int .i64 p.trace] 72)).drewN j) rfl).len ty
  have HI := hide hi; have HG := hide hgn
  clear hla hgn hi hS1 hS2
  obtain ⟨ln, hln1⟩ : ∃ ln : Int, ln = S.L.length := ⟨_, rfl⟩
  rw [← hln1] at hlb hln
  clear hln1
  go_wp2_with fail
  go_quiet (fail)
  obtain ⟨v0, v1, v2, v3, v4, v5⟩ := boxC (unhide HXa)
  go_wp2_with fail
  generalize hWd : (W.alloc (.cells #[.int .i64 p.shop, .int .i64 p.trace] 72)).drewN nq = Wd at *
  have hI6 : CIn Wd F b { S with last := p.day } m1 m2 n k qs := hWd ▸ (unhide HIa).keep (Nat.le_refl _) (fun x hx => rfl)
  have hC6 : Chg F w Wd := hWd ▸ (unhide HCa).drewN _
  have hX6 : Wd.heap[w.heap.size]? = some (boxP p) := hWd ▸ (unhide HXa)
  have hA6 : Wd.heap[W.heap.size]? = some (.cells #[.int .i64 p.shop, .int .i64 p.trace] 72) := hWd ▸ (unhide HNA)
  have hww : w.heap.size < W.heap.size := blk_lt (unhide HX4)
  have HWW := hide hww
  have N6 := newPayment_any p Wd
  unfold pstV at N6
  have HI6 := hide hI6; have HC6 := hide hC6; have HX6 := hide hX6; have HA6 := hide hA6
  clear hI6 hC6 hX6 hA6 hWd hww v0 v1 v2 v3 v4 v5 c0 c1 c2 c3 c4 c5 hla' hln b5 HIa HCa HXa HNA HI4 HX4 HC4 hbn
  refine N6.mono ?_
  rintro e w7 ⟨rfl, hP7, hb7⟩
  obtain ⟨q, hq⟩ : ∃ q, q = Wd.heap.size + 1 := ⟨_, rfl⟩
  rw [← hq] at hP7 ⊢
  have hI7 := (unhide HI6).keep hb7.size (fun x hx => hb7.block x ((unhide HI6).flt x hx))
  have hX7 := (hb7.block _ (blk_lt (unhide HX6))).trans (unhide HX6)
  have hA7 := (hb7.block _ (blk_lt (unhide HA6))).trans (unhide HA6)
  have HQ := hide hq; have HB7 := hide hb7
  obtain ⟨_, _, _, _, _, b5, _⟩ := hI7.blk.cells
  have e0 : w7.cell? ⟨W.heap.size, 0, none⟩ = some (.int .i64 p.shop) := by simp [World.cell?, hA7]
  have e1 : w7.cell? ⟨W.heap.size, 1, none⟩ = some (.int .i64 p.trace) := by simp [World.cell?, hA7]
  obtain ⟨w8, hrun, hN8, hg8⟩ := (hI7.nm.of_block (w' := w7.drew) rfl).put (unhide HNL) p.shop p.trace q HS1 HS2 (unhide HG)
  unfold twoV at hrun
  have hC78 : Chg (fun x => x = m1) w7 w8 := (Chg.refl _ w7).drew.trans (Chg.grown hg8) (fun x hx => .inl hx)
  have HI7 := hide hI7; have HX7 := hide hX7; have HP7 := hide hP7; have HN8 := hide hN8; have HC78 := hide hC78
  clear hq hb7 hI7 hX7 hA7 hP7 hN8 hC78 hg8
  go_wp2_with fail
  go_region
  have hb8 : w8.heap[b]? = w7.heap[b]? := (unhide HC78).block b (unhide HI7).blk.lt (Ne.symm (unhide HI7).n1)
  have hB8 := (unhide HI7).blk.of_block hb8
  have hql7 := blk_lt (unhide HP7)
  have hqW : Wd.heap.size ≤ q := by have := unhide HQ; omega
  have hqm1 : q ≠ m1 := fun e => by have := (unhide HI6).flt m1 (unhide HI6).f1; omega
  have hqm2 : q ≠ m2 := fun e => by have := (unhide HI6).flt m2 (unhide HI6).f2; omega
  have hqb : q ≠ b := fun e => by have := (unhide HI6).flt b (unhide HI6).fb; omega
  have hP8 := (unhide HP7).of_block ((unhide HC78).block q hql7 hqm1)
  have hM8 := (unhide HI7).pm.of_block ((unhide HC78).block m2 (unhide HI7).pm.lt (Ne.symm (unhide HI7).n3))
  have hX8 : w8.heap[w.heap.size]? = some (boxP p) := ((unhide HC78).block _ (blk_lt (unhide HX7)) (fun e => by have := (unhide HH).flt m1 (unhide HH).f1; omega)).trans (unhide HX7)
  obtain ⟨c0, c1, c2, c3, c4, c5⟩ := boxC hX8
  obtain ⟨r1, r2, r3, r4, r5⟩ := unhide HR
  have N9 := hide (payA_any b q m1 m2 k S.D p.day p.amt p _ S.ow w8 hB8 hP8 hM8 (unhide HK) hqb (Ne.symm hqm2) r1 r2 r3 r4 r5 (unhide HF0))
  have HF := hide (And.intro hqm1 (And.intro hqm2 (And.intro hqb (And.intro hqW hB8))))
  clear hb8 hB8 hql7 hqW hqm1 hqm2 hqb hP8 hM8 hX8 r1 r2 r3 r4 r5 hrun b5 e0 e1
  go_wp2_with fail
  refine (unhide N9).mono ?_
  rintro e w9 ⟨rfl, hP9, ⟨k', hk', hM9⟩, hC9⟩
  have HP9 := hide hP9; have HM9 := hide hM9; have HC9 := hide hC9; have HK9 := hide hk'
  clear hP9 hM9 hC9 hk'
  go_wp2
  go_ret
  obtain ⟨hqm1, hqm2, hqb, hqW, hB8⟩ := unhide HF
  have hC79 : Chg (fun x => x = m1 ∨ x = m2 ∨ x = q) w7 w9 := ((unhide HC78).mono (fun x hx => .inl hx)).trans (unhide HC9) (fun x hx => .inl (.inr (hx.symm)))
  have hCW9 : Chg F Wd w9 := (Chg.of_below F (unhide HB7)).trans hC79 (fun x hx => by rcases hx with rfl | rfl | rfl; exact .inl (unhide HI6).f1; exact .inl (unhide HI6).f2; exact .inr hqW)
  have hP9 := unhide HP9
  rw [Int.zero_add] at hP9
  refine ⟨rfl, (fun x => F x ∨ x = q), ⟨m1, m2, n + 1, k', qs ++ [q], ?_⟩, (unhide HC6).trans hCW9 (fun x hx => .inl hx), fun x hx => by rcases hx with hx | rfl; exact .inl hx; exact .inr (Nat.le_trans (unhide HC6).size hqW)⟩
  refine (unhide HI6).posted (unhide HI) (hB8.of_block ((unhide HC9).block b hB8.lt (fun e => by rcases e with e | e; exact hqb e.symm; exact (unhide HI6).n2 e.symm)))
    ((unhide HN8).of_block ((unhide HC9).block m1 (unhide HN8).lt (fun e => by rcases e with e | e; exact hqm1 e.symm; exact (unhide HI6).n3 e))) (unhide HM9) (unhide HK9) hP9 hqW hCW9 (fun x hx => ?_)
  have hxF := (unhide HI6).fq x hx
  have hxl := (unhide HI6).flt x hxF
  have hxn := (unhide HI6).nq x hx
  exact (hC79.block x (Nat.lt_of_lt_of_le hxl (unhide HB7).size) (fun e => by rcases e with e | e | e; exact hxn.2.1 e; exact hxn.2.2 e; omega)).trans ((unhide HB7).block x hxl)
/-- Post of anything -/
theorem post_any (h : CIn w F b S m1 m2 n k qs) (hok : okS S) (p : Pst) (hS1 : InR p.shop) (hS2 : InR p.trace) :
    Calls Try.prog 7 #[.pointer (some ⟨b, 0, none⟩), pstV p] w (cPost w F b (postS S p)) := by
  have hpk := pst_ok p
  unfold postS
  cases hA : okA p with
  | false => rw [hA] at hpk; rw [hpk]; exact post_badA h p hA
  | true =>
    cases hM : inB 0 p.amt 999999999999 with
    | false => rw [hA, hM] at hpk; rw [hpk]; exact post_badM h p hA hM
    | true =>
      cases hN : okN p with
      | false => rw [hA, hM, hN] at hpk; rw [hpk]; exact post_badN h p hA hM hN
      | true =>
        rw [hA, hM, hN] at hpk
        rw [hpk, if_neg (by decide)]
        by_cases hd : dayE S.last p.day = 0
        · rw [if_neg (by simpa using hd)]
          cases hi : idxK S.L p.shop p.trace with
          | some i => rw [if_pos (show (some i).isSome = true from rfl)]; exact post_twice h p hA hM hN hS1 hS2 hd hi
          | none =>
            rw [if_neg (by decide)]
            by_cases hl : 100000 ≤ S.L.length
            · rw [if_pos hl]; exact post_full h p hA hM hN hS1 hS2 hd hi (by have := hok.len; omega)
            · rw [if_neg hl]; exact post_new h p hA hM hN hS1 hS2 hd hi (by omega) hok
        · rw [if_pos hd]; exact post_day h p hA hM hN hd
end Go.Proofs.Ytdameincehiieaa
