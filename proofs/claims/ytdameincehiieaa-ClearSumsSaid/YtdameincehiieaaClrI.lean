/- clear: pay, of any amount. -/
import Derived.Test.YtdameincehiieaaClrH
namespace Go.Proofs.Ytdameincehiieaa
open Go.RowKit Go.WideMaps Go.Maps
set_option linter.unusedVariables false
set_option maxRecDepth 100000

/-- what was there is as it was, but for the blocks of F -/
structure Chg (F : Nat → Prop) (w w' : World) : Prop where
  os : w'.os = w.os
  tape : w'.tape = w.tape
  output : w'.output = w.output
  size : w.heap.size ≤ w'.heap.size
  block : ∀ k, k < w.heap.size → ¬ F k → w'.heap[k]? = w.heap[k]?
theorem Chg.refl (F : Nat → Prop) (w : World) : Chg F w w := ⟨rfl, rfl, rfl, Nat.le_refl _, fun _ _ _ => rfl⟩
theorem Chg.trans {F G : Nat → Prop} {w w1 w2 : World} (h : Chg F w w1) (k : Chg G w1 w2) (hG : ∀ x, G x → F x ∨ w.heap.size ≤ x) : Chg F w w2 :=
  ⟨k.os.trans h.os, k.tape.trans h.tape, k.output.trans h.output, Nat.le_trans h.size k.size, fun i hi hn =>
    (k.block i (Nat.lt_of_lt_of_le hi h.size) (fun hg => by rcases hG i hg with h1 | h1; exact hn h1; omega)).trans (h.block i hi hn)⟩
theorem Chg.mono {F G : Nat → Prop} {w w' : World} (h : Chg F w w') (hG : ∀ x, F x → G x) : Chg G w w' := ⟨h.os, h.tape, h.output, h.size, fun i hi hn => h.block i hi (fun hf => hn (hG i hf))⟩
theorem Chg.of_below {w w' : World} (F : Nat → Prop) (h : Below w.heap.size w w') : Chg F w w' := ⟨h.os, h.tape, h.output, h.size, fun k hk _ => h.block k hk⟩
theorem Chg.below {F : Nat → Prop} {w w' : World} {B : Nat} (h : Chg F w w') (hB : B ≤ w.heap.size) (hF : ∀ x, F x → B ≤ x) : Below B w w' :=
  ⟨h.os, h.tape, h.output, h.size, fun k hk => h.block k (by omega) (fun hf => by have := hF k hf; omega)⟩
theorem Chg.of_tnd {w w' : World} {b : Nat} (h : Tnd w w' b) : Chg (fun x => x = b) w w' := ⟨(h.1 b (Nat.le_refl _)).os, (h.1 b (Nat.le_refl _)).tape, (h.1 b (Nat.le_refl _)).output, h.2.2, fun k hk hn => h.2.1 k hk hn⟩
theorem Chg.setBlock (w : World) (m : Nat) (o : Obj) : Chg (fun x => x = m) w (ChangeMaps.setBlock w m o) :=
  ⟨rfl, rfl, rfl, by show _ ≤ (w.heap.setIfInBounds m o).size; rw [Array.size_setIfInBounds]; exact Nat.le_refl _, fun k hk hn => by
    show (w.heap.setIfInBounds m o)[k]? = _
    rw [Array.getElem?_setIfInBounds_ne (Ne.symm hn)]⟩
theorem Chg.drewN {F : Nat → Prop} {w w' : World} (h : Chg F w w') (q : Nat) : Chg F w (w'.drewN q) := ⟨h.os, h.tape, h.output, h.size, h.block⟩
theorem Chg.drew {F : Nat → Prop} {w w' : World} (h : Chg F w w') : Chg F w w'.drew := ⟨h.os, h.tape, h.output, h.size, h.block⟩
theorem Chg.setCell (w : World) (a : Addr) (u : Value) : Chg (fun x => x = a.block) w (w.setCell a u) :=
  ⟨rfl, rfl, rfl, by simp [World.setCell], fun k hk hn => Below.heap_setCell _ _ _ _ hn⟩
theorem Chg.grown {w w' : World} {row : Nat} (hg : w.grownBy w' (some row)) : Chg (fun x => x = row) w w' := ⟨hg.os, hg.tape, hg.output, hg.size, fun k hk hn => hg.block k hk (fun e => hn (Option.some.inj e))⟩

/-- what region 5 of pay leaves -/
theorem pay_tail (m2 k : Nat) (f : Int → Int → Int) (x y z : Int) (W : World) (hM2 : PMap W m2 k f) (hk : k < maxLen) (h1 : InR x) (h2 : InR y) (h3 : InR (f x y + z)) (h4 : f x y + z ≠ 0) :
    ∃ (v0 : Value) (st : Nat) (o1 o2 : Obj), (Instr.lookup 65 (.map (some m2)) (.agg #[.int .i64 x, .int .i64 y]) false).run Try.prog W.drew = .ok (.int .i64 (f x y)) W.drew ∧
      (Instr.mapEntry 65 (.map (some m2)) (.agg #[.int .i64 x, .int .i64 y])).run Try.prog W.drew = .ok (.tuple #[v0, .int .i64 st]) (ChangeMaps.setBlock W.drew m2 o1) ∧
      (Instr.lookup 65 (.map (some m2)) (.agg #[.int .i64 x, .int .i64 y]) false).run Try.prog (ChangeMaps.setBlock W.drew m2 o1) = .ok (.int .i64 (f x y)) (ChangeMaps.setBlock W.drew m2 o1) ∧
      (Instr.entryStore 65 (.map (some m2)) (.int .i64 st) (.int .i64 (f x y + z))).run Try.prog (ChangeMaps.setBlock W.drew m2 o1) = .ok () (ChangeMaps.setBlock (ChangeMaps.setBlock W.drew m2 o1) m2 o2) ∧
      PMap (ChangeMaps.setBlock (ChangeMaps.setBlock W.drew m2 o1) m2 o2) m2 (k + 1) (upd2 f x y (f x y + z)) ∧ Chg (fun i => i = m2) W (ChangeMaps.setBlock (ChangeMaps.setBlock W.drew m2 o1) m2 o2) := by
  have hl := (hM2.of_block (w' := W.drew) rfl).look x y h1 h2
  obtain ⟨v0, st, o1, hE, hS⟩ := (hM2.of_block (w' := W.drew) rfl).entry hk x y h1 h2
  obtain ⟨o2, hS1, hS2⟩ := hS (ChangeMaps.setBlock W.drew m2 o1) _ h3 h4 (setAt W.drew m2 o1 hM2.lt)
  have hl2 := ((hM2.of_block (w' := W.drew) rfl).entered hk x y h1 h2 hE).look x y h1 h2
  exact ⟨v0, st, o1, o2, hl, hE, hl2, hS1, hS2, (((Chg.refl _ W).drew.trans (Chg.setBlock _ m2 o1) (fun x h => .inl h)).trans (Chg.setBlock _ m2 o2) (fun x h => .inl h))⟩
/-- the box of the two banks, the payment, the map of what is owed -/
structure PayW (w W : World) (b q m2 k : Nat) (p : Pst) (c : Cse) (f : Int → Int → Int) (x y : Int) : Prop where
  pay : PayB W q p c
  cel : W.cell? ⟨b, 6, none⟩ = some (.map (some m2))
  map : PMap W m2 k f
  box : W.heap[w.heap.size]? = some (.cells #[.int .i64 x, .int .i64 y] 89)
  tnd : Tnd w W q
theorem PayW.start {w : World} {b q m1 m2 k : Nat} {D : Dys} {t : Int} {p : Pst} {c : Cse} {f : Int → Int → Int} (h : ClrB w b D t m1 m2) (hP : PayB w q p c) (hM : PMap w m2 k f) (hqb : q ≠ b) (hmq : m2 ≠ q) (z : Int) :
    PayW w ((w.setCell ⟨q, 6, none⟩ (.int .i64 z)).alloc (.cells #[.int .i64 p.frm, .int .i64 p.to] 89)).drew b q m2 k p ⟨c.st, c.since, c.disp, z⟩ f p.frm p.to := by
  have hql := blk_lt hP
  have hp2 := hP.paidTo z
  have hT := tnd_box w q (.int .i64 z) (.cells #[.int .i64 p.frm, .int .i64 p.to] 89) hql
  have hQ : PayB ((w.setCell ⟨q, 6, none⟩ (.int .i64 z)).alloc (.cells #[.int .i64 p.frm, .int .i64 p.to] 89)).drew q p ⟨c.st, c.since, c.disp, z⟩ := hp2.of_block (((Below.refl (w.setCell ⟨q, 6, none⟩ (.int .i64 z)).heap.size _).alloc (Nat.le_refl _) _).block q (blk_lt hp2))
  have hC := (h.of_block (hT.2.1 b h.lt (Ne.symm hqb))).cells.2.2.2.2.2.2
  have hM2 := hM.tnd hT hmq
  have hsz : (w.setCell ⟨q, 6, none⟩ (.int .i64 z)).heap.size = w.heap.size := by simp [World.setCell]
  have hbx := alloc_at (w.setCell ⟨q, 6, none⟩ (.int .i64 z)) (.cells #[.int .i64 p.frm, .int .i64 p.to] 89)
  rw [hsz] at hbx
  exact ⟨hQ, hC, hM2, hbx, hT⟩
theorem PayW.cells {w W : World} {b q m2 k : Nat} {p : Pst} {c : Cse} {f : Int → Int → Int} {x y : Int} (h : PayW w W b q m2 k p c f x y) :
    W.cell? ⟨w.heap.size, 0, none⟩ = some (.int .i64 x) ∧ W.cell? ⟨w.heap.size, 1, none⟩ = some (.int .i64 y) ∧ (∀ i, W.frozen? ⟨w.heap.size, i, none⟩ = false) := by
  have hb := h.box
  refine ⟨?_, ?_, fun i => ?_⟩ <;> simp [World.cell?, World.frozen?, hb]
theorem PayW.turn {w W : World} {b q m2 k : Nat} {p : Pst} {c : Cse} {f : Int → Int → Int} {x y : Int} (h : PayW w W b q m2 k p c f x y) (hq : q < w.heap.size) (hb : b < w.heap.size) (hm : m2 < w.heap.size) (u v : Int) :
    PayW w ((W.setCell ⟨w.heap.size, 0, none⟩ (.int .i64 u)).setCell ⟨w.heap.size, 1, none⟩ (.int .i64 v)).drew b q m2 k p c f u v := by
  have hsame : ∀ i, i ≠ w.heap.size → ((W.setCell ⟨w.heap.size, 0, none⟩ (.int .i64 u)).setCell ⟨w.heap.size, 1, none⟩ (.int .i64 v)).drew.heap[i]? = W.heap[i]? := fun i hi => by
    show ((W.setCell ⟨w.heap.size, 0, none⟩ (.int .i64 u)).setCell ⟨w.heap.size, 1, none⟩ (.int .i64 v)).heap[i]? = W.heap[i]?
    rw [Below.heap_setCell _ _ _ _ hi, Below.heap_setCell _ _ _ _ hi]
  have hbx := h.box
  refine ⟨h.pay.of_block (hsame q (by omega)), ?_, h.map.of_block (hsame m2 (by omega)), ?_, ?_, fun i hi hn => (hsame i (by omega)).trans (h.tnd.2.1 i hi hn), ?_⟩
  · have := h.cel
    unfold World.cell? at *
    rw [hsame b (by omega)]
    exact this
  · show ((W.setCell ⟨w.heap.size, 0, none⟩ (.int .i64 u)).setCell ⟨w.heap.size, 1, none⟩ (.int .i64 v)).heap[w.heap.size]? = _
    simp [World.setCell, Array.getElem?_modify, hbx]
  · intro B hB
    exact ((h.tnd.1 B hB).setCell (by show B ≤ w.heap.size; omega) _ |>.setCell (by show B ≤ w.heap.size; omega) _).drew
  · have := h.tnd.2.2
    show _ ≤ ((W.setCell ⟨w.heap.size, 0, none⟩ (.int .i64 u)).setCell ⟨w.heap.size, 1, none⟩ (.int .i64 v)).heap.size
    simp [World.setCell]
    exact this
def payPost (w : World) (q m2 k : Nat) (p : Pst) (c : Cse) (f : Int → Int → Int) (z : Int) (e : Ending) (w' : World) : Prop :=
  e = .returned (.tuple #[]) ∧ PayB w' q p ⟨c.st, c.since, c.disp, c.paid + z⟩ ∧ (∃ k', k' ≤ k + 1 ∧ PMap w' m2 k' (owU f p z)) ∧ Chg (fun i => i = q ∨ i = m2) w w'
set_option maxHeartbeats 2000000 in
theorem payA_plus (b q m1 m2 k : Nat) (D : Dys) (t z : Int) (p : Pst) (c : Cse) (f : Int → Int → Int) (w : World) (h : ClrB w b D t m1 m2) (hP : PayB w q p c) (hM : PMap w m2 k f) (hk : k < maxLen) (hqb : q ≠ b) (hmq : m2 ≠ q) (hz : 0 < z) (hpd : InR (c.paid + z)) (hft : (p.frm != p.to) = true) (h1 : InR p.frm) (h2 : InR p.to) (h3 : InR (f p.frm p.to + z)) (h4 : f p.frm p.to + z ≠ 0) :
    Calls Try.prog 25 #[.pointer (some ⟨b, 0, none⟩), .pointer (some ⟨q, 0, none⟩), .int .i64 z] w (payPost w q m2 k p c f z) := by
  obtain ⟨d0, d1, _, _, _, _, d6⟩ := hP.cells
  have f6 := hP.frozen 6
  have hql := blk_lt hP
  have u3 : wrap64 (c.paid + z) = c.paid + z := by unfold wrap64 InR at *; omega
  have u4 : IntKind.i64.wrap (f p.frm p.to + z) = f p.frm p.to + z := by rw [IntKind.wrap_i64]; unfold InR at *; omega
  have HG := hide (PayW.start h hP hM hqb hmq (c.paid + z))
  have HO : Hid (upd2 f p.frm p.to (f p.frm p.to + z) = owU f p z) := hide (by
    have hne : p.frm ≠ p.to := by simpa using hft
    funext i j; unfold upd2 owU; rw [if_neg hne]
    by_cases e : i = p.frm ∧ j = p.to
    · rw [if_pos e, if_pos ⟨hz, e.1, e.2⟩, e.1, e.2]
    · rw [if_neg e, if_neg (fun hh => e hh.2), if_neg (by omega)])
  clear h hP hM
  go_enter Try.func25, Try.ntmps25
  go_wp2_with fail
  go_region
  generalize ((w.setCell ⟨q, 6, none⟩ (.int .i64 (c.paid + z))).alloc (.cells #[.int .i64 p.frm, .int .i64 p.to] 89)).drew = W at *
  obtain ⟨e0, e1, _⟩ := (unhide HG).cells
  have hC := (unhide HG).cel
  obtain ⟨v0, st, o1, o2, hl, hE, hl2, hS1, hS2, hch⟩ := pay_tail m2 k f p.frm p.to z W (unhide HG).map hk h1 h2 h3 h4
  have HS2 := hide hS2; have HCH := hide hch
  clear hS2 hch
  go_wp2_with fail
  go_region
  all_goals
    go_wp2
    go_end0
    exact ⟨rfl, (unhide HG).pay.of_block ((unhide HCH).block q (blk_lt (unhide HG).pay) (Ne.symm hmq)), ⟨k + 1, Nat.le_refl _, (unhide HO) ▸ unhide HS2⟩, ((Chg.of_tnd (unhide HG).tnd).mono (fun x hx => .inl hx)).trans (unhide HCH) (fun x hx => .inl (.inr hx))⟩
set_option maxHeartbeats 2000000 in
theorem payA_minus (b q m1 m2 k : Nat) (D : Dys) (t z : Int) (p : Pst) (c : Cse) (f : Int → Int → Int) (w : World) (h : ClrB w b D t m1 m2) (hP : PayB w q p c) (hM : PMap w m2 k f) (hk : k < maxLen) (hqb : q ≠ b) (hmq : m2 ≠ q) (hz : z < 0) (hzr : InR (-z)) (hpd : InR (c.paid + z)) (hft : (p.to != p.frm) = true) (h1 : InR p.frm) (h2 : InR p.to) (h3 : InR (f p.to p.frm + -z)) (h4 : f p.to p.frm + -z ≠ 0) :
    Calls Try.prog 25 #[.pointer (some ⟨b, 0, none⟩), .pointer (some ⟨q, 0, none⟩), .int .i64 z] w (payPost w q m2 k p c f z) := by
  obtain ⟨d0, d1, _, _, _, _, d6⟩ := hP.cells
  have f6 := hP.frozen 6
  have hql := blk_lt hP
  have hbl := h.lt
  have hml := hM.lt
  have u3 : wrap64 (c.paid + z) = c.paid + z := by unfold wrap64 InR at *; omega
  have u5 : IntKind.i64.wrap (-z) = -z := by rw [IntKind.wrap_i64]; unfold InR at *; omega
  have u4 : IntKind.i64.wrap (f p.to p.frm + -z) = f p.to p.frm + -z := by rw [IntKind.wrap_i64]; unfold InR at *; omega
  have HG := hide (PayW.start h hP hM hqb hmq (c.paid + z))
  have HO : Hid (upd2 f p.to p.frm (f p.to p.frm + -z) = owU f p z) := hide (by
    have hne : p.to ≠ p.frm := by simpa using hft
    funext i j; unfold upd2 owU; rw [if_neg (Ne.symm hne)]
    by_cases e : i = p.to ∧ j = p.frm
    · rw [if_pos e, if_neg (by omega), if_pos ⟨hz, e.1, e.2⟩, e.1, e.2]; omega
    · rw [if_neg e, if_neg (by omega), if_neg (fun hh => e hh.2)])
  have hneg : 0 < -z := by omega
  clear h hP hM
  go_enter Try.func25, Try.ntmps25
  go_wp2_with fail
  go_region
  generalize ((w.setCell ⟨q, 6, none⟩ (.int .i64 (c.paid + z))).alloc (.cells #[.int .i64 p.frm, .int .i64 p.to] 89)).drew = W at *
  obtain ⟨e0, e1, e2⟩ := (unhide HG).cells
  have e20 := e2 0
  have e21 := e2 1
  obtain ⟨d0', d1', _, _, _, _, _⟩ := (unhide HG).pay.cells
  have hqn : q ≠ w.heap.size := by omega
  go_wp2_with fail
  go_region
  have HG2 := hide ((unhide HG).turn hql hbl hml p.to p.frm)
  generalize ((W.setCell ⟨w.heap.size, 0, none⟩ (.int .i64 p.to)).setCell ⟨w.heap.size, 1, none⟩ (.int .i64 p.frm)).drew = W2 at *
  clear e0 e1 e2 e20 e21 d0' d1' HG
  obtain ⟨e0, e1, _⟩ := (unhide HG2).cells
  have hC := (unhide HG2).cel
  obtain ⟨v0, st, o1, o2, hl, hE, hl2, hS1, hS2, hch⟩ := pay_tail m2 k f p.to p.frm (-z) W2 (unhide HG2).map hk h2 h1 h3 h4
  have HS2 := hide hS2; have HCH := hide hch
  clear hS2 hch
  go_wp2_with fail
  go_region
  all_goals
    go_wp2
    go_end0
    exact ⟨rfl, (unhide HG2).pay.of_block ((unhide HCH).block q (blk_lt (unhide HG2).pay) (Ne.symm hmq)), ⟨k + 1, Nat.le_refl _, (unhide HO) ▸ unhide HS2⟩, ((Chg.of_tnd (unhide HG2).tnd).mono (fun x hx => .inl hx)).trans (unhide HCH) (fun x hx => .inl (.inr hx))⟩
set_option maxHeartbeats 2000000 in
theorem payA_same (b q m1 m2 k : Nat) (D : Dys) (t z : Int) (p : Pst) (c : Cse) (f : Int → Int → Int) (w : World) (h : ClrB w b D t m1 m2) (hP : PayB w q p c) (hM : PMap w m2 k f) (hqb : q ≠ b) (hmq : m2 ≠ q) (hzr : InR (-z)) (hpd : InR (c.paid + z)) (hft : p.frm = p.to) (hz0 : z ≠ 0) :
    Calls Try.prog 25 #[.pointer (some ⟨b, 0, none⟩), .pointer (some ⟨q, 0, none⟩), .int .i64 z] w (payPost w q m2 k p c f z) := by
  obtain ⟨d0, d1, _, _, _, _, d6⟩ := hP.cells
  have f6 := hP.frozen 6
  have hql := blk_lt hP
  have hbl := h.lt
  have hml := hM.lt
  have u3 : wrap64 (c.paid + z) = c.paid + z := by unfold wrap64 InR at *; omega
  have u5 : IntKind.i64.wrap (-z) = -z := by rw [IntKind.wrap_i64]; unfold InR at *; omega
  have HG := hide (PayW.start h hP hM hqb hmq (c.paid + z))
  have HO : Hid (f = owU f p z) := hide (by funext i j; unfold owU; rw [if_pos hft])
  clear h hP hM
  have hb1 : (p.frm != p.to) = false := by simpa using hft
  have hb2 : (p.to != p.frm) = false := by simpa using hft.symm
  clear hft
  by_cases hz : 0 < z
  · go_enter Try.func25, Try.ntmps25
    go_wp2_with fail
    go_region
    generalize ((w.setCell ⟨q, 6, none⟩ (.int .i64 (c.paid + z))).alloc (.cells #[.int .i64 p.frm, .int .i64 p.to] 89)).drew = W at *
    obtain ⟨e0, e1, _⟩ := (unhide HG).cells
    go_wp2
    go_end0
    exact ⟨rfl, (unhide HG).pay, ⟨k, Nat.le_succ _, (unhide HO) ▸ (unhide HG).map⟩, (Chg.of_tnd (unhide HG).tnd).mono (fun x hx => .inl hx)⟩
  · have hzn : z < 0 := by omega
    have hneg : 0 < -z := by omega
    go_enter Try.func25, Try.ntmps25
    go_wp2_with fail
    go_region
    generalize ((w.setCell ⟨q, 6, none⟩ (.int .i64 (c.paid + z))).alloc (.cells #[.int .i64 p.frm, .int .i64 p.to] 89)).drew = W at *
    obtain ⟨e0, e1, e2⟩ := (unhide HG).cells
    have e20 := e2 0
    have e21 := e2 1
    obtain ⟨d0', d1', _, _, _, _, _⟩ := (unhide HG).pay.cells
    have hqn : q ≠ w.heap.size := by omega
    go_wp2_with fail
    go_region
    have HG2 := hide ((unhide HG).turn hql hbl hml p.to p.frm)
    generalize ((W.setCell ⟨w.heap.size, 0, none⟩ (.int .i64 p.to)).setCell ⟨w.heap.size, 1, none⟩ (.int .i64 p.frm)).drew = W2 at *
    clear e0 e1 e2 e20 e21 d0' d1' HG
    obtain ⟨e0, e1, _⟩ := (unhide HG2).cells
    go_wp2
    go_end0
    exact ⟨rfl, (unhide HG2).pay, ⟨k, Nat.le_succ _, (unhide HO) ▸ (unhide HG2).map⟩, (Chg.of_tnd (unhide HG2).tnd).mono (fun x hx => .inl hx)⟩
theorem payA_any (b q m1 m2 k : Nat) (D : Dys) (t z : Int) (p : Pst) (c : Cse) (f : Int → Int → Int) (w : World) (h : ClrB w b D t m1 m2) (hP : PayB w q p c) (hM : PMap w m2 k f) (hk : k < maxLen) (hqb : q ≠ b) (hmq : m2 ≠ q) (hzr : InR (-z)) (hpd : InR (c.paid + z)) (h1 : InR p.frm) (h2 : InR p.to) (h3 : ∀ i j, InR (f i j + z) ∧ InR (f i j + -z)) (h5 : ∀ i j, 0 ≤ f i j) :
    Calls Try.prog 25 #[.pointer (some ⟨b, 0, none⟩), .pointer (some ⟨q, 0, none⟩), .int .i64 z] w (payPost w q m2 k p c f z) := by
  by_cases hz0 : z = 0
  · subst hz0
    refine (pay_none b q m1 m2 D t p c w h hP hqb (by rw [Int.add_zero] at hpd; exact hpd)).mono ?_
    rintro e w' ⟨rfl, g1, g2⟩
    exact ⟨rfl, by rw [Int.add_zero]; exact g1, ⟨k, Nat.le_succ _, by rw [owU_zero]; exact hM.tnd g2 hmq⟩, (Chg.of_tnd g2).mono (fun x hx => .inl hx)⟩
  by_cases hft : p.frm = p.to
  · exact payA_same b q m1 m2 k D t z p c f w h hP hM hqb hmq hzr hpd hft hz0
  by_cases hz : 0 < z
  · exact payA_plus b q m1 m2 k D t z p c f w h hP hM hk hqb hmq hz hpd (by simpa using hft) h1 h2 (h3 _ _).1 (by have := h5 p.frm p.to; omega)
  · exact payA_minus b q m1 m2 k D t z p c f w h hP hM hk hqb hmq (by omega) hzr hpd (by simpa using fun e => hft e.symm) h1 h2 (h3 _ _).2 (by have := h5 p.to p.frm; omega)
end Go.Proofs.Ytdameincehiieaa
