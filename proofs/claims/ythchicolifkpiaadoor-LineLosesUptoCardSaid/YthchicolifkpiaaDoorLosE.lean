/- The calls of an end of a noisy line, in numbers: what it is (EndA), where it lies, what a call leaves alone. -/
import Derived.Test.YthchicolifkpiaaDoorLsA
import Derived.Test.YthchicolifkpiaaDoorPAll
namespace Go.Proofs.YthchicolifkpiaaDoor
open Go.RowKit Go.Lib
set_option linter.unusedVariables false

/-- an end that lies in block b; F: the blocks that are its own -/
def EAt (w : World) (b base : Nat) (F : Nat → Prop) (G H : List ByteArray) (x : Nd) (told : Nat) : Prop :=
  ∃ T k turn pause aw owed part lost got tv pv gv, PAt w b base T ((32 * k : Nat) : Int) turn pause aw owed part lost got tv pv gv ∧ EndA G H x told T k turn pause aw owed part lost got ∧ (∀ q, F q ↔ InP b tv pv gv q)
/-- what a call leaves alone -/
structure EStep (w w' : World) (F F' : Nat → Prop) : Prop where
  keep : KeepP F w w'
  new : ∀ q, F' q → F q ∨ w.heap.size ≤ q
theorem EStep.of {b : Nat} {w w' : World} {tv pv gv tv' pv' gv' : Value} {F : Nat → Prop} (h : StepP b w w' tv pv gv tv' pv' gv') (hF : ∀ q, F q ↔ InP b tv pv gv q) : EStep w w' F (InP b tv' pv' gv') :=
  ⟨⟨h.keep.os, h.keep.tape, h.keep.output, h.keep.size, fun q hq hn => h.keep.block q hq (fun k => hn ((hF q).2 k))⟩, fun q hq => (h.new q hq).imp (hF q).2 id⟩
theorem EAt.kept {w w' : World} {b base : Nat} {F : Nat → Prop} {G H : List ByteArray} {x : Nd} {told : Nat} (h : EAt w b base F G H x told) (hb : ∀ q, F q → w'.heap[q]? = w.heap[q]?) : EAt w' b base F G H x told := by
  obtain ⟨T, k, turn, pause, aw, owed, part, lost, got, tv, pv, gv, hP, hA, hF⟩ := h
  refine ⟨T, k, turn, pause, aw, owed, part, lost, got, tv, pv, gv, ⟨?_, hP.lo, ?_, ?_, ?_, hP.nt, hP.np, hP.ng, hP.tp, hP.tg, hP.pg⟩, hA, hF⟩
  · exact (hb b ((hF b).2 (.inl rfl))).trans hP.blk
  · exact slot_kept hP.ot fun q hq => hb q ((hF q).2 (.inr (.inl hq)))
  · exact slot_kept hP.op fun q hq => hb q ((hF q).2 (.inr (.inr (.inl hq))))
  · exact slot_kept hP.og fun q hq => hb q ((hF q).2 (.inr (.inr (.inr hq))))
theorem EAt.ge {w : World} {b base : Nat} {F : Nat → Prop} {G H : List ByteArray} {x : Nd} {told : Nat} (h : EAt w b base F G H x told) : ∀ q, F q → base ≤ q ∧ q < w.heap.size := by
  obtain ⟨T, k, turn, pause, aw, owed, part, lost, got, tv, pv, gv, hP, hA, hF⟩ := h
  have hrow : ∀ {e : TypeId} {v : Value} {n : Nat} {xs : List Value}, w.ownsRow base e 1 v n xs → ∀ q, v.ownBlock = some q → base ≤ q ∧ q < w.heap.size := by
    intro e v n xs ho q hq
    rcases ho.2 with ⟨rfl, _⟩ | ⟨g, cap, cur, rfl, h3, h4, h5⟩
    · cases hq
    · cases hq
      refine ⟨h3, ?_⟩
      rcases Nat.lt_or_ge g w.heap.size with hlt | hge
      · exact hlt
      · rw [Array.getElem?_eq_none hge] at h4; cases h4
  intro q hq
  rcases (hF q).1 hq with rfl | h | h | h
  · exact ⟨hP.lo, hP.lt⟩
  · exact hrow hP.ot q h
  · exact hrow hP.op q h
  · exact hrow hP.og q h
theorem EndA.facts {G H : List ByteArray} {x : Nd} {told : Nat} {T : List ByteArray} {k : Nat} {turn pause aw : Int} {owed : Bool} {part : ByteArray} {lost : Bool} {got : List ByteArray} (h : EndA G H x told T k turn pause aw owed part lost got)
    (hG : ∀ s ∈ G, s.size ≤ 4096) (hH : ∀ s ∈ H, s.size ≤ 4096) (hl : H.length ≤ 1048576) :
    (∀ y r, T = y :: r → y.size ≤ 4096 ∧ 32 * k ≤ y.size) ∧ 0 ≤ turn ∧ turn ≤ 1 ∧ 0 ≤ aw ∧ aw ≤ 1 ∧ part.size ≤ 4096 ∧ (got.length : Int) ≤ 1048576 ∧ 0 ≤ pause := by
  have h1 := h.tu
  have h2 := h.awd
  have h3 := h.pa
  refine ⟨fun y r e => ?_, by omega, by omega, by omega, by omega, ?_, ?_, by omega⟩
  · obtain ⟨D, hD, _, _, h4⟩ := h.out
    subst e
    refine ⟨hG y (by rw [hD]; simp), npc_at (h4 y r rfl)⟩
  · obtain ⟨e1, e2, _, _⟩ := h.inn
    rw [e2]
    cases hlo : lost with
    | true => simp
    | false =>
      rw [hlo] at e1
      have := of_decide_eq_false e1.symm
      simp only [Bool.false_eq_true, if_false]
      omega
  · obtain ⟨_, _, e3, _⟩ := h.inn
    obtain ⟨G2, hg⟩ := got_prefix H hH x.m
    have hz : (gotOf H x.m).length ≤ H.length := by
      have := congrArg List.length hg
      rw [List.length_append] at this
      omega
    have : got.length ≤ (gotOf H x.m).length := by rw [e3, List.length_drop]; exact Nat.sub_le _ _
    omega

theorem e_hear (w : World) (b base : Nat) (F : Nat → Prop) (G H : List ByteArray) (x : Nd) (told : Nat) (h : EAt w b base F G H x told) (ht : Tab w) (hbase : base ≤ w.heap.size) (hG : ∀ s ∈ G, s.size ≤ 4096) (hH : ∀ s ∈ H, s.size ≤ 4096) (hl : H.length ≤ 1048576)
    (q : Option Nat) (c : Nat) (s : ByteArray) (hs : s = frT H q c) (h1 : x.a ≤ c) (h2 : c ≤ x.a + 1) (hq : ∀ p, q = some p → p < (piecesL H).length ∧ x.m ≤ p + 1 ∧ p ≤ x.m) :
    Calls Tryd.prog 10 #[.pointer (some ⟨b, 0, none⟩), .string s] w fun e w' => e = .returned (.int .i64 0) ∧ ∃ F', EAt w' b base F' G H (hearN x q c) told ∧ EStep w w' F F' := by
  obtain ⟨T, k, turn, pause, aw, owed, part, lost, got, tv, pv, gv, hP, hA, hF⟩ := h
  obtain ⟨f1, f2, f3, f4, f5, f6, f7, f8⟩ := hA.facts hG hH hl
  obtain ⟨g1, g2⟩ := hA.hear q c s hs h1 h2 hq
  have hz := frT_size H q c (fun p hp => (hq p hp).1)
  refine (hear_good w b base T k turn pause aw owed part lost got tv pv gv s hP ht (by rw [hs]; unfold maxLen; omega) g1 hbase f1 f2 f3 f4 f5 f6 f7).mono ?_
  rintro e w' ⟨rfl, tv', pv', gv', hP', hS⟩
  exact ⟨rfl, _, ⟨_, _, _, _, _, _, _, _, _, tv', pv', gv', hP', g2, fun _ => Iff.rfl⟩, EStep.of hS hF⟩
/-- what can't be read -/
theorem e_noise (w : World) (b base : Nat) (F : Nat → Prop) (G H : List ByteArray) (x : Nd) (told : Nat) (h : EAt w b base F G H x told) (ht : Tab w) (s : ByteArray) (hz : s.size ≤ maxLen) (hs : unfE s ≠ 0) :
    Calls Tryd.prog 10 #[.pointer (some ⟨b, 0, none⟩), .string s] w fun e w' => (∃ er, e = .returned (.int .i64 er)) ∧ ∃ F', EAt w' b base F' G H x told ∧ EStep w w' F F' := by
  obtain ⟨T, k, turn, pause, aw, owed, part, lost, got, tv, pv, gv, hP, hA, hF⟩ := h
  refine (hear_bad w b base T _ turn pause aw owed part lost got tv pv gv s hP ht hz hs).mono ?_
  rintro e w' ⟨rfl, tv', pv', gv', hP', hS⟩
  exact ⟨⟨_, rfl⟩, _, ⟨_, _, _, _, _, _, _, _, _, tv', pv', gv', hP', hA, fun _ => Iff.rfl⟩, EStep.of hS hF⟩
theorem e_tick (w : World) (b base : Nat) (F : Nat → Prop) (G H : List ByteArray) (x : Nd) (told : Nat) (h : EAt w b base F G H x told) (hp : x.p ≤ 4) :
    Calls Tryd.prog 11 #[.pointer (some ⟨b, 0, none⟩)] w fun e w' => e = .returned (.tuple #[]) ∧ ∃ F', EAt w' b base F' G H x.tick told ∧ EStep w w' F F' := by
  obtain ⟨T, k, turn, pause, aw, owed, part, lost, got, tv, pv, gv, hP, hA, hF⟩ := h
  have hpa := hA.pa
  refine (ptick_any w b base T _ turn pause aw owed part lost got tv pv gv hP (by omega) (by omega)).mono ?_
  rintro e w' ⟨rfl, hP', hS⟩
  exact ⟨rfl, _, ⟨_, _, _, _, _, _, _, _, _, tv, pv, gv, hP', hA.tick, fun _ => Iff.rfl⟩, EStep.of hS hF⟩
theorem e_left (w : World) (b base : Nat) (F : Nat → Prop) (G H : List ByteArray) (x : Nd) (told : Nat) (h : EAt w b base F G H x told) (hx : x.a = x.L) :
    Calls Tryd.prog 18 #[.pointer (some ⟨b, 0, none⟩)] w fun e w' => e = .returned (.int .i64 0) ∧ w' = w := by
  obtain ⟨T, k, turn, pause, aw, owed, part, lost, got, tv, pv, gv, hP, hA, hF⟩ := h
  have hT : T = [] := Classical.byContradiction fun k => by have := hA.out_iff.1 k; omega
  subst hT
  exact pleft_any w b base [] _ turn pause aw owed part lost got tv pv gv hP
theorem e_give (w : World) (b base : Nat) (F : Nat → Prop) (G H : List ByteArray) (x : Nd) (told : Nat) (h : EAt w b base F G H x told) (hbase : base ≤ w.heap.size) (s : ByteArray) (hs : s.size ≤ 4096) :
    Calls Tryd.prog 8 #[.pointer (some ⟨b, 0, none⟩), .string s] w fun e w' => ∃ er, e = .returned (.int .i64 er) ∧ ∃ F', EAt w' b base F' (if er = 0 then G ++ [s] else G) H (if er = 0 then x.more s else x) told ∧ EStep w w' F F' := by
  obtain ⟨T, k, turn, pause, aw, owed, part, lost, got, tv, pv, gv, hP, hA, hF⟩ := h
  refine (pgive_any w b base T _ turn pause aw owed part lost got tv pv gv s hP hbase (by unfold maxLen; omega)).mono ?_
  rintro e w' ⟨rfl, tv', hP', hS⟩
  refine ⟨_, rfl, _, ⟨_, k, _, _, _, _, _, _, _, tv', pv, gv, hP', ?_, fun _ => Iff.rfl⟩, EStep.of hS hF⟩
  by_cases he : giveE T.length s = 0
  · simp only [if_pos he]; exact hA.give s
  · simp only [if_neg he]; exact hA
theorem e_got (w : World) (b base : Nat) (F : Nat → Prop) (G H : List ByteArray) (x : Nd) (told : Nat) (h : EAt w b base F G H x told) :
    Calls Tryd.prog 17 #[.pointer (some ⟨b, 0, none⟩)] w fun e w' => ∃ ga gc got, e = .returned (.slice ga got.length gc) ∧ SRow w' ga got ∧ (gotOf H x.m).take told ++ got = gotOf H x.m ∧ ∃ F', EAt w' b base F' G H x (gotOf H x.m).length ∧ EStep w w' F F' := by
  obtain ⟨T, k, turn, pause, aw, owed, part, lost, got, tv, pv, gv, hP, hA, hF⟩ := h
  refine (pgot_any w b base T _ turn pause aw owed part lost got tv pv gv hP).mono ?_
  rintro e w' ⟨ga, gc, rfl, hr, hP', hS⟩
  exact ⟨ga, gc, got, rfl, hr, hA.gots.2, _, ⟨_, _, _, _, _, _, _, _, _, tv, pv, _, hP', hA.gots.1, fun _ => Iff.rfl⟩, EStep.of hS hF⟩
/-- what is to be sent -/
theorem e_take (w : World) (b base : Nat) (F : Nat → Prop) (G H : List ByteArray) (x : Nd) (told : Nat) (h : EAt w b base F G H x told) (ht : Tab w) (h0 : 0 < base) (hbase : base ≤ w.heap.size) (hG : ∀ s ∈ G, s.size ≤ 4096) :
    Calls Tryd.prog 15 #[.pointer (some ⟨b, 0, none⟩)] w fun e w' => (∃ F', EAt w' b base F' G H (halfX x) told ∧ EStep w w' F F') ∧
      ((sentN x = [] ∧ e = .returned (.slice none 0 0)) ∨ ∃ q g, sentN x = [(q, x.m)] ∧ e = .returned (.slice (some ⟨g, 0, none⟩) 1 1) ∧ g < w'.heap.size ∧ w.heap.size ≤ g ∧ w'.cell? ⟨g, 0, none⟩ = some (.string (frT G q x.m))) := by
  obtain ⟨T, k, turn, pause, aw, owed, part, lost, got, tv, pv, gv, hP, hA, hF⟩ := h
  have hdue := hA.due
  have how := hA.ow
  have hsent := hA.sent
  have htk := hA.take
  have N : Calls Tryd.prog 15 #[.pointer (some ⟨b, 0, none⟩)] w (takeQ w b base T k turn pause aw owed part lost got tv pv gv) := by
    by_cases hd : dueP T pause = true
    · rw [dueP, Bool.and_eq_true] at hd
      obtain ⟨d1, d2⟩ := hd
      obtain ⟨y, r, rfl⟩ := List.exists_cons_of_ne_nil (of_decide_eq_true d1)
      have hp0 := of_decide_eq_true d2
      subst hp0
      obtain ⟨D, hD, _, _, h4⟩ := hA.out
      exact take_due w b base y r k turn aw owed part lost got tv pv gv hP ht h0 hbase (hG y (by rw [hD]; simp)) (npc_at (h4 y r rfl))
    · exact take_idle w b base T k turn pause aw owed part lost got tv pv gv hP ht h0 hbase (by simpa using hd)
  refine N.mono ?_
  rintro e w' (⟨hd, ho, rfl, hP', hS⟩ | ⟨hd, g, rfl, g1, g2, g3, hP', hS⟩)
  · rw [hd] at hdue htk
    rw [ho] at hP'
    refine ⟨⟨_, ⟨_, _, _, _, _, _, _, _, _, tv, pv, gv, hP', htk, fun _ => Iff.rfl⟩, EStep.of hS hF⟩, .inl ⟨?_, rfl⟩⟩
    rw [sentN, ← hdue, ← how, ho]; rfl
  · refine ⟨⟨_, ⟨_, _, _, _, _, _, _, _, _, tv, pv, gv, hP', htk, fun _ => Iff.rfl⟩, EStep.of hS hF⟩, .inr ⟨if x.due then some x.a else none, g, ?_, rfl, g1, g2, ?_⟩⟩
    · rw [sentN]
      rcases hd with hd | hd
      · rw [← hdue, hd]; rfl
      · rw [← how, hd]; split <;> rfl
    · rw [g3, hdue, hsent]
end Go.Proofs.YthchicolifkpiaaDoor
