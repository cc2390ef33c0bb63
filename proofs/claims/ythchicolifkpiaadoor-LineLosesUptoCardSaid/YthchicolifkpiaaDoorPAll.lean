/- The program's end: Give, Tick, Got, New, Left, as one relation; the reference's NewEnd. -/
import Derived.Test.YthchicolifkpiaaDoorPTk
namespace Go.Proofs.YthchicolifkpiaaDoor
open Go.RowKit Go.Lib
set_option linter.unusedVariables false

theorem pgive_any (w : World) (b base : Nat) (T : List ByteArray) (arr turn pause aw : Int) (owed : Bool) (part : ByteArray) (lost : Bool) (got : List ByteArray) (tv pv gv : Value) (s : ByteArray)
    (hP : PAt w b base T arr turn pause aw owed part lost got tv pv gv) (hbw : base ≤ w.heap.size) (hs : s.size ≤ maxLen) :
    Calls Tryd.prog 8 #[.pointer (some ⟨b, 0, none⟩), .string s] w fun e w' => e = .returned (.int .i64 (giveE T.length s)) ∧ ∃ tv', PAt w' b base (if giveE T.length s = 0 then T ++ [s] else T) arr turn pause aw owed part lost got tv' pv gv ∧ StepP b w w' tv pv gv tv' pv gv := by
  by_cases he : giveE T.length s = 0
  · refine (give_yes w b base tv T arr turn pause aw owed pv lost gv s hP.blk hP.ot hP.nt hbw he).mono ?_
    rintro e w' ⟨rfl, g, cap, w3, o, hgrow, rfl, hat, own3, hE⟩
    have hat2 : ∀ q, (Value.slice (some ⟨g, 0, none⟩) (T.length + 1) cap).ownBlock = some q → tv.ownBlock = some q ∨ w.heap.size ≤ q := fun q hq => by
      have hy : g = q := Option.some.inj hq
      rcases hat with hx | hx
      · exact .inl (by rw [← hy]; exact hx)
      · exact .inr (by omega)
    have hlt := hP.lt
    refine ⟨by rw [he], _, ?_, ⟨?_, inp_texts hat2⟩⟩
    · rw [if_pos he]
      refine hP.texts hE ?_ ?_ hat2
      · rw [List.length_append, List.length_singleton]
        refine slot_kept own3 fun q hq => set_other (fun e => ?_)
        subst e
        rcases hat2 q hq with hx | hx
        · exact hP.nt hx
        · omega
      · intro q hq hqb hne
        exact (set_other hqb).trans ((hgrow.block q (by simp; omega) hne).trans (Below.heap_alloc _ _ _ hq))
    · exact (((KeepP.refl _ w).alloc o).trans (KeepP.of_grown (S := InP b tv pv gv) hgrow (fun q hq => .inr (.inl hq))) inp_refl).set b 0 _ (.inl rfl)
  · obtain ⟨ta, tc, rfl⟩ := own_slice hP.ot
    refine (give_no w b ta T.length tc arr turn pause aw owed pv lost gv s hP.blk he hs).mono ?_
    rintro e w' ⟨rfl, rfl⟩
    exact ⟨rfl, _, by rw [if_neg he]; exact hP, ⟨KeepP.refl _ _, inp_refl⟩⟩
theorem ptick_any (w : World) (b base : Nat) (T : List ByteArray) (arr turn pause aw : Int) (owed : Bool) (part : ByteArray) (lost : Bool) (got : List ByteArray) (tv pv gv : Value)
    (hP : PAt w b base T arr turn pause aw owed part lost got tv pv gv) (h0 : 0 ≤ pause) (h4 : pause ≤ 4) :
    Calls Tryd.prog 11 #[.pointer (some ⟨b, 0, none⟩)] w fun e w' => e = .returned (.tuple #[]) ∧ PAt w' b base T arr turn (tickP pause) aw owed part lost got tv pv gv ∧ StepP b w w' tv pv gv tv pv gv := by
  refine (tick_any w b tv arr turn pause aw owed pv lost gv hP.blk h0 h4).mono ?_
  rintro e w' ⟨rfl, hE, hw | hw⟩
  · subst hw
    exact ⟨rfl, ⟨hE, hP.lo, hP.ot, hP.op, hP.og, hP.nt, hP.np, hP.ng, hP.tp, hP.tg, hP.pg⟩, ⟨KeepP.refl _ _, inp_refl⟩⟩
  · subst hw
    exact ⟨rfl, hP.put hE, ⟨(KeepP.refl _ _).set b 3 _ (.inl rfl), inp_refl⟩⟩
theorem pgot_any (w : World) (b base : Nat) (T : List ByteArray) (arr turn pause aw : Int) (owed : Bool) (part : ByteArray) (lost : Bool) (got : List ByteArray) (tv pv gv : Value)
    (hP : PAt w b base T arr turn pause aw owed part lost got tv pv gv) :
    Calls Tryd.prog 17 #[.pointer (some ⟨b, 0, none⟩)] w fun e w' => ∃ ga gc, e = .returned (.slice ga got.length gc) ∧ SRow w' ga got ∧ PAt w' b base T arr turn pause aw owed part lost [] tv pv (.slice none 0 0) ∧ StepP b w w' tv pv gv tv pv (.slice none 0 0) := by
  obtain ⟨ga, gc, rfl⟩ := own_slice hP.og
  refine (got_any w b tv arr turn pause aw owed pv lost ga got.length gc hP.blk).mono ?_
  rintro e w' ⟨rfl, hE, rfl⟩
  refine ⟨ga, gc, rfl, ?_, ?_, ⟨(KeepP.refl _ _).set b 8 _ (.inl rfl), ?_⟩⟩
  · rcases hP.og.2 with ⟨h1, h2⟩ | ⟨g, cap, cur, h1, _⟩
    · exact .inl (List.length_eq_zero_iff.1 h2)
    · cases h1
      have hgl := (hP.og.lt g rfl).2
      refine .inr ⟨g, 0, rfl, by simpa using hgl, fun i s hs => ?_⟩
      have hc := hP.og.cells (g := g) rfl i (.string s) (by simp [cellsT, hs])
      rw [Addr.add_lit] at hc
      exact set_cellT (fun e => hP.ng (by rw [← e]; rfl)) hc
  · exact hP.gots (gv' := .slice none 0 0) (got' := []) hE (World.ownsRow_nil _ _ _ _) (fun q _ hq _ => set_other hq) (fun q hq => by cases hq)
  · rintro q (hq | hq | hq | hq)
    · exact .inl (.inl hq)
    · exact .inl (.inr (.inl hq))
    · exact .inl (.inr (.inr (.inl hq)))
    · cases hq
theorem pnew_any (w : World) : Calls Tryd.prog 5 #[] w fun e w' => e = .returned (.pointer (some ⟨w.heap.size, 0, none⟩)) ∧ Below w.heap.size w w' ∧ PAt w' w.heap.size w.heap.size [] 0 0 0 0 false ByteArray.empty false [] (.slice none 0 0) (.slice none 0 0) (.slice none 0 0) := by
  go_enter Tryd.func5, Tryd.ntmps5
  go_wp2
  go_ret
  exact ⟨rfl, (Below.refl _ _).alloc (Nat.le_refl _) _, ⟨heap_alloc_new _ _, Nat.le_refl _, World.ownsRow_nil _ _ _ _, World.ownsRow_nil _ _ _ _, World.ownsRow_nil _ _ _ _, by simp [Value.ownBlock], by simp [Value.ownBlock], by simp [Value.ownBlock], Apart.nil rfl, Apart.nil rfl, Apart.nil rfl⟩⟩
theorem rnew_any (w : World) : Calls Tryd.prog 6 #[] w fun e w' => e = .returned (rend none 0 0 0 (-1) none 0 0 false 0) ∧ Below w.heap.size w w' := by
  go_enter Tryd.func6, Tryd.ntmps6
  go_wp2
  refine bodyPost_ret (v := rend none 0 0 0 (-1) none 0 0 false 0) (by simp [results, Tryd.results6, go_sem]) rfl ⟨rfl, ?_⟩
  exact (Below.refl _ _).alloc (Nat.le_refl _) _
theorem pleft_any (w : World) (b base : Nat) (T : List ByteArray) (arr turn pause aw : Int) (owed : Bool) (part : ByteArray) (lost : Bool) (got : List ByteArray) (tv pv gv : Value)
    (hP : PAt w b base T arr turn pause aw owed part lost got tv pv gv) :
    Calls Tryd.prog 18 #[.pointer (some ⟨b, 0, none⟩)] w fun e w' => e = .returned (.int .i64 (T.length : Int)) ∧ w' = w := by
  obtain ⟨ta, tc, rfl⟩ := own_slice hP.ot
  exact left_any w b ta T.length tc arr turn pause aw owed pv lost gv hP.blk
end Go.Proofs.YthchicolifkpiaaDoor
