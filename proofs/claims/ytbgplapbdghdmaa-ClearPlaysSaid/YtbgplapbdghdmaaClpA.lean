/- clear: both sides, one beside the other. -/
import Derived.Test.YtbgplapbdghdmaaClrT
import Derived.Test.YtbgplapbdghdmaaClrZ2
import Derived.Test.YtbgplapbdghdmaaClrZ3
import Derived.Test.YtbgplapbdghdmaaClrZ4
import Derived.Test.YtbgplapbdghdmaaShK
namespace Go.Proofs.Ytbgplapbdghdmaa
open Go.RowKit
set_option linter.unusedVariables false
set_option maxRecDepth 100000

def stepObj (s : XStep) : Obj := .cells #[.int .i64 s.dO, .int .i64 s.shop, .int .i64 s.trace, .int .i64 s.amount, .int .i64 s.day, .bool s.forShop, .int .i64 s.posted.frm, .int .i64 s.posted.dst, .int .i64 s.posted.shop, .int .i64 s.posted.trace, .int .i64 s.posted.amt, .int .i64 s.posted.day] 36
/-- the program's Clear (state S), the document's (state T), and the step's box -/
structure Pl (B : Nat) (w : World) (F G : Nat → Prop) (b r : Nat) (S T : Clr) (sb : Nat) (o : Obj) : Prop where
  c : CAt w F b S
  r : RAt w G r T
  dis : ∀ x, F x → ¬ G x
  fB : ∀ x, F x → B ≤ x
  gB : ∀ x, G x → B ≤ x
  fs : ¬ F sb
  gs : ¬ G sb
  box : w.heap[sb]? = some o
  hB : B ≤ w.heap.size
variable {B : Nat} {w w' : World} {F G : Nat → Prop} {b r : Nat} {S T : Clr} {sb : Nat} {o : Obj}
theorem CAt.lt {w : World} {F : Nat → Prop} {b : Nat} {S : Clr} (h : CAt w F b S) : ∀ x, F x → x < w.heap.size := by obtain ⟨_, _, _, _, _, h⟩ := h; exact h.flt
theorem RAt.lt {w : World} {G : Nat → Prop} {r : Nat} {S : Clr} (h : RAt w G r S) : ∀ x, G x → x < w.heap.size := by obtain ⟨_, _, _, _, h⟩ := h; exact h.glt
theorem CAt.keep {w w' : World} {F : Nat → Prop} {b : Nat} {S : Clr} (h : CAt w F b S) (hs : w.heap.size ≤ w'.heap.size) (hb : ∀ x, F x → w'.heap[x]? = w.heap[x]?) : CAt w' F b S := by obtain ⟨a1, a2, a3, a4, a5, h⟩ := h; exact ⟨a1, a2, a3, a4, a5, h.keep hs hb⟩
theorem RAt.keep {w w' : World} {G : Nat → Prop} {r : Nat} {S : Clr} (h : RAt w G r S) (hs : w.heap.size ≤ w'.heap.size) (hb : ∀ x, G x → w'.heap[x]? = w.heap[x]?) : RAt w' G r S := by obtain ⟨a1, a2, a3, a4, h⟩ := h; exact ⟨a1, a2, a3, a4, h.keep hs hb⟩
theorem Pl.below (h : Pl B w F G b r S T sb o) (hb : Below w.heap.size w w') : Pl B w' F G b r S T sb o :=
  { h with c := h.c.keep hb.size (fun x hx => hb.block x (h.c.lt x hx)), r := h.r.keep hb.size (fun x hx => hb.block x (h.r.lt x hx)), box := (hb.block sb (blk_lt h.box)).trans h.box, hB := Nat.le_trans h.hB hb.size }
theorem Pl.drew (h : Pl B w F G b r S T sb o) : Pl B w.drew F G b r S T sb o := h.below (Below.refl _ _).drew
/-- behind a call of the program -/
theorem Pl.prog (h : Pl B w F G b r S T sb o) {S' : Clr} {F' : Nat → Prop} (hc : CAt w' F' b S') (hC : Chg F w w') (hF : ∀ x, F' x → F x ∨ w.heap.size ≤ x) : Pl B w' F' G b r S' T sb o ∧ Below B w w' := by
  have hsb := blk_lt h.box
  refine ⟨⟨hc, h.r.keep hC.size (fun x hx => hC.block x (h.r.lt x hx) (fun hf => h.dis x hf hx)), fun x hx hg => ?_, fun x hx => ?_, h.gB, fun hx => ?_, h.gs, (hC.block sb hsb h.fs).trans h.box, Nat.le_trans h.hB hC.size⟩, hC.below h.hB h.fB⟩
  · rcases hF x hx with e | e
    · exact h.dis x e hg
    · have := h.r.lt x hg; omega
  · rcases hF x hx with e | e
    · exact h.fB x e
    · have := h.hB; omega
  · rcases hF sb hx with e | e
    · exact h.fs e
    · omega
/-- behind a call of the document's -/
theorem Pl.ref (h : Pl B w F G b r S T sb o) {T' : Clr} {G' : Nat → Prop} (hr : RAt w' G' r T') (hC : Chg G w w') (hG : ∀ x, G' x → G x ∨ w.heap.size ≤ x) : Pl B w' F G' b r S T' sb o ∧ Below B w w' := by
  have hsb := blk_lt h.box
  refine ⟨⟨h.c.keep hC.size (fun x hx => hC.block x (h.c.lt x hx) (fun hg => h.dis x hx hg)), hr, fun x hx hg => ?_, h.fB, fun x hx => ?_, h.fs, fun hx => ?_, (hC.block sb hsb h.gs).trans h.box, Nat.le_trans h.hB hC.size⟩, hC.below h.hB h.gB⟩
  · rcases hG x hg with e | e
    · exact h.dis x hx e
    · have := h.c.lt x hx; omega
  · rcases hG x hx with e | e
    · exact h.gB x e
    · have := h.hB; omega
  · rcases hG sb hx with e | e
    · exact h.gs e
    · omega
def plP (B : Nat) (w : World) (G : Nat → Prop) (b r : Nat) (T : Clr) (sb : Nat) (o : Obj) (R : Int × Clr) (e : Ending) (w' : World) : Prop := e = .returned (.int .i64 R.1) ∧ ∃ F', Pl B w' F' G b r R.2 T sb o ∧ Below B w w'
def plR (B : Nat) (w : World) (F : Nat → Prop) (b r : Nat) (S : Clr) (sb : Nat) (o : Obj) (R : Int × Clr) (e : Ending) (w' : World) : Prop := e = .returned (.int .i64 R.1) ∧ ∃ G', Pl B w' F G' b r S R.2 sb o ∧ Below B w w'
theorem plP_of (h : Pl B w F G b r S T sb o) {R : Int × Clr} {e : Ending} (hp : cPost w F b R e w') : plP B w G b r T sb o R e w' := by
  obtain ⟨rfl, F', h1, h2, h3⟩ := hp
  exact ⟨rfl, F', h.prog h1 h2 h3⟩
theorem plR_of (h : Pl B w F G b r S T sb o) {R : Int × Clr} {e : Ending} (hp : rPost w G r R e w') : plR B w F b r S sb o R e w' := by
  obtain ⟨rfl, G', h1, h2, h3⟩ := hp
  exact ⟨rfl, G', h.ref h1 h2 h3⟩
theorem os_few {w : World} {G : Nat → Prop} {r : Nat} {S : Clr} {vL vO : Value} {ks : List (Kse × Value)} {os : List Ow} (h : RIn w G r S vL vO ks os) (hok : okS S) : os.length ≤ 500000 := by
  have h1 := h.cnt
  have h2 := (sumB_in S.L).2
  have h3 := hok.len
  omega
theorem pl_post (h : Pl B w F G b r S T sb o) (hok : okS S) (p : Pst) (h1 : InR p.shop) (h2 : InR p.trace) : Calls Try.prog 6 #[.pointer (some ⟨b, 0, none⟩), pstV p] w (plP B w G b r T sb o (postS S p)) := by
  obtain ⟨_, _, _, _, _, hc⟩ := h.c
  exact (post_any hc hok p h1 h2).mono (fun e w' hp => plP_of h hp)
theorem pl_rpost (h : Pl B w F G b r S T sb o) (hok : okS T) (p : Pst) : Calls Try.prog 14 #[.pointer (some ⟨r, 0, none⟩), pstV p] w (plR B w F b r S sb o (postS T p)) := by
  obtain ⟨_, _, _, _, hr⟩ := h.r
  exact (rpost_any hr hok (os_few hr hok) p).mono (fun e w' hp => plR_of h hp)
theorem pl_dispute (h : Pl B w F G b r S T sb o) (hok : okS S) (shop trace amt day : Int) (h1 : InR shop) (h2 : InR trace) : Calls Try.prog 7 #[.pointer (some ⟨b, 0, none⟩), .int .i64 shop, .int .i64 trace, .int .i64 amt, .int .i64 day] w (plP B w G b r T sb o (doS S shop trace ⟨1, day, amt⟩)) := by
  obtain ⟨_, _, _, _, _, hc⟩ := h.c
  exact (dispute_any hc hok shop trace amt day h1 h2).mono (fun e w' hp => plP_of h hp)
theorem pl_answer (h : Pl B w F G b r S T sb o) (hok : okS S) (shop trace day : Int) (h1 : InR shop) (h2 : InR trace) : Calls Try.prog 8 #[.pointer (some ⟨b, 0, none⟩), .int .i64 shop, .int .i64 trace, .int .i64 day] w (plP B w G b r T sb o (doS S shop trace ⟨2, day, 0⟩)) := by
  obtain ⟨_, _, _, _, _, hc⟩ := h.c
  exact (answer_any hc hok shop trace day h1 h2).mono (fun e w' hp => plP_of h hp)
theorem pl_insist (h : Pl B w F G b r S T sb o) (hok : okS S) (shop trace day : Int) (h1 : InR shop) (h2 : InR trace) : Calls Try.prog 9 #[.pointer (some ⟨b, 0, none⟩), .int .i64 shop, .int .i64 trace, .int .i64 day] w (plP B w G b r T sb o (doS S shop trace ⟨3, day, 0⟩)) := by
  obtain ⟨_, _, _, _, _, hc⟩ := h.c
  exact (insist_any hc hok shop trace day h1 h2).mono (fun e w' hp => plP_of h hp)
theorem pl_judge_shop (h : Pl B w F G b r S T sb o) (hok : okS S) (shop trace day : Int) (h1 : InR shop) (h2 : InR trace) : Calls Try.prog 10 #[.pointer (some ⟨b, 0, none⟩), .int .i64 shop, .int .i64 trace, .bool true, .int .i64 day] w (plP B w G b r T sb o (doS S shop trace ⟨4, day, 0⟩)) := by
  obtain ⟨_, _, _, _, _, hc⟩ := h.c
  exact (judge_shop hc hok shop trace day h1 h2).mono (fun e w' hp => plP_of h hp)
theorem pl_judge_card (h : Pl B w F G b r S T sb o) (hok : okS S) (shop trace day : Int) (h1 : InR shop) (h2 : InR trace) : Calls Try.prog 10 #[.pointer (some ⟨b, 0, none⟩), .int .i64 shop, .int .i64 trace, .bool false, .int .i64 day] w (plP B w G b r T sb o (doS S shop trace ⟨5, day, 0⟩)) := by
  obtain ⟨_, _, _, _, _, hc⟩ := h.c
  exact (judge_card hc hok shop trace day h1 h2).mono (fun e w' hp => plP_of h hp)
theorem pl_do (h : Pl B w F G b r S T sb o) (hok : okS T) (hokD : okDs T.L) (shop trace : Int) (d : Ded) (hw : 1 ≤ d.what ∧ d.what ≤ 5) (ha : d.what ≠ 1 → d.amt = 0) : Calls Try.prog 15 #[.pointer (some ⟨r, 0, none⟩), .int .i64 shop, .int .i64 trace, dedV d] w (plR B w F b r S sb o (doS T shop trace d)) := by
  obtain ⟨_, _, _, _, hr⟩ := h.r
  refine Calls.mono (R := rPost w G r (doS T shop trace d)) ?_ (fun e w' hp => plR_of h hp)
  by_cases hd : dayE T.last d.day = 0
  · cases hi : idxK T.L shop trace with
    | none =>
      have e : doS T shop trace d = (5, { T with last := d.day }) := by unfold doS; rw [if_neg (by simpa using hd), hi]
      rw [e]
      exact rdo_none hr hok shop trace d hd hi
    | some i => exact rdo_found hr hok hokD (os_few hr hok) shop trace d hw ha hd hi
  · have e : doS T shop trace d = (dayE T.last d.day, T) := by unfold doS; rw [if_pos hd]
    rw [e]
    exact rdo_day hr shop trace d hd
theorem pl_look (h : Pl B w F G b r S T sb o) (hok : okS S) (shop trace day : Int) (h1 : InR shop) (h2 : InR trace) : Calls Try.prog 12 #[.pointer (some ⟨b, 0, none⟩), .int .i64 shop, .int .i64 trace, .int .i64 day] w fun e w' => e = .returned (.tuple #[caseV (lookS S shop trace day).1, .int .i64 (lookS S shop trace day).2]) ∧ Below w.heap.size w w' := by
  obtain ⟨_, _, _, _, _, hc⟩ := h.c
  exact lookC hc hok shop trace day h1 h2
theorem pl_rlook (h : Pl B w F G b r S T sb o) (hok : okS T) (hokD : okDs T.L) (shop trace day : Int) : Calls Try.prog 16 #[.pointer (some ⟨r, 0, none⟩), .int .i64 shop, .int .i64 trace, .int .i64 day] w fun e w' => e = .returned (.tuple #[caseV (lookS T shop trace day).1, .int .i64 (lookS T shop trace day).2]) ∧ Below w.heap.size w w' := by
  obtain ⟨_, _, _, _, hr⟩ := h.r
  exact rlookC hr hok hokD shop trace day
theorem pl_cut (h : Pl B w F G b r S T sb o) (hok : okS S) : Calls Try.prog 11 #[.pointer (some ⟨b, 0, none⟩)] w fun e w' => ∃ (v : Value) (F' : Nat → Prop), e = .returned v ∧ OwnR w' w.heap.size 46 3 cellsO v (cutL S.ow) ∧ Pl B w' F' G b r { S with ow := fun _ _ => 0 } T sb o ∧ Below B w w' ∧ (∀ x, v.ownBlock = some x → ¬ G x) := by
  obtain ⟨_, _, _, _, _, hc⟩ := h.c
  refine (cut_any hc hok).mono ?_
  rintro e w' ⟨v, F', rfl, q1, q2, q3, q4, q5⟩
  obtain ⟨z1, z2⟩ := h.prog q2 q3 q4
  exact ⟨v, F', rfl, q1, z1, z2, fun x hx hg => by have := (q1.lt x hx).1; have := h.r.lt x hg; omega⟩
theorem pl_rcut (h : Pl B w F G b r S T sb o) (hok : okS T) : Calls Try.prog 18 #[.pointer (some ⟨r, 0, none⟩)] w fun e w' => ∃ (v : Value) (G' : Nat → Prop), e = .returned v ∧ OwnR w' w.heap.size 46 3 cellsO v (cutL T.ow) ∧ Pl B w' F G' b r S { T with ow := fun _ _ => 0 } sb o ∧ Below B w w' ∧ Chg G w w' := by
  obtain ⟨_, _, _, _, hr⟩ := h.r
  refine (rcut_any hr hok (os_few hr hok)).mono ?_
  rintro e w' ⟨v, G', rfl, q1, q2, q3, q4, q5⟩
  obtain ⟨z1, z2⟩ := h.ref q2 q3 q4
  exact ⟨v, G', rfl, q1, z1, z2, q3⟩
/-- both sides in one state -/
def Bth (B : Nat) (w : World) (b r : Nat) (S : Clr) : Prop := ∃ F G : Nat → Prop, CAt w F b S ∧ RAt w G r S ∧ (∀ x, F x → ¬ G x) ∧ (∀ x, F x → B ≤ x) ∧ (∀ x, G x → B ≤ x) ∧ B ≤ w.heap.size ∧ okS S ∧ okDs S.L
theorem Bth.boxed (h : Bth B w b r S) (o : Obj) : ∃ F G : Nat → Prop, Pl B (w.alloc o) F G b r S S w.heap.size o := by
  obtain ⟨F, G, h1, h2, h3, h4, h5, h6, h7, h8⟩ := h
  have hb := (Below.refl w.heap.size w).alloc (Nat.le_refl _) o
  exact ⟨F, G, h1.keep hb.size (fun x hx => hb.block x (h1.lt x hx)), h2.keep hb.size (fun x hx => hb.block x (h2.lt x hx)), h3, h4, h5, fun hx => by have := h1.lt _ hx; omega, fun hx => by have := h2.lt _ hx; omega, alloc_at w o, Nat.le_trans h6 hb.size⟩
theorem Pl.both (h : Pl B w F G b r S S sb o) (hok : okS S) (hokD : okDs S.L) : Bth B w b r S := ⟨F, G, h.c, h.r, h.dis, h.fB, h.gB, h.hB, hok, hokD⟩
theorem Bth.ok (h : Bth B w b r S) : okS S ∧ okDs S.L := by obtain ⟨_, _, _, _, _, _, _, _, h7, h8⟩ := h; exact ⟨h7, h8⟩
theorem stepC {w : World} {g : Nat} {s : XStep} (h : w.heap[g]? = some (stepObj s)) : w.cell? ⟨g, 0, none⟩ = some (.int .i64 s.dO) ∧ w.cell? ⟨g, 1, none⟩ = some (.int .i64 s.shop) ∧ w.cell? ⟨g, 2, none⟩ = some (.int .i64 s.trace) ∧ w.cell? ⟨g, 3, none⟩ = some (.int .i64 s.amount) ∧ w.cell? ⟨g, 4, none⟩ = some (.int .i64 s.day) ∧ w.cell? ⟨g, 5, none⟩ = some (.bool s.forShop) ∧ w.cell? ⟨g, 6, none⟩ = some (.int .i64 s.posted.frm) ∧ w.cell? ⟨g, 7, none⟩ = some (.int .i64 s.posted.dst) ∧ w.cell? ⟨g, 8, none⟩ = some (.int .i64 s.posted.shop) ∧ w.cell? ⟨g, 9, none⟩ = some (.int .i64 s.posted.trace) ∧ w.cell? ⟨g, 10, none⟩ = some (.int .i64 s.posted.amt) ∧ w.cell? ⟨g, 11, none⟩ = some (.int .i64 s.posted.day) := by
  unfold stepObj at h
  refine ⟨?_, ?_, ?_, ?_, ?_, ?_, ?_, ?_, ?_, ?_, ?_, ?_⟩ <;> simp [World.cell?, h]
/-- the document's Clear, new -/
theorem rnew_at (w : World) (D : Dys) : RAt (w.alloc (.cells #[.int .i64 D.di, .int .i64 D.an, .int .i64 D.ins, .int .i64 D.fee, .slice none 0 0, .int .i64 0, .int .i64 0, .slice none 0 0] 57)) (fun x => x = w.heap.size) w.heap.size (newS D) := by
  refine ⟨.slice none 0 0, .slice none 0 0, [], [], ?_⟩
  exact { blk := alloc_at w _, lst := rfl, row := OwnR.nil _ _ _ _ _, deeds := fun k hk => (List.not_mem_nil hk).elim, owed := OwnR.nil _ _ _ _ _, sums := fun a b _ => rfl, pos := fun o ho => (List.not_mem_nil ho).elim, cnt := Int.le_refl _, gr := rfl, gL := fun x hx => (by cases hx), gO := fun x hx => (by cases hx), gD := fun k hk => (List.not_mem_nil hk).elim, glt := fun x hx => (by subst hx; simp), nod := fun k hk => (List.not_mem_nil hk).elim }
theorem both_new {w : World} {F : Nat → Prop} {b : Nat} {D : Dys} (h : CAt w F b (newS D)) (hF : ∀ x, F x → B ≤ x) (hB : B ≤ w.heap.size) (hD : daysBad D = false) : Bth B (w.alloc (.cells #[.int .i64 D.di, .int .i64 D.an, .int .i64 D.ins, .int .i64 D.fee, .slice none 0 0, .int .i64 0, .int .i64 0, .slice none 0 0] 57)) b w.heap.size (newS D) := by
  have hb := (Below.refl w.heap.size w).alloc (Nat.le_refl _) (.cells #[.int .i64 D.di, .int .i64 D.an, .int .i64 D.ins, .int .i64 D.fee, .slice none 0 0, .int .i64 0, .int .i64 0, .slice none 0 0] 57)
  exact ⟨F, fun x => x = w.heap.size, h.keep hb.size (fun x hx => hb.block x (h.lt x hx)), rnew_at w D, fun x hx e => by have := h.lt x hx; omega, hF, fun x e => by omega, Nat.le_trans hB hb.size, newS_ok hD, fun k hk => (List.not_mem_nil hk).elim⟩
end Go.Proofs.Ytbgplapbdghdmaa
