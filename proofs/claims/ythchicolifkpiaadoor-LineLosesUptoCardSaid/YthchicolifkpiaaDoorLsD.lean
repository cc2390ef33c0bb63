/- The law's noisy line: what each call of an end does to it. -/
import Derived.Test.YthchicolifkpiaaDoorLsC
import Derived.Deep.CutBlock
import Derived.Deep.OwnRows
import Derived.Test.YthchicolifkpiaaDoorSh0
namespace Go.Proofs.YthchicolifkpiaaDoor
open Go.RowKit Go.Lib
set_option linter.unusedVariables false

/-- the noisy line lies there, whosever its blocks are -/
def NA (w : World) (nb base : Nat) (e : Nat → Nat) (G : Nat → List ByteArray) (x : Nat → Nd) (t : Nat → Nat) (v : Nat → Value) (U : Nat → List ByteArray) (g : Nat → Value) (D : Nat → List ByteArray) (r : Nat → Value) (R : Nat → List ByteArray) : Prop :=
  ∃ F who, NAt w nb base e F G x t v U g D r R who
theorem upd_self {α : Type} (f : Nat → α) (i : Nat) : upd f i (f i) = f := by
  funext j; unfold upd; split
  · rename_i h; rw [h]
  · rfl
theorem NA.drew {w : World} {nb base : Nat} {e : Nat → Nat} {G : Nat → List ByteArray} {x : Nat → Nd} {t : Nat → Nat} {v : Nat → Value} {U : Nat → List ByteArray} {g : Nat → Value} {D : Nat → List ByteArray} {r : Nat → Value} {R : Nat → List ByteArray}
    (h : NA w nb base e G x t v U g D r R) : NA w.drew nb base e G x t v U g D r R := by
  obtain ⟨F, who, h⟩ := h
  exact ⟨F, who, h.below ⟨rfl, rfl, rfl, Nat.le_refl _, fun _ _ => rfl⟩⟩
theorem NA.below {w w' : World} {nb base : Nat} {e : Nat → Nat} {G : Nat → List ByteArray} {x : Nat → Nd} {t : Nat → Nat} {v : Nat → Value} {U : Nat → List ByteArray} {g : Nat → Value} {D : Nat → List ByteArray} {r : Nat → Value} {R : Nat → List ByteArray}
    (h : NA w nb base e G x t v U g D r R) (hb : Below w.heap.size w w') : NA w' nb base e G x t v U g D r R := by
  obtain ⟨F, who, h⟩ := h
  exact ⟨F, who, h.below hb⟩
/-- an end did something, and what was given did not change -/
theorem NAt.did {w w' : World} {nb base : Nat} {e : Nat → Nat} {F : Nat → Nat → Prop} {G : Nat → List ByteArray} {x : Nat → Nd} {t : Nat → Nat} {v : Nat → Value} {U : Nat → List ByteArray} {g : Nat → Value} {D : Nat → List ByteArray} {r : Nat → Value} {R : Nat → List ByteArray} {who : Nat → Nat}
    (h : NAt w nb base e F G x t v U g D r R who) {i : Nat} (hi : i < 2) {F' : Nat → Prop} {x' : Nd} {t' : Nat} (hs : EStep w w' (F i) F') (hE : EAt w' (e i) base F' (G i) (G (1 - i)) x' t') :
    NA w' nb base e G (upd x i x') (upd t i t') v U g D r R ∧ Below base w w' := by
  refine ⟨⟨_, _, h.stepE hi hs hE ?_⟩, hs.keep.below (fun q hq => ((h.en i hi).ge q hq).1) h.hi⟩
  have := h.en (1 - i) (by omega)
  rwa [show 1 - (1 - i) = i by omega] at this
theorem n_hear {w : World} {nb base : Nat} {e : Nat → Nat} {G : Nat → List ByteArray} {x : Nat → Nd} {t : Nat → Nat} {v : Nat → Value} {U : Nat → List ByteArray} {g : Nat → Value} {D : Nat → List ByteArray} {r : Nat → Value} {R : Nat → List ByteArray}
    (h : NA w nb base e G x t v U g D r R) (ht : Tab w) (i : Nat) (hi : i < 2) (hG : ∀ j, j < 2 → ∀ s ∈ G j, s.size ≤ 4096) (hl : ∀ j, j < 2 → (G j).length ≤ 1048576)
    (q : Option Nat) (c : Nat) (s : ByteArray) (hs : s = frT (G (1 - i)) q c) (h1 : (x i).a ≤ c) (h2 : c ≤ (x i).a + 1) (hq : ∀ p, q = some p → p < (piecesL (G (1 - i))).length ∧ (x i).m ≤ p + 1 ∧ p ≤ (x i).m) :
    Calls Tryd.prog 10 #[ptrE (e i), .string s] w fun ev w' => ev = .returned (.int .i64 0) ∧ NA w' nb base e G (upd x i (hearN (x i) q c)) t v U g D r R ∧ Below base w w' := by
  obtain ⟨F, who, h⟩ := h
  refine (e_hear w (e i) base (F i) (G i) (G (1 - i)) (x i) (t i) (h.en i hi) ht h.hi (hG i hi) (hG (1 - i) (by omega)) (hl (1 - i) (by omega)) q c s hs h1 h2 hq).mono ?_
  rintro ev w' ⟨rfl, F', hE, hS⟩
  have := h.did hi hS hE
  rw [upd_self] at this
  exact ⟨rfl, this⟩
theorem n_noise {w : World} {nb base : Nat} {e : Nat → Nat} {G : Nat → List ByteArray} {x : Nat → Nd} {t : Nat → Nat} {v : Nat → Value} {U : Nat → List ByteArray} {g : Nat → Value} {D : Nat → List ByteArray} {r : Nat → Value} {R : Nat → List ByteArray}
    (h : NA w nb base e G x t v U g D r R) (ht : Tab w) (i : Nat) (hi : i < 2) (s : ByteArray) (hz : s.size ≤ maxLen) (hs : unfE s ≠ 0) :
    Calls Tryd.prog 10 #[ptrE (e i), .string s] w fun ev w' => (∃ er, ev = .returned (.int .i64 er)) ∧ NA w' nb base e G x t v U g D r R ∧ Below base w w' := by
  obtain ⟨F, who, h⟩ := h
  refine (e_noise w (e i) base (F i) (G i) (G (1 - i)) (x i) (t i) (h.en i hi) ht s hz hs).mono ?_
  rintro ev w' ⟨⟨er, rfl⟩, F', hE, hS⟩
  have := h.did hi hS hE
  rw [upd_self, upd_self] at this
  exact ⟨⟨er, rfl⟩, this⟩
theorem n_tick {w : World} {nb base : Nat} {e : Nat → Nat} {G : Nat → List ByteArray} {x : Nat → Nd} {t : Nat → Nat} {v : Nat → Value} {U : Nat → List ByteArray} {g : Nat → Value} {D : Nat → List ByteArray} {r : Nat → Value} {R : Nat → List ByteArray}
    (h : NA w nb base e G x t v U g D r R) (i : Nat) (hi : i < 2) (hp : (x i).p ≤ 4) :
    Calls Tryd.prog 11 #[ptrE (e i)] w fun ev w' => ev = .returned (.tuple #[]) ∧ NA w' nb base e G (upd x i (x i).tick) t v U g D r R ∧ Below base w w' := by
  obtain ⟨F, who, h⟩ := h
  refine (e_tick w (e i) base (F i) (G i) (G (1 - i)) (x i) (t i) (h.en i hi) hp).mono ?_
  rintro ev w' ⟨rfl, F', hE, hS⟩
  have := h.did hi hS hE
  rw [upd_self] at this
  exact ⟨rfl, this⟩
theorem n_left {w : World} {nb base : Nat} {e : Nat → Nat} {G : Nat → List ByteArray} {x : Nat → Nd} {t : Nat → Nat} {v : Nat → Value} {U : Nat → List ByteArray} {g : Nat → Value} {D : Nat → List ByteArray} {r : Nat → Value} {R : Nat → List ByteArray}
    (h : NA w nb base e G x t v U g D r R) (i : Nat) (hi : i < 2) (hx : (x i).a = (x i).L) :
    Calls Tryd.prog 18 #[ptrE (e i)] w fun ev w' => ev = .returned (.int .i64 0) ∧ w' = w := by
  obtain ⟨F, who, h⟩ := h
  exact e_left w (e i) base (F i) (G i) (G (1 - i)) (x i) (t i) (h.en i hi) hx
theorem pgot2_any (w : World) (b base : Nat) (T : List ByteArray) (arr turn pause aw : Int) (owed : Bool) (part : ByteArray) (lost : Bool) (got : List ByteArray) (tv pv gv : Value)
    (hP : PAt w b base T arr turn pause aw owed part lost got tv pv gv) :
    Calls Tryd.prog 17 #[.pointer (some ⟨b, 0, none⟩)] w fun e w' => ∃ sl, e = .returned sl ∧ Src1 w' sl (cellsT got) ∧ PAt w' b base T arr turn pause aw owed part lost [] tv pv (.slice none 0 0) ∧ StepP b w w' tv pv gv tv pv (.slice none 0 0) := by
  obtain ⟨ga, gc, rfl⟩ := own_slice hP.og
  refine (got_any w b tv arr turn pause aw owed pv lost ga got.length gc hP.blk).mono ?_
  rintro e w' ⟨rfl, hE, rfl⟩
  refine ⟨_, rfl, ?_, ?_, ⟨(KeepP.refl _ _).set b 8 _ (.inl rfl), ?_⟩⟩
  · rcases hP.og.2 with ⟨h1, h2⟩ | ⟨g, cap, cur, h1, _⟩
    · have : got = [] := List.length_eq_zero_iff.1 h2
      rw [h1, this]
      exact .inl ⟨rfl, rfl⟩
    · cases h1
      refine .inr ⟨⟨g, 0, none⟩, gc, by simp [cellsT], fun i u hu => ?_⟩
      rw [cellsT, List.getElem?_map] at hu
      cases hl : got[i]? with
      | none => rw [hl] at hu; cases hu
      | some s =>
        rw [hl] at hu
        rw [← Option.some.inj hu]
        have hc := hP.og.cells (g := g) rfl i (.string s) (by simp [cellsT, hl])
        rw [Addr.add_lit] at hc ⊢
        exact set_cellT (fun e => hP.ng (by rw [← e]; rfl)) hc
  · exact hP.gots (gv' := .slice none 0 0) (got' := []) hE (World.ownsRow_nil _ _ _ _) (fun q _ hq _ => set_other hq) (fun q hq => by cases hq)
  · rintro q (hq | hq | hq | hq)
    · exact .inl (.inl hq)
    · exact .inl (.inr (.inl hq))
    · exact .inl (.inr (.inr (.inl hq)))
    · cases hq
theorem n_got {w : World} {nb base : Nat} {e : Nat → Nat} {G : Nat → List ByteArray} {x : Nat → Nd} {t : Nat → Nat} {v : Nat → Value} {U : Nat → List ByteArray} {g : Nat → Value} {D : Nat → List ByteArray} {r : Nat → Value} {R : Nat → List ByteArray}
    (h : NA w nb base e G x t v U g D r R) (i : Nat) (hi : i < 2) :
    Calls Tryd.prog 17 #[ptrE (e i)] w fun ev w' => ∃ sl got, ev = .returned sl ∧ Src1 w' sl (cellsT got) ∧ (gotOf (G (1 - i)) (x i).m).take (t i) ++ got = gotOf (G (1 - i)) (x i).m ∧ NA w' nb base e G x (upd t i (gotOf (G (1 - i)) (x i).m).length) v U g D r R ∧ Below base w w' := by
  obtain ⟨F, who, h⟩ := h
  obtain ⟨T, k, turn, pause, aw, owed, part, lost, got, tv, pv, gv, hP, hA, hF⟩ := h.en i hi
  refine (pgot2_any w (e i) base T _ turn pause aw owed part lost got tv pv gv hP).mono ?_
  rintro ev w' ⟨sl, rfl, hr, hP', hS⟩
  have := h.did hi (EStep.of hS hF) ⟨_, _, _, _, _, _, _, _, _, tv, pv, _, hP', hA.gots.1, fun _ => Iff.rfl⟩
  rw [upd_self] at this
  exact ⟨sl, got, rfl, hr, hA.gots.2, this⟩
def frS (D : List ByteArray) (W : List Fr) : List ByteArray := W.map fun f => frT D f.1 f.2
theorem n_take2 {w : World} {nb base : Nat} {e : Nat → Nat} {G : Nat → List ByteArray} {x : Nat → Nd} {t : Nat → Nat} {v : Nat → Value} {U : Nat → List ByteArray} {g : Nat → Value} {D : Nat → List ByteArray} {r : Nat → Value} {R : Nat → List ByteArray}
    (h : NA w nb base e G x t v U g D r R) (ht : Tab w) (i : Nat) (hi : i < 2) (hG : ∀ j, j < 2 → ∀ s ∈ G j, s.size ≤ 4096) :
    Calls Tryd.prog 15 #[ptrE (e i)] w fun ev w' => ((sentN (x i) = [] ∧ ev = .returned (.slice none 0 0)) ∨ ∃ q b, sentN (x i) = [(q, (x i).m)] ∧ ev = .returned (.slice (some ⟨b, 0, none⟩) 1 1) ∧ b < w'.heap.size ∧ w.heap.size ≤ b ∧ w'.cell? ⟨b, 0, none⟩ = some (.string (frT (G i) q (x i).m))) ∧
      NA w' nb base e G (upd x i (halfX (x i))) t v U g D r R ∧ Below base w w' := by
  obtain ⟨F, who, h⟩ := h
  refine (e_take w (e i) base (F i) (G i) (G (1 - i)) (x i) (t i) (h.en i hi) ht h.pos h.hi (hG i hi)).mono ?_
  rintro ev w' ⟨⟨F', hE, hS⟩, h2⟩
  have := h.did hi hS hE
  rw [upd_self] at this
  exact ⟨h2, this⟩
theorem n_take {w : World} {nb base : Nat} {e : Nat → Nat} {G : Nat → List ByteArray} {x : Nat → Nd} {t : Nat → Nat} {v : Nat → Value} {U : Nat → List ByteArray} {g : Nat → Value} {D : Nat → List ByteArray} {r : Nat → Value} {R : Nat → List ByteArray}
    (h : NA w nb base e G x t v U g D r R) (ht : Tab w) (i : Nat) (hi : i < 2) (hG : ∀ j, j < 2 → ∀ s ∈ G j, s.size ≤ 4096) :
    Calls Tryd.prog 15 #[ptrE (e i)] w fun ev w' => ∃ sl, ev = .returned sl ∧ Src1 w' sl (cellsT (frS (G i) (sentN (x i)))) ∧ NA w' nb base e G (upd x i (halfX (x i))) t v U g D r R ∧ Below base w w' := by
  refine (n_take2 h ht i hi hG).mono ?_
  rintro ev w' ⟨⟨h1, rfl⟩ | ⟨q, b, h1, rfl, h2, h3, h4⟩, h5⟩
  · exact ⟨_, rfl, .inl ⟨rfl, by rw [h1]; rfl⟩, h5⟩
  · refine ⟨_, rfl, .inr ⟨⟨b, 0, none⟩, 1, by rw [h1]; rfl, fun j u hu => ?_⟩, h5⟩
    rw [h1] at hu
    cases j with
    | zero => rw [← Option.some.inj hu]; exact h4
    | succ j => cases hu
theorem n_give {w : World} {nb base : Nat} {e : Nat → Nat} {G : Nat → List ByteArray} {x : Nat → Nd} {t : Nat → Nat} {v : Nat → Value} {U : Nat → List ByteArray} {g : Nat → Value} {D : Nat → List ByteArray} {r : Nat → Value} {R : Nat → List ByteArray}
    (h : NA w nb base e G x t v U g D r R) (i : Nat) (hi : i < 2) (s : ByteArray) (hs : s.size ≤ 4096) (hm : (x (1 - i)).m ≤ (piecesL (G i)).length) :
    Calls Tryd.prog 8 #[ptrE (e i), .string s] w fun ev w' => ∃ er, ev = .returned (.int .i64 er) ∧ NA w' nb base e (if er = 0 then upd G i (G i ++ [s]) else G) (if er = 0 then upd x i ((x i).more s) else x) t v U g D r R ∧ Below base w w' := by
  obtain ⟨F, who, h⟩ := h
  refine (e_give w (e i) base (F i) (G i) (G (1 - i)) (x i) (t i) (h.en i hi) h.hi s hs).mono ?_
  rintro ev w' ⟨er, rfl, F', hE, hS⟩
  by_cases he : er = 0
  · simp only [if_pos he] at hE ⊢
    have hO := h.en (1 - i) (by omega)
    rw [show 1 - (1 - i) = i by omega] at hO
    have hO' : EAt w (e (1 - i)) base (F (1 - i)) (G (1 - i)) (G i ++ [s]) (x (1 - i)) (t (1 - i)) := by
      obtain ⟨T, k, turn, pause, aw, owed, part, lost, got, tv, pv, gv, hP, hA, hF⟩ := hO
      exact ⟨T, k, turn, pause, aw, owed, part, lost, got, tv, pv, gv, hP, hA.other s hm, hF⟩
    have e1 : upd G i (G i ++ [s]) i = G i ++ [s] := upd_same _ _ _
    have e2 : upd G i (G i ++ [s]) (1 - i) = G (1 - i) := upd_other _ _ (by omega)
    have := h.stepE (G' := upd G i (G i ++ [s])) hi hS (by rw [e1, e2]; exact hE) (by rw [e1, e2]; exact hO')
    rw [upd_self] at this
    exact ⟨er, rfl, by simp only [if_pos he]; exact ⟨_, _, this⟩, hS.keep.below (fun q hq => ((h.en i hi).ge q hq).1) h.hi⟩
  · simp only [if_neg he] at hE ⊢
    have := h.did hi hS hE
    rw [upd_self, upd_self] at this
    exact ⟨er, rfl, by simp only [if_neg he]; exact this.1, this.2⟩
theorem cellsT_app (a b : List ByteArray) : cellsT (a ++ b) = cellsT a ++ cellsT b := by simp [cellsT]
theorem NA.cells {w : World} {nb base : Nat} {e : Nat → Nat} {G : Nat → List ByteArray} {x : Nat → Nd} {t : Nat → Nat} {v : Nat → Value} {U : Nat → List ByteArray} {g : Nat → Value} {D : Nat → List ByteArray} {r : Nat → Value} {R : Nat → List ByteArray}
    (h : NA w nb base e G x t v U g D r R) : w.heap[nb]? = some (.cells #[ptrE (e 0), ptrE (e 1), v 0, v 1, g 0, g 1, r 0, r 1] 48 (0, 0)) ∧ nb < w.heap.size ∧ base ≤ w.heap.size ∧ base ≤ nb ∧ 0 < base := by
  obtain ⟨F, who, h⟩ := h
  exact ⟨h.blk, h.lt, h.hi, h.lo, h.pos⟩
theorem grown_below {w w1 : World} {base : Nat} {row : Option Nat} (h : w.grownBy w1 row) (hb : base ≤ w.heap.size) (hr : ∀ q, row = some q → base ≤ q) : Below base w w1 :=
  ⟨h.os, h.tape, h.output, h.size, fun q hq => h.block q (by omega) (fun e => by have := hr q e.symm; omega)⟩
/-- a row grew, and the block of the noisy line is as it was -/
theorem NA.grewV {w w1 : World} {nb base : Nat} {e : Nat → Nat} {G : Nat → List ByteArray} {x : Nat → Nd} {t : Nat → Nat} {v : Nat → Value} {U : Nat → List ByteArray} {g : Nat → Value} {D : Nat → List ByteArray} {r : Nat → Value} {R : Nat → List ByteArray}
    (h : NA w nb base e G x t v U g D r R) {i : Nat} (hi : i < 2) (hg : w.grownBy w1 (v i).ownBlock) : w1.heap[nb]? = some (.cells #[ptrE (e 0), ptrE (e 1), v 0, v 1, g 0, g 1, r 0, r 1] 48 (0, 0)) ∧ nb < w1.heap.size := by
  obtain ⟨F, who, h⟩ := h
  refine ⟨(hg.block nb h.lt (fun e' => ?_)).trans h.blk, Nat.lt_of_lt_of_le h.lt hg.size⟩
  have := h.wv i hi nb e'.symm
  rw [h.w0] at this
  omega
theorem NA.winV {w : World} {nb base : Nat} {e : Nat → Nat} {G : Nat → List ByteArray} {x : Nat → Nd} {t : Nat → Nat} {v : Nat → Value} {U : Nat → List ByteArray} {g : Nat → Value} {D : Nat → List ByteArray} {r : Nat → Value} {R : Nat → List ByteArray}
    (h : NA w nb base e G x t v U g D r R) {i : Nat} (hi : i < 2) : WinRow w base 9 (v i) (cellsT (U i)) := by
  obtain ⟨F, who, h⟩ := h
  exact h.wa i hi
theorem NA.setV {w w1 : World} {nb base : Nat} {e : Nat → Nat} {G : Nat → List ByteArray} {x : Nat → Nd} {t : Nat → Nat} {v : Nat → Value} {U : Nat → List ByteArray} {g : Nat → Value} {D : Nat → List ByteArray} {r : Nat → Value} {R : Nat → List ByteArray}
    (h : NA w nb base e G x t v U g D r R) {i : Nat} (hi : i < 2) (hg : w.grownBy w1 (v i).ownBlock) {v' : Value} {l : List ByteArray} (hw : WinRow w1 base 9 v' (cellsT (U i) ++ cellsT l)) (hn : v'.ownBlock = (v i).ownBlock ∨ v'.ownBlock = some w.heap.size) :
    NA (w1.setCell ⟨nb, 2 + i, none⟩ v') nb base e G x t (upd v i v') (upd U i (U i ++ l)) g D r R ∧ Below base w (w1.setCell ⟨nb, 2 + i, none⟩ v') := by
  have hwin := h.winV hi
  obtain ⟨F, who, h⟩ := h
  rw [← cellsT_app] at hw
  refine ⟨⟨_, _, h.setV hi hg hw fun q hq => ?_⟩, (grown_below hg h.hi fun q hq => (hwin.lt q hq).2).setCell h.lo _⟩
  rcases hn with e' | e'
  · exact .inl (e' ▸ hq)
  · exact .inr (Nat.le_of_eq (Option.some.inj (e'.symm.trans hq)))
/-- a row grew, and the block of the noisy line is as it was -/
theorem NA.grewG {w w1 : World} {nb base : Nat} {e : Nat → Nat} {G : Nat → List ByteArray} {x : Nat → Nd} {t : Nat → Nat} {v : Nat → Value} {U : Nat → List ByteArray} {g : Nat → Value} {D : Nat → List ByteArray} {r : Nat → Value} {R : Nat → List ByteArray}
    (h : NA w nb base e G x t v U g D r R) {i : Nat} (hi : i < 2) (hg : w.grownBy w1 (g i).ownBlock) : w1.heap[nb]? = some (.cells #[ptrE (e 0), ptrE (e 1), v 0, v 1, g 0, g 1, r 0, r 1] 48 (0, 0)) ∧ nb < w1.heap.size := by
  obtain ⟨F, who, h⟩ := h
  refine ⟨(hg.block nb h.lt (fun e' => ?_)).trans h.blk, Nat.lt_of_lt_of_le h.lt hg.size⟩
  have := h.wg i hi nb e'.symm
  rw [h.w0] at this
  omega
theorem NA.winG {w : World} {nb base : Nat} {e : Nat → Nat} {G : Nat → List ByteArray} {x : Nat → Nd} {t : Nat → Nat} {v : Nat → Value} {U : Nat → List ByteArray} {g : Nat → Value} {D : Nat → List ByteArray} {r : Nat → Value} {R : Nat → List ByteArray}
    (h : NA w nb base e G x t v U g D r R) {i : Nat} (hi : i < 2) : WinRow w base 9 (g i) (cellsT (D i)) := by
  obtain ⟨F, who, h⟩ := h
  exact h.gi i hi
theorem NA.setG {w w1 : World} {nb base : Nat} {e : Nat → Nat} {G : Nat → List ByteArray} {x : Nat → Nd} {t : Nat → Nat} {v : Nat → Value} {U : Nat → List ByteArray} {g : Nat → Value} {D : Nat → List ByteArray} {r : Nat → Value} {R : Nat → List ByteArray}
    (h : NA w nb base e G x t v U g D r R) {i : Nat} (hi : i < 2) (hg : w.grownBy w1 (g i).ownBlock) {v' : Value} {l : List ByteArray} (hw : WinRow w1 base 9 v' (cellsT (D i) ++ cellsT l)) (hn : v'.ownBlock = (g i).ownBlock ∨ v'.ownBlock = some w.heap.size) :
    NA (w1.setCell ⟨nb, 4 + i, none⟩ v') nb base e G x t v U (upd g i v') (upd D i (D i ++ l)) r R ∧ Below base w (w1.setCell ⟨nb, 4 + i, none⟩ v') := by
  have hwin := h.winG hi
  obtain ⟨F, who, h⟩ := h
  rw [← cellsT_app] at hw
  refine ⟨⟨_, _, h.setG hi hg hw fun q hq => ?_⟩, (grown_below hg h.hi fun q hq => (hwin.lt q hq).2).setCell h.lo _⟩
  rcases hn with e' | e'
  · exact .inl (e' ▸ hq)
  · exact .inr (Nat.le_of_eq (Option.some.inj (e'.symm.trans hq)))
/-- a row grew, and the block of the noisy line is as it was -/
theorem NA.grewR {w w1 : World} {nb base : Nat} {e : Nat → Nat} {G : Nat → List ByteArray} {x : Nat → Nd} {t : Nat → Nat} {v : Nat → Value} {U : Nat → List ByteArray} {g : Nat → Value} {D : Nat → List ByteArray} {r : Nat → Value} {R : Nat → List ByteArray}
    (h : NA w nb base e G x t v U g D r R) {i : Nat} (hi : i < 2) (hg : w.grownBy w1 (r i).ownBlock) : w1.heap[nb]? = some (.cells #[ptrE (e 0), ptrE (e 1), v 0, v 1, g 0, g 1, r 0, r 1] 48 (0, 0)) ∧ nb < w1.heap.size := by
  obtain ⟨F, who, h⟩ := h
  refine ⟨(hg.block nb h.lt (fun e' => ?_)).trans h.blk, Nat.lt_of_lt_of_le h.lt hg.size⟩
  have := h.wr i hi nb e'.symm
  rw [h.w0] at this
  omega
theorem NA.winR {w : World} {nb base : Nat} {e : Nat → Nat} {G : Nat → List ByteArray} {x : Nat → Nd} {t : Nat → Nat} {v : Nat → Value} {U : Nat → List ByteArray} {g : Nat → Value} {D : Nat → List ByteArray} {r : Nat → Value} {R : Nat → List ByteArray}
    (h : NA w nb base e G x t v U g D r R) {i : Nat} (hi : i < 2) : WinRow w base 9 (r i) (cellsT (R i)) := by
  obtain ⟨F, who, h⟩ := h
  exact h.go i hi
theorem NA.setR {w w1 : World} {nb base : Nat} {e : Nat → Nat} {G : Nat → List ByteArray} {x : Nat → Nd} {t : Nat → Nat} {v : Nat → Value} {U : Nat → List ByteArray} {g : Nat → Value} {D : Nat → List ByteArray} {r : Nat → Value} {R : Nat → List ByteArray}
    (h : NA w nb base e G x t v U g D r R) {i : Nat} (hi : i < 2) (hg : w.grownBy w1 (r i).ownBlock) {v' : Value} {l : List ByteArray} (hw : WinRow w1 base 9 v' (cellsT (R i) ++ cellsT l)) (hn : v'.ownBlock = (r i).ownBlock ∨ v'.ownBlock = some w.heap.size) :
    NA (w1.setCell ⟨nb, 6 + i, none⟩ v') nb base e G x t v U g D (upd r i v') (upd R i (R i ++ l)) ∧ Below base w (w1.setCell ⟨nb, 6 + i, none⟩ v') := by
  have hwin := h.winR hi
  obtain ⟨F, who, h⟩ := h
  rw [← cellsT_app] at hw
  refine ⟨⟨_, _, h.setR hi hg hw fun q hq => ?_⟩, (grown_below hg h.hi fun q hq => (hwin.lt q hq).2).setCell h.lo _⟩
  rcases hn with e' | e'
  · exact .inl (e' ▸ hq)
  · exact .inr (Nat.le_of_eq (Option.some.inj (e'.symm.trans hq)))
end Go.Proofs.YthchicolifkpiaaDoor
namespace Go.Proofs.YthchicolifkpiaaDoor
set_option linter.unusedVariables false

structure Pl (K : Nat) (D : Nat → List ByteArray) (x : Nat → Nd) (t : Nat → Nat) (W : Nat → List Fr) (R : Nat → List ByteArray) : Prop where
  two : ∀ i, i < 2 → Two (x i) (x (1 - i)) (W i) (W (1 - i))
  sz : ∀ i, i < 2 → ∀ s ∈ D i, s.size ≤ 4096
  ln : ∀ i, i < 2 → (D i).length ≤ K
  ro : ∀ i, i < 2 → R i = (gotOf (D (1 - i)) (x i).m).take (t i) ∧ t i ≤ (gotOf (D (1 - i)) (x i).m).length
  le : ∀ i, i < 2 → (x i).L = (piecesL (D i)).length
  wl : ∀ i, i < 2 → (W i).length ≤ K
theorem Pl.mono {K K' : Nat} {D : Nat → List ByteArray} {x : Nat → Nd} {t : Nat → Nat} {W : Nat → List Fr} {R : Nat → List ByteArray} (h : Pl K D x t W R) (hk : K ≤ K') : Pl K' D x t W R :=
  ⟨h.two, h.sz, fun i hi => Nat.le_trans (h.ln i hi) hk, h.ro, h.le, fun i hi => Nat.le_trans (h.wl i hi) hk⟩
theorem two_all {x : Nat → Nd} {W : Nat → List Fr} {i : Nat} (hi : i < 2) (h : Two (x i) (x (1 - i)) (W i) (W (1 - i))) : ∀ j, j < 2 → Two (x j) (x (1 - j)) (W j) (W (1 - j)) := by
  intro j hj
  rcases (show j = i ∨ j = 1 - i by omega) with rfl | rfl
  · exact h
  · rw [show 1 - (1 - i) = i by omega]; exact h.symm
theorem one_sub {i : Nat} (hi : i < 2) : 1 - (1 - i) = i := by omega
theorem sub_ne {i : Nat} (hi : i < 2) : 1 - i ≠ i := by omega
theorem ne_sub {i : Nat} (hi : i < 2) : i ≠ 1 - i := by omega
theorem Pl.heard {K : Nat} {D : Nat → List ByteArray} {x : Nat → Nd} {t : Nat → Nat} {W : Nat → List Fr} {R : Nat → List ByteArray} (h : Pl K D x t W R) {i : Nat} (hi : i < 2) : (x (1 - i)).m ≤ (piecesL (D i)).length := by
  have h1 := (h.two i hi).dx.nL
  rw [← h.le i hi]; exact h1
theorem Pl.give {K : Nat} {D : Nat → List ByteArray} {x : Nat → Nd} {t : Nat → Nat} {W : Nat → List Fr} {R : Nat → List ByteArray} (h : Pl K D x t W R) {i : Nat} (hi : i < 2) (s : ByteArray) (hs : s.size ≤ 4096) :
    Pl (K + 1) (upd D i (D i ++ [s])) (upd x i ((x i).more s)) t W R := by
  have hm := h.heard hi
  refine ⟨two_all hi ?_, fun j hj u hu => ?_, fun j hj => ?_, fun j hj => ?_, fun j hj => ?_, fun j hj => by have := h.wl j hj; omega⟩
  · rw [upd_same, upd_other _ _ (sub_ne hi)]; exact (h.two i hi).give s
  · by_cases hji : j = i
    · subst hji
      rw [upd_same] at hu
      rcases List.mem_append.1 hu with hu | hu
      · exact h.sz j hj u hu
      · rw [List.mem_singleton.1 hu]; exact hs
    · rw [upd_other _ _ hji] at hu; exact h.sz j hj u hu
  · by_cases hji : j = i
    · subst hji
      rw [upd_same, List.length_append]
      have := h.ln j hj
      simp only [List.length_cons, List.length_nil]; omega
    · rw [upd_other _ _ hji]; have := h.ln j hj; omega
  · by_cases hji : j = i
    · subst hji
      rw [upd_same, upd_other _ _ (sub_ne hj)]
      exact h.ro j hj
    · have hj1 : j = 1 - i := by omega
      subst hj1
      rw [upd_other _ _ hji, one_sub hi, upd_same]
      have e : gotOf (D i ++ [s]) (x (1 - i)).m = gotOf (D i) (x (1 - i)).m := by unfold gotOf; rw [take_grown _ _ _ hm]
      have := h.ro (1 - i) hj
      rw [one_sub hi] at this
      rw [e]; exact this
  · by_cases hji : j = i
    · subst hji
      rw [upd_same, upd_same, piecesL_snoc, List.length_append, pcs_length, ← h.le j hj]
      rfl
    · rw [upd_other _ _ hji, upd_other _ _ hji]; exact h.le j hj
/-- the frames on their way stay what they are -/
theorem Pl.frs {K : Nat} {D : Nat → List ByteArray} {x : Nat → Nd} {t : Nat → Nat} {W : Nat → List Fr} {R : Nat → List ByteArray} (h : Pl K D x t W R) {i : Nat} (hi : i < 2) (s : ByteArray) : ∀ j, j < 2 → frS (upd D i (D i ++ [s]) j) (W j) = frS (D j) (W j) := by
  intro j hj
  by_cases hji : j = i
  · subst hji
    rw [upd_same]
    unfold frS
    refine List.map_congr_left fun f hf => ?_
    refine frT_grown _ _ _ _ fun p hp => ?_
    have h1 := (h.two j hj).dx
    have h2 := h1.hp p (List.mem_filterMap.2 ⟨f, hf, hp⟩)
    have h3 := h1.nL
    have h4 := h1.na
    rw [← h.le j hj]
    omega
  · rw [upd_other _ _ hji]
theorem Pl.plain {K : Nat} {D : Nat → List ByteArray} {x x' : Nat → Nd} {t : Nat → Nat} {W W' : Nat → List Fr} {R : Nat → List ByteArray} (h : Pl K D x t W R) {i : Nat} (hi : i < 2) (h2 : Two (x' i) (x' (1 - i)) (W' i) (W' (1 - i))) (hm : ∀ j, j < 2 → (x' j).m = (x j).m ∧ (x' j).L = (x j).L) (hw : ∀ j, j < 2 → (W' j).length ≤ K) : Pl K D x' t W' R :=
  ⟨two_all hi h2, h.sz, h.ln, fun j hj => by rw [(hm j hj).1]; exact h.ro j hj, fun j hj => by rw [(hm j hj).2]; exact h.le j hj, hw⟩
theorem Pl.tick {K : Nat} {D : Nat → List ByteArray} {x : Nat → Nd} {t : Nat → Nat} {W : Nat → List Fr} {R : Nat → List ByteArray} (h : Pl K D x t W R) {i : Nat} (hi : i < 2) : Pl K D (upd x i (x i).tick) t W R := by
  refine h.plain hi ?_ (fun j hj => ?_) h.wl
  · rw [upd_same, upd_other _ _ (sub_ne hi)]; exact (h.two i hi).tick
  · by_cases hji : j = i
    · subst hji; rw [upd_same]; exact ⟨rfl, rfl⟩
    · rw [upd_other _ _ hji]; exact ⟨rfl, rfl⟩
theorem Pl.send {K : Nat} {D : Nat → List ByteArray} {x : Nat → Nd} {t : Nat → Nat} {W : Nat → List Fr} {R : Nat → List ByteArray} (h : Pl K D x t W R) {i : Nat} (hi : i < 2) : Pl (K + 1) D (upd x i (halfX (x i))) t (upd W i (W i ++ sentN (x i))) R := by
  refine (h.mono (Nat.le_succ K)).plain hi ?_ (fun j hj => ?_) (fun j hj => ?_)
  · rw [upd_same, upd_same, upd_other _ _ (sub_ne hi), upd_other _ _ (sub_ne hi)]; exact (h.two i hi).send
  · by_cases hji : j = i
    · subst hji; rw [upd_same]; have := halfX_eq (x j); exact ⟨this.2.1, this.2.2.1⟩
    · rw [upd_other _ _ hji]; exact ⟨rfl, rfl⟩
  · have h0 := h.wl j hj
    by_cases hji : j = i
    · subst hji
      have hs : (sentN (x j)).length ≤ 1 := by unfold sentN; split <;> (try split) <;> simp
      rw [upd_same, List.length_append]; omega
    · rw [upd_other _ _ hji]; omega
theorem Pl.ways {K : Nat} {D : Nat → List ByteArray} {x : Nat → Nd} {t : Nat → Nat} {W : Nat → List Fr} {R : Nat → List ByteArray} (h : Pl K D x t W R) {i : Nat} (hi : i < 2) {l : List Fr} (h2 : Two (x i) (x (1 - i)) l (W (1 - i))) (hl : l.length ≤ K) : Pl K D x t (upd W i l) R := by
  refine h.plain hi ?_ (fun j hj => ⟨rfl, rfl⟩) (fun j hj => ?_)
  rotate_left
  · by_cases hji : j = i
    · subst hji; rw [upd_same]; exact hl
    · rw [upd_other _ _ hji]; exact h.wl j hj
  rw [upd_same, upd_other _ _ (sub_ne hi)]; exact h2
theorem hear_L (y : Nd) (q : Option Nat) (c : Nat) : (hearN y q c).L = y.L := by
  have := ack_facts y c
  cases q with
  | none => exact this.2.1
  | some p => rw [hearN]; simp only [Nd.data]; exact this.2.1
/-- the other end heard it -/
theorem Pl.hear {K : Nat} {D : Nat → List ByteArray} {x : Nat → Nd} {t : Nat → Nat} {W : Nat → List Fr} {R : Nat → List ByteArray} (h : Pl K D x t W R) {i : Nat} (hi : i < 2) {q : Option Nat} {c : Nat} {l : List Fr} (hw : W i = (q, c) :: l) :
    Pl K D (upd x (1 - i) (hearN (x (1 - i)) q c)) t (upd W i l) R ∧ (x (1 - i)).a ≤ c ∧ c ≤ (x (1 - i)).a + 1 ∧ (∀ p, q = some p → p < (piecesL (D i)).length ∧ (x (1 - i)).m ≤ p + 1 ∧ p ≤ (x (1 - i)).m) := by
  have h2 := h.two i hi
  rw [hw] at h2
  obtain ⟨k1, k2, k3, k4⟩ := h2.hear
  refine ⟨⟨two_all hi ?_, h.sz, h.ln, fun j hj => ?_, fun j hj => ?_, fun j hj => ?_⟩, k2, k3, fun p hp => by rw [← h.le i hi]; exact k4 p hp⟩
  · rw [upd_same, upd_same, upd_other _ _ (ne_sub hi), upd_other _ _ (sub_ne hi)]; exact k1
  · by_cases hji : j = 1 - i
    · subst hji
      rw [upd_same, one_sub hi]
      have hr := h.ro (1 - i) hj
      rw [one_sub hi] at hr
      obtain ⟨l', e'⟩ : ∃ l', gotOf (D i) (hearN (x (1 - i)) q c).m = gotOf (D i) (x (1 - i)).m ++ l' := by
        have hk := (ack_facts (x (1 - i)) c).1
        cases q with
        | none => exact ⟨[], by rw [hearN, hk, List.append_nil]⟩
        | some p =>
          rw [hearN]
          simp only [Nd.data, hk]
          split
          · exact got_next _ _
          · exact ⟨[], by rw [List.append_nil]⟩
      rw [e', List.take_append_of_le_length hr.2, List.length_append]
      exact ⟨hr.1, by omega⟩
    · rw [upd_other _ _ hji]; exact h.ro j hj
  · by_cases hji : j = 1 - i
    · subst hji
      rw [upd_same, hear_L]; exact h.le _ hj
    · rw [upd_other _ _ hji]; exact h.le j hj
  · have h0 := h.wl j hj
    by_cases hji : j = i
    · subst hji
      rw [hw, List.length_cons] at h0
      rw [upd_same]; omega
    · rw [upd_other _ _ hji]; exact h0
/-- what was got was told -/
theorem Pl.got {K : Nat} {D : Nat → List ByteArray} {x : Nat → Nd} {t : Nat → Nat} {W : Nat → List Fr} {R : Nat → List ByteArray} (h : Pl K D x t W R) {i : Nat} (hi : i < 2) {l : List ByteArray} (hl : (gotOf (D (1 - i)) (x i).m).take (t i) ++ l = gotOf (D (1 - i)) (x i).m) :
    Pl K D x (upd t i (gotOf (D (1 - i)) (x i).m).length) W (upd R i (R i ++ l)) := by
  refine ⟨h.two, h.sz, h.ln, fun j hj => ?_, h.le, h.wl⟩
  by_cases hji : j = i
  · subst hji
    rw [upd_same, upd_same, (h.ro j hj).1, hl, List.take_length]
    exact ⟨rfl, Nat.le_refl _⟩
  · rw [upd_other _ _ hji, upd_other _ _ hji]; exact h.ro j hj
/-- and at last what is in hand is a beginning -/
theorem Pl.right {K : Nat} {D : Nat → List ByteArray} {x : Nat → Nd} {t : Nat → Nat} {W : Nat → List Fr} {R : Nat → List ByteArray} (h : Pl K D x t W R) {i : Nat} (hi : i < 2) : ∃ b, D (1 - i) = R i ++ b := by
  obtain ⟨b, hb⟩ := got_prefix (D (1 - i)) (h.sz _ (by omega)) (x i).m
  refine ⟨(gotOf (D (1 - i)) (x i).m).drop (t i) ++ b, ?_⟩
  rw [(h.ro i hi).1, ← List.append_assoc, List.take_append_drop]
  exact hb
theorem Pl.rlen {K : Nat} {D : Nat → List ByteArray} {x : Nat → Nd} {t : Nat → Nat} {W : Nat → List Fr} {R : Nat → List ByteArray} (h : Pl K D x t W R) {i : Nat} (hi : i < 2) : (R i).length ≤ K := by
  obtain ⟨b, hb⟩ := h.right hi
  have h1 := h.ln (1 - i) (by omega)
  rw [hb, List.length_append] at h1
  omega
end Go.Proofs.YthchicolifkpiaaDoor
namespace Go.Proofs.YthchicolifkpiaaDoor
open Go.RowKit Go.Lib
set_option linter.unusedVariables false

theorem step_call_law {P : Program} {ops : Array Oper} {o : Oper} {a : Act} {w : World} {K : Act → World → Prop} {Q : Exit → Act → World → Prop} {E : Prop} (hgd : o.guard = none) (f : FuncId) (x : Operand) (ts : Array TypeId)
    (ho : o.op = .call { callee := .value (.func f), args := #[x], argTypes := ts }) (v : Value) (hx : a.eval x = v) (hf : ∀ args w, (callFunc f args).run P w = .ok (.enter f args) w)
    {S : Ending → World → Prop} (hc : Calls P f #[v] w S) (hv : ∀ e w', S e w' → ∃ v, e = .returned v ∧ K (a.put o.dst v) w') :
    if Region.wanted o (yielded ops a.tmps) = true then Oper.wp P o a w K Q else E := by
  have hw : Region.wanted o (yielded ops a.tmps) = true := by simp [Region.wanted, hgd]
  rw [if_pos hw]
  obtain ⟨dst, op, ty, pos, after, guard⟩ := o
  cases ho
  have hrun : (execOp a.eval { dst, op := .call { callee := .value (.func f), args := #[x], argTypes := ts }, type := ty, pos, after, guard }).run P w = .ok (.enter f #[v]) w := by
    show (callFunc f (#[] ++ #[x].map a.eval ++ #[])).run P w = _
    have e : (#[] ++ #[x].map a.eval ++ #[]) = #[v] := by simp [hx]
    rw [e]; exact hf _ _
  unfold Oper.wp
  rw [hrun, Oper.upon_enter]
  refine hc.mono fun e w' hh => ?_
  obtain ⟨v, rfl, hk⟩ := hv e w' hh
  exact hk
theorem ent_got (args : Array Value) (w : World) : (callFunc 17 args).run Tryd.prog w = .ok (.enter 17 args) w := by kernel_rfl
theorem ent_take (args : Array Value) (w : World) : (callFunc 15 args).run Tryd.prog w = .ok (.enter 15 args) w := by kernel_rfl
theorem win_slice {w : World} {base : Nat} {e : TypeId} {v : Value} {xs : List Value} (h : WinRow w base e v xs) : ∃ ao n c, v = .slice ao n c := by
  rcases h with ⟨rfl, _⟩ | ⟨g, o, cap, cur, rfl, _⟩
  · exact ⟨_, _, _, rfl⟩
  · exact ⟨_, _, _, rfl⟩
end Go.Proofs.YthchicolifkpiaaDoor
namespace Go.Proofs.YthchicolifkpiaaDoor
open Go.RowKit Go.Lib
set_option linter.unusedVariables false

def HapMid (w0 w : World) (nb base : Nat) (e : Nat → Nat) (K : Nat) : Prop :=
  ∃ D x t W R v U g r, NA w nb base e D x t v U g D r R ∧ (∀ i, i < 2 → U i = frS (D i) (W i)) ∧ Below base w0 w ∧ Pl K D x t W R
theorem HapMid.mono {w0 w : World} {nb base : Nat} {e : Nat → Nat} {K K' : Nat} (h : HapMid w0 w nb base e K) (hk : K ≤ K') : HapMid w0 w nb base e K' := by
  obtain ⟨D, x, t, W, R, v, U, g, r, h1, h2, h3, h4⟩ := h
  exact ⟨D, x, t, W, R, v, U, g, r, h1, h2, h3, h4.mono hk⟩
theorem cellsT_ones (l : List ByteArray) : ∀ u ∈ cellsT l, u.oneCell' = true := by
  intro u hu
  obtain ⟨s, _, rfl⟩ := List.mem_map.1 hu
  rfl
theorem Pl.room {K : Nat} {D : Nat → List ByteArray} {x : Nat → Nd} {t : Nat → Nat} {W : Nat → List Fr} {R : Nat → List ByteArray} (h : Pl K D x t W R) {i : Nat} (hi : i < 2) {l : List ByteArray} (hl : (gotOf (D (1 - i)) (x i).m).take (t i) ++ l = gotOf (D (1 - i)) (x i).m) (hK : K ≤ 1048577) :
    (cellsT (R i)).length + (cellsT l).length ≤ maxLen ∧ ((cellsT (R i)).length + (cellsT l).length) * 16 ≤ 140737488355328 := by
  have hg := h.got hi hl
  have := hg.rlen hi
  rw [upd_same, List.length_append] at this
  unfold cellsT
  rw [List.length_map, List.length_map]
  unfold maxLen
  omega
theorem room_way {K : Nat} {D : Nat → List ByteArray} {x : Nat → Nd} {t : Nat → Nat} {W : Nat → List Fr} {R : Nat → List ByteArray} (h : Pl K D x t W R) {i : Nat} (hi : i < 2) {u : List ByteArray} (hu : u = frS (D i) (W i)) (hK : K ≤ 1048577) :
    (cellsT u).length + (cellsT (frS (D i) (sentN (x i)))).length ≤ maxLen ∧ ((cellsT u).length + (cellsT (frS (D i) (sentN (x i)))).length) * 16 ≤ 140737488355328 := by
  subst hu
  have h0 := h.wl i hi
  have hs : (sentN (x i)).length ≤ 1 := by unfold sentN; split <;> (try split) <;> simp
  unfold cellsT frS
  rw [List.length_map, List.length_map, List.length_map, List.length_map]
  unfold maxLen
  omega
theorem room_giv {K : Nat} {D : Nat → List ByteArray} {x : Nat → Nd} {t : Nat → Nat} {W : Nat → List Fr} {R : Nat → List ByteArray} (h : Pl K D x t W R) {i : Nat} (hi : i < 2) (s : ByteArray) (hK : K ≤ 1048577) :
    (cellsT (D i)).length + (cellsT [s]).length ≤ maxLen ∧ ((cellsT (D i)).length + (cellsT [s]).length) * 16 ≤ 140737488355328 := by
  have h0 := h.ln i hi
  unfold cellsT
  rw [List.length_map]
  simp only [List.map_cons, List.map_nil, List.length_cons, List.length_nil]
  unfold maxLen
  omega
theorem sent_way {D : Nat → List ByteArray} {x : Nat → Nd} {W : Nat → List Fr} {U : Nat → List ByteArray} (hU : ∀ i, i < 2 → U i = frS (D i) (W i)) {i : Nat} (hi : i < 2) : ∀ j, j < 2 → upd U i (U i ++ frS (D i) (sentN (x i))) j = frS (D j) (upd W i (W i ++ sentN (x i)) j) := by
  intro j hj
  by_cases hji : j = i
  · subst hji
    rw [upd_same, upd_same, hU j hj]
    unfold frS
    rw [List.map_append]
  · rw [upd_other _ _ hji, upd_other _ _ hji]; exact hU j hj
theorem tail_way {D : Nat → List ByteArray} {W W' : Nat → List Fr} {U : Nat → List ByteArray} (hU : ∀ i, i < 2 → U i = frS (D i) (W i)) {i : Nat} (hi : i < 2) {l : List Fr} (h1 : W' i = l) (h2 : W' (1 - i) = W (1 - i)) : ∀ j, j < 2 → upd U i (frS (D i) l) j = frS (D j) (W' j) := by
  intro j hj
  by_cases hji : j = i
  · subst hji
    rw [upd_same, h1]
  · have : j = 1 - i := by omega
    subst this
    rw [upd_other _ _ hji, h2]; exact hU _ hj
/-- a tail of a way -/
theorem NA.wayV {w : World} {nb base : Nat} {e : Nat → Nat} {G : Nat → List ByteArray} {x : Nat → Nd} {t : Nat → Nat} {v : Nat → Value} {U : Nat → List ByteArray} {g : Nat → Value} {D : Nat → List ByteArray} {r : Nat → Value} {R : Nat → List ByteArray}
    (h : NA w nb base e G x t v U g D r R) {i : Nat} (hi : i < 2) {v' : Value} {l : List ByteArray} (hw : WinRow w base 9 v' (cellsT l)) (hn : v'.ownBlock = (v i).ownBlock) :
    NA (w.setCell ⟨nb, 2 + i, none⟩ v') nb base e G x t (upd v i v') (upd U i l) g D r R ∧ Below base w (w.setCell ⟨nb, 2 + i, none⟩ v') := by
  obtain ⟨F, who, h⟩ := h
  refine ⟨⟨_, _, h.setV hi ⟨rfl, rfl, rfl, Nat.le_refl _, fun _ _ _ => rfl⟩ hw fun q hq => .inl (hn ▸ hq)⟩, (Below.refl _ _).setCell h.lo _⟩
theorem frT_ok (G : List ByteArray) (q : Option Nat) (c : Nat) (h : ∀ p, q = some p → p < (piecesL G).length) : unfE (frT G q c) = 0 := by
  cases q with
  | none => exact (frT_none G c).1
  | some p => exact (frT_some G p c _ (List.getElem?_eq_getElem (h p rfl))).1
/-- the way's first frame, and what is behind it -/
theorem way_first {w : World} {nb base : Nat} {e : Nat → Nat} {G : Nat → List ByteArray} {x : Nat → Nd} {t : Nat → Nat} {v : Nat → Value} {U : Nat → List ByteArray} {g : Nat → Value} {D : Nat → List ByteArray} {r : Nat → Value} {R : Nat → List ByteArray}
    (h : NA w nb base e G x t v U g D r R) {i : Nat} (hi : i < 2) {s : ByteArray} {l : List ByteArray} (hU : U i = s :: l) :
    ∃ b o c, v i = .slice (some ⟨b, o, none⟩) (l.length + 1) c ∧ l.length + 1 ≤ c ∧ w.cell? ⟨b, o, none⟩ = some (.string s) ∧ WinRow w base 9 (.slice (some ⟨b, tailAt o c, none⟩) l.length (c - 1)) (cellsT l) ∧ b ≠ nb := by
  obtain ⟨F, who, h⟩ := h
  have hw := h.wa i hi
  have hwv := h.wv i hi
  rw [hU] at hw
  have h0 := hw
  rcases hw with ⟨h1, h2⟩ | ⟨b, o, cap, cur, hv, h1, h2, h3, h4, h5, h6⟩
  · cases h2
  · have hl : (cellsT (s :: l)).length = l.length + 1 := by simp [cellsT]
    rw [hl] at hv h3
    rw [hv] at h0 hwv
    refine ⟨b, o, cap, hv, h3, ?_, ?_, ?_⟩
    · have := h0.cells.2.2 0 (.string s) rfl
      simpa [Addr.add] using this
    · exact h0.tail
    · rintro rfl
      have := hwv b rfl
      rw [h.w0] at this
      omega
theorem alloc_at2 (w : World) (o p : Obj) : ((w.alloc o).alloc p).drew.heap[w.heap.size + 1]? = some p := by
  have e1 : (w.alloc o).heap.size = w.heap.size + 1 := by simp
  rw [← e1]; exact heap_alloc_new (w.alloc o) p
theorem conv_two (W : World) (b : Nat) (x y : Int) (h : W.heap[b]? = some (.cells #[.int .u8 x, .int .u8 y] 5 (0, 0))) : (convert 42 9 (.slice (some ⟨b, 0, none⟩) 2 2)).run Tryd.prog W = .ok (.string (strOfNums [x, y])) W :=
  run_convert_bytes_arg (P := Tryd.prog) W 42 5 Tryd.underlying42 Tryd.underlying5 b 0 2 2 [x, y] rfl (fun i hi => by
    rw [Nat.zero_add, cell_of_row _ _ i _ _ _ h]
    have h2 : i = 0 ∨ i = 1 := by omega
    rcases h2 with rfl | rfl <;> rfl) 9 Tryd.underlying9
theorem conv_zero (W : World) (b n : Nat) (Z : Array Value) (hZ : ∀ q, q < n → Z[q]? = some (.int .u8 0)) (h : W.heap[b]? = some (.cells Z 5 (0, 0))) : (convert 42 9 (.slice (some ⟨b, 0, none⟩) n n)).run Tryd.prog W = .ok (.string (strOfNums (List.replicate n 0))) W :=
  run_convert_bytes_arg (P := Tryd.prog) W 42 5 Tryd.underlying42 Tryd.underlying5 b 0 n n (List.replicate n 0) (by simp) (fun i hi => by
    rw [Nat.zero_add, cell_of_row _ _ i _ _ _ h, hZ i hi]
    simp [List.getD_eq_getElem?_getD, hi]) 9 Tryd.underlying9
end Go.Proofs.YthchicolifkpiaaDoor
namespace Go.Proofs.YthchicolifkpiaaDoor
open Go.RowKit Go.Lib
set_option linter.unusedVariables false

/-- what the law counts -/
def pSum : List ByteArray → Nat
  | [] => 0
  | s :: l => (s.size / 32 + 1) + pSum l
theorem pSum_snoc (l : List ByteArray) (s : ByteArray) : pSum (l ++ [s]) = pSum l + (s.size / 32 + 1) := by
  induction l with
  | nil => simp [pSum]
  | cons a r ih => simp only [List.cons_append, pSum, ih]; omega
theorem pSum_take (l : List ByteArray) (k : Nat) (s : ByteArray) (h : l[k]? = some s) : pSum (l.take (k + 1)) = pSum (l.take k) + (s.size / 32 + 1) := by
  rw [List.take_add_one, h, Option.toList_some, pSum_snoc]
theorem pSum_all (l : List ByteArray) : (piecesL l).length ≤ pSum l := by
  induction l with
  | nil => simp [piecesL]
  | cons s r ih =>
    rw [piecesL_cons, List.length_append, pcs_length, pSum]
    have := npc_len s
    omega
theorem pSum_le (l : List ByteArray) (h : ∀ s ∈ l, s.size ≤ 4096) : pSum l ≤ 129 * l.length := by
  induction l with
  | nil => simp [pSum]
  | cons s r ih =>
    have h1 := h s List.mem_cons_self
    have h2 := ih fun u hu => h u (List.mem_cons_of_mem _ hu)
    rw [pSum, List.length_cons]
    omega
theorem pSum_mono (l : List ByteArray) (k : Nat) : pSum (l.take k) ≤ pSum l := by
  have : ∀ a b : List ByteArray, pSum a ≤ pSum (a ++ b) := by
    intro a b
    induction a with
    | nil => simp [pSum]
    | cons s r ih => simp only [List.cons_append, pSum]; omega
  have h := this (l.take k) (l.drop k)
  rwa [List.take_append_drop] at h
theorem NA.nilV {w : World} {nb base : Nat} {e : Nat → Nat} {G : Nat → List ByteArray} {x : Nat → Nd} {t : Nat → Nat} {v : Nat → Value} {U : Nat → List ByteArray} {g : Nat → Value} {D : Nat → List ByteArray} {r : Nat → Value} {R : Nat → List ByteArray}
    (h : NA w nb base e G x t v U g D r R) {i : Nat} (hi : i < 2) :
    NA (w.setCell ⟨nb, 2 + i, none⟩ (.slice none 0 0)) nb base e G x t (upd v i (.slice none 0 0)) (upd U i []) g D r R ∧ Below base w (w.setCell ⟨nb, 2 + i, none⟩ (.slice none 0 0)) := by
  obtain ⟨F, who, h⟩ := h
  exact ⟨⟨_, _, h.setV (v' := .slice none 0 0) (U' := []) hi ⟨rfl, rfl, rfl, Nat.le_refl _, fun _ _ _ => rfl⟩ (.inl ⟨rfl, rfl⟩) fun q hq => by cases hq⟩, (Below.refl _ _).setCell h.lo _⟩
theorem HapMid.drewN {w0 w : World} {nb base : Nat} {e : Nat → Nat} {K : Nat} (h : HapMid w0 w nb base e K) (m : Nat) : HapMid w0 (w.drewN m) nb base e K := by
  obtain ⟨D, x, t, W, R, v, U, g, r, h1, h2, h3, h4⟩ := h
  exact ⟨D, x, t, W, R, v, U, g, r, h1.below ⟨rfl, rfl, rfl, Nat.le_refl _, fun _ _ => rfl⟩, h2, ⟨h3.os, h3.tape, h3.output, h3.size, h3.block⟩, h4⟩
theorem HapMid.right {w0 w : World} {nb base : Nat} {e : Nat → Nat} {K : Nat} (h : HapMid w0 w nb base e K) (hK : K ≤ 1048577) : Calls Tryd.prog 22 #[ptrE nb] w fun e w' => e = .returned (.bool true) ∧ ∃ m, w' = w.drewN m := by
  obtain ⟨D, x, t, W, R, v, U, g, r, ⟨F, who, h1⟩, h2, h3, h4⟩ := h
  have l0 := h4.ln 0 (by omega)
  have l1 := h4.ln 1 (by omega)
  exact right_any h1 (h4.right (i := 0) (by omega)) (h4.right (i := 1) (by omega)) (by omega) (by omega)
/-- what is sent, as a row -/
theorem n_take3 {w : World} {nb base : Nat} {e : Nat → Nat} {G : Nat → List ByteArray} {x : Nat → Nd} {t : Nat → Nat} {v : Nat → Value} {U : Nat → List ByteArray} {g : Nat → Value} {D : Nat → List ByteArray} {r : Nat → Value} {R : Nat → List ByteArray}
    (h : NA w nb base e G x t v U g D r R) (ht : Tab w) (i : Nat) (hi : i < 2) (hG : ∀ j, j < 2 → ∀ s ∈ G j, s.size ≤ 4096) :
    Calls Tryd.prog 15 #[ptrE (e i)] w fun ev w' => ∃ fa n, ev = .returned (.slice fa n n) ∧ n ≤ 1 ∧ (n = 0 → sentN (x i) = []) ∧ (n = 1 → ∃ q b, sentN (x i) = [(q, (x i).m)] ∧ fa = some ⟨b, 0, none⟩ ∧ b < w'.heap.size ∧ w'.cell? ⟨b, 0, none⟩ = some (.string (frT (G i) q (x i).m))) ∧
      NA w' nb base e G (upd x i (halfX (x i))) t v U g D r R ∧ Below base w w' := by
  refine (n_take2 h ht i hi hG).mono ?_
  rintro ev w' ⟨⟨h1, rfl⟩ | ⟨q, b, h1, rfl, h2, h3, h4⟩, h5⟩
  · exact ⟨none, 0, rfl, by omega, fun _ => h1, fun h => by omega, h5⟩
  · exact ⟨_, 1, rfl, by omega, fun h => by omega, fun _ => ⟨q, b, h1, rfl, h2, h4⟩, h5⟩
def halfF (x : Nat → Nd) (i : Nat) : Nat → Nd := upd (upd x i (halfX (x i))) (1 - i) (halfY (x i) (x (1 - i)))
theorem halfF_same (x : Nat → Nd) {i : Nat} (hi : i < 2) : halfF x i i = halfX (x i) ∧ halfF x i (1 - i) = halfY (x i) (x (1 - i)) := by
  unfold halfF
  exact ⟨by rw [upd_other _ _ (ne_sub hi), upd_same], upd_same _ _ _⟩
theorem half_none {x : Nat → Nd} {i : Nat} (hi : i < 2) (h : sentN (x i) = []) : halfF x i = upd x i (halfX (x i)) := by
  unfold halfF
  rw [half_sent, h]
  have e : upd x i (halfX (x i)) (1 - i) = x (1 - i) := upd_other _ _ (sub_ne hi)
  show upd (upd x i (halfX (x i))) (1 - i) (x (1 - i)) = _
  rw [← e, upd_self]
theorem half_one {x : Nat → Nd} {i : Nat} (hi : i < 2) {q : Option Nat} {c : Nat} (h : sentN (x i) = [(q, c)]) : halfF x i = upd (upd x i (halfX (x i))) (1 - i) (hearN (upd x i (halfX (x i)) (1 - i)) q c) := by
  unfold halfF
  rw [half_sent, h, upd_other _ _ (sub_ne hi)]
  rfl
/-- half a round -/
theorem Pl.half {K : Nat} {D : Nat → List ByteArray} {x : Nat → Nd} {t : Nat → Nat} {R : Nat → List ByteArray} (h : Pl K D x t (fun _ => []) R) {i : Nat} (hi : i < 2) :
    Pl K D (halfF x i) t (fun _ => []) R ∧ (∀ q c, sentN (x i) = [(q, c)] → (upd x i (halfX (x i)) (1 - i)).a ≤ c ∧ c ≤ (upd x i (halfX (x i)) (1 - i)).a + 1 ∧ (∀ p, q = some p → p < (piecesL (D i)).length ∧ (upd x i (halfX (x i)) (1 - i)).m ≤ p + 1 ∧ p ≤ (upd x i (halfX (x i)) (1 - i)).m)) := by
  have hs := h.send hi
  have hW : ∀ l, l = sentN (x i) → upd (fun _ => ([] : List Fr)) i (((fun _ => ([] : List Fr)) i) ++ l) i = l := fun l _ => by rw [upd_same]; rfl
  have hback : ∀ {x' : Nat → Nd} {W' : Nat → List Fr}, Pl (K + 1) D x' t W' R → (∀ j, j < 2 → W' j = []) → Pl K D x' t (fun _ => []) R := fun {x' W'} k1 k2 =>
    ⟨fun j hj => by have := k1.two j hj; rwa [k2 j hj, k2 (1 - j) (by omega)] at this, k1.sz, h.ln, k1.ro, k1.le, fun j hj => Nat.zero_le _⟩
  have hlen : sentN (x i) = [] ∨ ∃ f, sentN (x i) = [f] := by
    unfold sentN
    split
    · exact .inr ⟨_, rfl⟩
    · split
      · exact .inr ⟨_, rfl⟩
      · exact .inl rfl
  rcases hlen with h0 | ⟨⟨q, c⟩, h1⟩
  · refine ⟨?_, fun q c hq => by rw [h0] at hq; cases hq⟩
    rw [half_none hi h0]
    refine hback hs fun j hj => ?_
    by_cases hji : j = i
    · subst hji; rw [upd_same, h0]; rfl
    · rw [upd_other _ _ hji]
  · obtain ⟨k1, k2, k3, k4⟩ := hs.hear hi (q := q) (c := c) (l := []) (by rw [upd_same, h1]; rfl)
    refine ⟨?_, fun q' c' hq => ?_⟩
    · rw [half_one hi h1]
      refine hback k1 fun j hj => ?_
      by_cases hji : j = i
      · subst hji; rw [upd_same]
      · rw [upd_other _ _ hji, upd_other _ _ hji]
    · rw [h1] at hq
      cases hq
      exact ⟨k2, k3, k4⟩
theorem half_m (x : Nat → Nd) {i : Nat} (hi : i < 2) : (halfF x i i).m = (x i).m := by rw [(halfF_same x hi).1]; exact (halfX_eq (x i)).2.1
/-- at last all of it was got -/
theorem all_got {K : Nat} {D : Nat → List ByteArray} {x : Nat → Nd} {t : Nat → Nat} {R : Nat → List ByteArray} (h : Pl K D x t (fun _ => []) R) {i : Nat} (hi : i < 2) (ht : t i = (gotOf (D (1 - i)) (x i).m).length) (hm : (x i).m = (x (1 - i)).L) : R i = D (1 - i) := by
  rw [(h.ro i hi).1, ht, List.take_length, hm, h.le (1 - i) (by omega)]
  exact got_all _ (h.sz _ (by omega))
theorem round_pair {x : Nat → Nd} {c : Nat} {s : Nd × Nd} (h : (x 0, x 1) = rounds c s) : ((halfF (halfF x 0) 1 0).tick, (halfF (halfF x 0) 1 1).tick) = rounds (c + 1) s := by
  have h1 := halfF_same x (i := 0) (by omega)
  have h2 := halfF_same (halfF x 0) (i := 1) (by omega)
  have e1 : halfF (halfF x 0) 1 0 = halfY (halfY (x 0) (x 1)) (halfX (x 0)) := by
    have := h2.2
    rw [show (1 : Nat) - 1 = 0 from rfl, h1.1, show halfF x 0 1 = halfY (x 0) (x 1) from h1.2] at this
    exact this
  have e2 : halfF (halfF x 0) 1 1 = halfX (halfY (x 0) (x 1)) := by
    rw [h2.1, show halfF x 0 1 = halfY (x 0) (x 1) from h1.2]
  rw [e1, e2]
  simp only [rounds]
  rw [← h]
  rfl
end Go.Proofs.YthchicolifkpiaaDoor
namespace Go.Proofs.YthchicolifkpiaaDoor
open Go.ChangeShapes Go.WideShapes Go.ChangeAt Go.RowKit Go.Deep
set_option linter.unusedVariables false
set_option maxRecDepth 100000

theorem cellsOfUint8 : Tryd.prog.cellsOf 5 = 1 := by kernel_rfl
theorem bounds_u8 {x : Int} (h : (Lit.int .u8 x).wf = true) : 0 ≤ x ∧ x ≤ 255 := by
  have h' : (decide (0 ≤ x) && decide (x ≤ 255)) = true := h
  rw [Bool.and_eq_true] at h'
  exact ⟨of_decide_eq_true h'.1, of_decide_eq_true h'.2⟩
def Rowuint8 (W : World) (ao : Option Addr) (l : List Int) : Prop :=
  (l = [] ∨ ∃ b off, ao = some ⟨b, off, none⟩ ∧ b < W.heap.size ∧ ∀ i x, l[i]? = some x → W.cell? ⟨b, off + i, none⟩ = some (.int .u8 x)) ∧ (∀ x ∈ l, (0 ≤ x ∧ x ≤ 255)) ∧ l.length ≤ maxLen
theorem Rowuint8.below {W W' : World} {ao : Option Addr} {l : List Int} (h : Rowuint8 W ao l) (hb : Below W.heap.size W W') : Rowuint8 W' ao l := by
  obtain ⟨h, ho, hm⟩ := h
  refine ⟨?_, ho, hm⟩
  rcases h with h | ⟨b, off, e, hlt, hc⟩
  · exact .inl h
  · exact .inr ⟨b, off, e, Nat.lt_of_lt_of_le hlt hb.size, fun i s hi => (hb.cell (p := ⟨b, off + i, none⟩) hlt).trans (hc i s hi)⟩
theorem cellsOfSluint8 : Tryd.prog.cellsOf 42 = 1 := by kernel_rfl
theorem opencuint8 {H : Type} {enc : TypeId × Value → H} {W : World} {k : Nat} {cs : List Value} {y : DataW H × List MemPlace}
    (h : DataW.trod enc Tryd.prog W 0 (fun _ => true) true k 5 cs = some y) : ∃ x : Int, cs = [.int .u8 x] ∧ (0 ≤ x ∧ x ≤ 255) := by
  obtain ⟨z, e, _, w⟩ := DataW.trod_int Tryd.underlying5 h
  exact ⟨z, e, bounds_u8 w⟩
theorem openruint8 {H : Type} {enc : TypeId × Value → H} {W : World} {k : Nat} {cs : List Value} {y : DataW H × List MemPlace}
    (h : DataW.trod enc Tryd.prog W 0 (fun _ => true) true k 42 cs = some y) :
    ∃ (ao : Option Addr) (l : List Int) (cap : Nat), cs = [.slice ao l.length cap] ∧ Rowuint8 W ao l ∧ (l = [] ∨ ∃ es ss, y.1 = .slice es ss ∧ es.length = l.length) := by
  rcases open_slice Tryd.underlying42 h with ⟨rfl, rfl⟩ | ⟨a, len, cap, mm, nn, D, Pl, rfl, _, hl, hm, hmm, hx, hel⟩
  · exact ⟨none, [], 0, rfl, ⟨.inl rfl, by simp, by simp⟩, .inl rfl⟩
  · simp only [if_true] at hmm
    rw [cellsOfUint8] at hel
    obtain ⟨F, hF⟩ := choose_lt (α := Int) (n := mm) (p := fun i x => (W.cell? ((a.add (i * 1)).add 0) = some (.int .u8 x)) ∧ (0 ≤ x ∧ x ≤ 255)) (fun i hi => by
      obtain ⟨cs', h1, h2⟩ := hel i hi
      obtain ⟨x, rfl, hok⟩ := opencuint8 h2
      obtain ⟨_, _, hc⟩ := World.cells?_some h1
      exact ⟨x, hc 0 (by omega), hok⟩)
    refine ⟨some a, (List.range len).map F, cap, by simp, ⟨?_, ?_, by rw [List.length_map, List.length_range]; omega⟩, .inr ⟨_, _, by rw [hx], by simp⟩⟩
    · by_cases hl0 : len = 0
      · subst hl0; exact .inl rfl
      · obtain ⟨b, off, spot⟩ := a
        have hc0 := (hF 0 (by omega)).1
        have hspot : spot = none := by simpa [Addr.add] using World.cell?_spot hc0
        subst hspot
        refine .inr ⟨b, off, rfl, by simpa [Addr.add] using cell_ltR hc0, fun i x hi => ?_⟩
        have hi' : i < len := by
          rcases Nat.lt_or_ge i len with h | h
          · exact h
          · rw [List.getElem?_eq_none (by simpa using h)] at hi; cases hi
        rw [List.getElem?_map, List.getElem?_range hi'] at hi
        obtain rfl : F i = x := by simpa using hi
        have := (hF i (by omega)).1
        simp only [WideShapes.add_plain, Nat.mul_one, Nat.add_zero] at this
        exact this
    · intro x hx
      obtain ⟨i, hi, rfl⟩ := List.mem_map.1 hx
      exact (hF i (by have : i < len := by simpa using hi
                      omega)).2
theorem openRuint8 {H : Type} {enc : TypeId × Value → H} {W : World} {b0 : Nat} {r : Reach} {v : Value} {d : DataW H} {p : List MemPlace}
    (hv : Value.okWide Tryd.prog W r b0 42 v) (h : DataW.Trod enc Tryd.prog W 0 (fun _ => true) true 42 v d p) : ∃ (ao : Option Addr) (l : List Int) (cap : Nat), v = .slice ao l.length cap ∧ Rowuint8 W ao l ∧ (l = [] ∨ ∃ es ss, d = .slice es ss ∧ es.length = l.length) := by
  obtain ⟨a0, len, cap, rfl⟩ := okWide_slice Tryd.underlying42 hv
  obtain ⟨fuel, hf⟩ := h
  obtain ⟨ao, l, cap', hx, hr, hd⟩ := openruint8 hf
  simp [Value.cells] at hx
  obtain ⟨rfl, rfl, rfl⟩ := hx
  exact ⟨_, l, _, rfl, hr, hd⟩
end Go.Proofs.YthchicolifkpiaaDoor
