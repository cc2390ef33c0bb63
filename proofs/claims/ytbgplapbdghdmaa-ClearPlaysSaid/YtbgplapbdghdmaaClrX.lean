/- clear, the document's own: owe. -/
import Derived.Test.YtbgplapbdghdmaaClrW
import Derived.Deep.AppendLies
import Derived.Deep.RegionLaw
namespace Go.Proofs.Ytbgplapbdghdmaa
open Go.RowKit
set_option linter.unusedVariables false
set_option linter.unusedSimpArgs false
set_option maxRecDepth 100000

variable {w w' : World} {G : Nat → Prop} {r : Nat} {S : Clr} {vL vO : Value} {ks : List (Kse × Value)} {os : List Ow}
theorem oR_lt {α : Type} {w : World} {base : Nat} {e : TypeId} {m : Nat} {c : α → List Value} {v : Value} {l : List α} (h : OwnR w base e m c v l) {x : Nat} (hx : v.ownBlock = some x) : x < w.heap.size := (h.lt x hx).2
def owePost (w : World) (r : Nat) (D : Dys) (t : Int) (vL vO : Value) (os : List Ow) (o : Ow) (e : Ending) (w' : World) : Prop :=
  e = .returned (.tuple #[]) ∧ ∃ g cap, RB w' r D vL t (.slice (some ⟨g, 0, none⟩) (os.length + 1) cap) ∧ OwnR w' 0 46 3 cellsO (.slice (some ⟨g, 0, none⟩) (os.length + 1) cap) (os ++ [o]) ∧ (vO.ownBlock = some g ∨ w.heap.size ≤ g) ∧ Chg (fun x => x = r ∨ vO.ownBlock = some x) w w'
theorem owe_keep {W w3 : World} {D : Dys} {t : Int} {o : Obj} (hR : RB W r D vL t vO) (hg : (W.drew.alloc o).grownBy w3 vO.ownBlock) (hne : vO.ownBlock ≠ some r) : RB w3 r D vL t vO := by
  refine hR.of_block ((hg.block r ?_ (Ne.symm hne)).trans (Below.heap_alloc W.drew o r hR.lt))
  have := hR.lt
  show r < (W.drew.alloc o).heap.size
  rw [show (W.drew.alloc o).heap.size = W.heap.size + 1 from by simp]
  omega
theorem owe_last {w W w3 : World} {D : Dys} {t : Int} {obj : Obj} {os : List Ow} {o : Ow} {g cap : Nat} (hb : Below w.heap.size w W) (hR : RB W r D vL t vO) (hO : OwnR W 0 46 3 cellsO vO os) (hOw : OwnR w 0 46 3 cellsO vO os) (hg : (W.drew.alloc obj).grownBy w3 vO.ownBlock) (hne : vO.ownBlock ≠ some r)
    (own : w3.ownsRow 0 46 3 (.slice (some ⟨g, 0, none⟩) (os.length + 1) cap) (os.length + 1) (rowC cellsO os ++ cellsO o)) (hat : vO.ownBlock = some g ∨ g = W.heap.size + 1) (hrl : r < w.heap.size) :
    owePost w r D t vL vO os o (.returned (.tuple #[])) (w3.setCell ⟨r, 7, none⟩ (.slice (some ⟨g, 0, none⟩) (os.length + 1) cap)) := by
  have h3 := owe_keep hR hg hne
  have hs := hb.size
  have hgr : g ≠ r := fun e => by
    subst e
    rcases hat with hat | hat
    · exact hne hat
    · omega
  have o3 : OwnR w3 0 46 3 cellsO (.slice (some ⟨g, 0, none⟩) (os.length + 1) cap) (os ++ [o]) := OwnR.snoc o own
  refine ⟨rfl, g, cap, h3.setO _, o3.other (a := ⟨r, 7, none⟩) (fun e => hgr (Option.some.inj e)) _, ?_, ?_⟩
  · rcases hat with hat | hat
    · exact .inl hat
    · exact .inr (by omega)
  · have h1 : Chg (fun x => x = r ∨ vO.ownBlock = some x) w W := Chg.of_below _ hb
    have h2 : Chg (fun x => x = r ∨ vO.ownBlock = some x) W (W.drew.alloc obj) := Chg.of_below _ ((Below.refl W.heap.size W).drew.alloc (Nat.le_refl _) _)
    have h4 : Chg (fun x => x = r ∨ vO.ownBlock = some x) (W.drew.alloc obj) w3 := ⟨hg.os, hg.tape, hg.output, hg.size, fun k hk hn => hg.block k hk (fun e => hn (.inr e.symm))⟩
    exact (((h1.trans h2 (fun x hx => .inl hx)).trans h4 (fun x hx => .inl hx))).trans (Chg.setCell w3 _ _) (fun x hx => .inl (.inl hx))
set_option maxHeartbeats 2000000 in
theorem owe_any (r : Nat) (D : Dys) (t n : Int) (vL vO : Value) (os : List Ow) (p : Pst) (w : World) (h : RB w r D vL t vO) (ho : OwnR w 0 46 3 cellsO vO os) (hl : os.length ≤ 500000) (hn : InR (-n)) :
    Calls Try.prog 36 #[.pointer (some ⟨r, 0, none⟩), pstV p, .int .i64 n] w (owePost w r D t vL vO os (owD p n)) := by
  obtain ⟨i0, hi, hz0, hz1, hz2⟩ := info_parts infoO
  obtain ⟨a, b, z, hab⟩ : ∃ a b z, owD p n = ⟨a, b, z⟩ := ⟨_, _, _, rfl⟩
  rw [hab]
  have hne : vO.ownBlock ≠ some r := fun e => by
    obtain ⟨cur, hc⟩ := ho.tag e
    unfold RB at h
    rw [h] at hc
    injection hc with hc
    injection hc with _ hc _
    exact absurd hc (by decide)
  have hrl := h.lt
  have HI := hide hi; have Z0 := hide hz0; have Z1 := hide hz1; have Z2 := hide hz2; have HNE := hide hne; have HL := hide hl; have HO := hide ho; have HR := hide h
  have u1 : IntKind.i64.wrap (-n) = -n := by rw [IntKind.wrap_i64]; unfold InR at hn; omega
  obtain ⟨frm, to, shop, trace, amt, day⟩ := p
  unfold pstV
  unfold owD at hab
  dsimp only at *
  have hfin : ∀ (x y s1 s2 s3 s4 : Int), Below w.heap.size w (w.alloc (.cells #[.int .i64 x, .int .i64 y, .int .i64 s1, .int .i64 s2, .int .i64 s3, .int .i64 s4] 34)) := fun _ _ _ _ _ _ => (Below.refl w.heap.size w).alloc (Nat.le_refl _) _
  have HFIN := hide hfin
  clear hi hz0 hz1 hz2 hne hl ho h hn hfin
  by_cases hlt : n < 0
  · rw [if_pos hlt] at hab
    injection hab with h1 h2 h3
    subst h1 h2
    rw [h3] at u1
    have HB := hide (unhide HFIN to frm shop trace amt day)
    have hR1 : RB (w.alloc (.cells #[.int .i64 to, .int .i64 frm, .int .i64 shop, .int .i64 trace, .int .i64 amt, .int .i64 day] 34)) r D vL t vO := (unhide HR).of_block (Below.heap_alloc _ _ _ hrl)
    have hO1 := (unhide HO).alloc (.cells #[.int .i64 to, .int .i64 frm, .int .i64 shop, .int .i64 trace, .int .i64 amt, .int .i64 day] 34)
    have c0 : (w.alloc (.cells #[.int .i64 to, .int .i64 frm, .int .i64 shop, .int .i64 trace, .int .i64 amt, .int .i64 day] 34)).cell? ⟨w.heap.size, 0, none⟩ = some (.int .i64 to) := newC w _ _ 0
    have c1 : (w.alloc (.cells #[.int .i64 to, .int .i64 frm, .int .i64 shop, .int .i64 trace, .int .i64 amt, .int .i64 day] 34)).cell? ⟨w.heap.size, 1, none⟩ = some (.int .i64 frm) := newC w _ _ 1
    have HC := hide (And.intro c0 (And.intro c1 (And.intro hR1 hO1)))
    clear c0 c1 hR1 hO1
    go_enter Try.func36, Try.ntmps36
    go_wp2_with fail
    generalize (w.alloc (.cells #[.int .i64 to, .int .i64 frm, .int .i64 shop, .int .i64 trace, .int .i64 amt, .int .i64 day] 34)) = W at *
    obtain ⟨c0, c1, hR1, hO1⟩ := unhide HC
    obtain ⟨_, _, _, _, _, _, b7⟩ := hR1.cells
    have HR1 := hide hR1; have HO1 := hide hO1
    have hrW : r < W.heap.size := hR1.lt
    clear hR1 hO1 HC
    go_region_law ((refine step_append_lies _ (by rfl) _ _ _ (by rfl) 0 46 i0 _ 3 24 Try.underlying43 (unhide HI) (unhide Z0) (unhide Z1) (unhide Z2) rfl (by omega) _ _ _ (by rfl) ((unhide HO1).drew.alloc _) ⟨W.heap.size, 0, none⟩ 1 1 [.int .i64 to, .int .i64 frm, .int .i64 z] (by rfl) (by rfl) (World.news_of_block (heap_alloc_new _ _)) (by simp [Value.oneCell']) (by omega) (by have := unhide HL; unfold maxLen; omega) (by have := unhide HL; omega) (by omega) (W.heap.size + 1) (by simp) ?_; intro g3 cap3 w3 own3 hgrow hat3 hlt3; have q7 := (owe_keep (unhide HR1) hgrow (unhide HNE)).cells.2.2.2.2.2.2; have qf := (owe_keep (unhide HR1) hgrow (unhide HNE)).frozen 7))
    all_goals
      have HFI := hide (owe_last (o := ⟨to, frm, z⟩) (unhide HB) (unhide HR1) (unhide HO1) (unhide HO) hgrow (unhide HNE) own3 hat3 hrl)
      clear own3 hgrow hat3
      go_wp2
      go_end0
      exact unhide HFI
  · rw [if_neg hlt] at hab
    injection hab with h1 h2 h3
    subst h1 h2 h3
    have HB := hide (unhide HFIN frm to shop trace amt day)
    have hR1 : RB (w.alloc (.cells #[.int .i64 frm, .int .i64 to, .int .i64 shop, .int .i64 trace, .int .i64 amt, .int .i64 day] 34)) r D vL t vO := (unhide HR).of_block (Below.heap_alloc _ _ _ hrl)
    have hO1 := (unhide HO).alloc (.cells #[.int .i64 frm, .int .i64 to, .int .i64 shop, .int .i64 trace, .int .i64 amt, .int .i64 day] 34)
    have c0 : (w.alloc (.cells #[.int .i64 frm, .int .i64 to, .int .i64 shop, .int .i64 trace, .int .i64 amt, .int .i64 day] 34)).cell? ⟨w.heap.size, 0, none⟩ = some (.int .i64 frm) := newC w _ _ 0
    have c1 : (w.alloc (.cells #[.int .i64 frm, .int .i64 to, .int .i64 shop, .int .i64 trace, .int .i64 amt, .int .i64 day] 34)).cell? ⟨w.heap.size, 1, none⟩ = some (.int .i64 to) := newC w _ _ 1
    have HC := hide (And.intro c0 (And.intro c1 (And.intro hR1 hO1)))
    clear c0 c1 hR1 hO1
    go_enter Try.func36, Try.ntmps36
    go_wp2_with fail
    generalize (w.alloc (.cells #[.int .i64 frm, .int .i64 to, .int .i64 shop, .int .i64 trace, .int .i64 amt, .int .i64 day] 34)) = W at *
    obtain ⟨c0, c1, hR1, hO1⟩ := unhide HC
    obtain ⟨_, _, _, _, _, _, b7⟩ := hR1.cells
    have HR1 := hide hR1; have HO1 := hide hO1
    have hrW : r < W.heap.size := hR1.lt
    clear hR1 hO1 HC
    go_region_law ((refine step_append_lies _ (by rfl) _ _ _ (by rfl) 0 46 i0 _ 3 24 Try.underlying43 (unhide HI) (unhide Z0) (unhide Z1) (unhide Z2) rfl (by omega) _ _ _ (by rfl) ((unhide HO1).drew.alloc _) ⟨W.heap.size, 0, none⟩ 1 1 [.int .i64 frm, .int .i64 to, .int .i64 n] (by rfl) (by rfl) (World.news_of_block (heap_alloc_new _ _)) (by simp [Value.oneCell']) (by omega) (by have := unhide HL; unfold maxLen; omega) (by have := unhide HL; omega) (by omega) (W.heap.size + 1) (by simp) ?_; intro g3 cap3 w3 own3 hgrow hat3 hlt3; have q7 := (owe_keep (unhide HR1) hgrow (unhide HNE)).cells.2.2.2.2.2.2; have qf := (owe_keep (unhide HR1) hgrow (unhide HNE)).frozen 7))
    all_goals
      have HFI := hide (owe_last (o := ⟨frm, to, n⟩) (unhide HB) (unhide HR1) (unhide HO1) (unhide HO) hgrow (unhide HNE) own3 hat3 hrl)
      clear own3 hgrow hat3
      go_wp2
      go_end0
      exact unhide HFI
end Go.Proofs.Ytbgplapbdghdmaa
