/- A book's Put: what the append of a place does. -/
import Derived.Test.YtbiipeapcclbkaaBkZ1
import Derived.Deep.AppendLies
namespace Go.Proofs.Ytbiipeapcclbkaa
open Go.RowKit Go.Shelf
set_option linter.unusedVariables false
set_option linter.unusedSimpArgs false
set_option maxRecDepth 100000

theorem infoPl : (Try.prog.info? 62).map (fun i => (i.zero, i.size, i.bytes)) = some (some (.agg #[.int .i64 0, .int .i64 0, .int .i64 0, .string ⟨#[]⟩, .int .i64 0]), 5, 48) := by kernel_rfl
section
variable {W w3 : World} {B bb mb : Nat} {v pl : Value} {M : Mm} {L : List En}
theorem grown_chg {W w3 : World} {o : Option Nat} (hg : W.grownBy w3 o) : Chg (fun x => o = some x) W w3 := ⟨hg.os, hg.tape, hg.output, hg.size, fun k hk hn => hg.block k hk (fun e => hn e.symm)⟩
theorem put_keep {obj : Obj} (hs : StoAt W B bb mb v M pl) (hpF : ∀ x, pl.ownBlock = some x → ¬ stoF bb mb v x) (hg : (W.drew.alloc obj).grownBy w3 pl.ownBlock) : StoAt w3 B bb mb v M pl :=
  (hs.below ((Below.refl W.heap.size W).drew.alloc (Nat.le_refl _) obj)).chg (grown_chg hg) hpF
theorem put_last {obj : Obj} {e : En} {g cap : Nat} (hs : StoAt W B bb mb v M pl) (hF : ∀ x, stoF bb mb v x → x < W.heap.size) (hpF : ∀ x, pl.ownBlock = some x → ¬ stoF bb mb v x) (hg : (W.drew.alloc obj).grownBy w3 pl.ownBlock)
    (own : w3.ownsRow B 62 5 (.slice (some ⟨g, 0, none⟩) ((plsL L).length + 1) cap) ((plsL L).length + 1) (rowC cellsPl (plsL L) ++ cellsPl (L.length + 1, e, posL L))) (hat : pl.ownBlock = some g ∨ g = W.heap.size + 1)
    (hok : ∀ x ∈ L, okEn x) (he : okEn e) (hp : posL L + wid e ≤ 100000) :
    BookAt (w3.setCell ⟨bb, 2, none⟩ (.slice (some ⟨g, 0, none⟩) ((plsL L).length + 1) cap)) B bb mb v M (.slice (some ⟨g, 0, none⟩) ((plsL L).length + 1) cap) (L ++ [e]) ∧ Chg (bkF bb mb v pl) W (w3.setCell ⟨bb, 2, none⟩ (.slice (some ⟨g, 0, none⟩) ((plsL L).length + 1) cap)) := by
  have h3 := put_keep hs hpF hg
  have hgF : ¬ stoF bb mb v g := fun hf => by
    rcases hat with hat | hat
    · exact hpF g hat hf
    · have := hF g hf; omega
  have o3 : OwnR w3 B 62 5 cellsPl (.slice (some ⟨g, 0, none⟩) ((plsL L).length + 1) cap) (plsL L ++ [(L.length + 1, e, posL L)]) := OwnR.snoc _ own
  rw [← plsL_snoc] at o3
  refine ⟨⟨⟨?_, h3.mem.chg (Chg.setCell w3 ⟨bb, 2, none⟩ _) (fun x hx hm => ?_), h3.bm, h3.bv⟩, o3.other (a := ⟨bb, 2, none⟩) (fun e => hgF (.inl (Option.some.inj e))) _, fun x hx => ?_, fun x hx => ?_, ?_⟩, ?_⟩
  · have hb := h3.box
    simp [World.setCell, Array.getElem?_modify, hb]
  · rw [hx] at hm
    exact hm.elim h3.bm h3.bv
  · obtain rfl : g = x := Option.some.inj hx
    exact hgF
  · rcases List.mem_append.1 hx with hx | hx
    · exact hok x hx
    · rw [List.mem_singleton.1 hx]; exact he
  · rw [posL_snoc]; exact hp
  · have h1 : Chg (bkF bb mb v pl) W (W.drew.alloc obj) := Chg.of_below _ ((Below.refl W.heap.size W).drew.alloc (Nat.le_refl _) _)
    exact (h1.trans (grown_chg hg) (fun x hx => .inl (.inr hx))).trans (Chg.setCell w3 _ _) (fun x hx => .inl (.inl (.inl hx)))
end
end Go.Proofs.Ytbiipeapcclbkaa
