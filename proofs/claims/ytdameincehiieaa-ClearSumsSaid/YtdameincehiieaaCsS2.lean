/- ClearSums: what the arms Post, Judge, Cut of the switch leave. -/
import Derived.Test.YtdameincehiieaaCsS
namespace Go.Proofs.Ytdameincehiieaa
open Go.RowKit Go.WideMaps Go.Maps
set_option linter.unusedVariables false
set_option linter.unusedSimpArgs false
set_option maxRecDepth 100000

theorem GMap.not_step {α : Type} {R : Rdr α} {K : TypeId} {w : World} {m g : Nat} {f : Int → Int → Option α} {ks : List (Int × Int)} {s : XStep} (h : GMap R K w m f ks) (hX : w.heap[g]? = some (stepObj s)) : g ≠ m := by
  rintro rfl
  obtain ⟨D, ⟨es, clock, hh, _⟩, _⟩ := h
  rw [hX] at hh
  unfold stepObj at hh
  cases hh
section
variable {w wx y y' : World} {F F1 : Nat → Prop} {b g : Nat} {S : Clr} {B : Bks} {H : Hld} {s : XStep}
/-- a Post that is taken -/
theorem CsArm.posted {p : Pst} {ks : List (Int × Int)} (hW : CsW w wx F b S B H) (hV : CsV S H) (hX : wx.heap[g]? = some (stepObj s)) (hF : ∀ x, F x → x ≠ g) (hs : s.dO = 0) (he : (postS S p).1 = 0)
    (z1 : CAt y F1 b (postS S p).2) (z2 : Chg F wx y) (z3 : ∀ x, F1 x → F x ∨ wx.heap.size ≤ x)
    (hg : GMap rdP 60 y' B.p (upd2 H.G p.shop p.trace (some p)) ks) (hC : y.grownBy y' (some B.p)) : CsArm w y' b B g s p.day := by
  have hgl := blk_lt hX
  have hW1 := hW.call z1 z2 z3
  have hX1 : y.heap[g]? = some (stepObj s) := (z2.block g hgl (fun hf => hF g hf rfl)).trans hX
  have hCC := Chg.grown hC
  obtain ⟨k0, g0⟩ := hW1.mp
  have hne := g0.not_step hX1
  have hV1 := hV.post p
  unfold postG at hV1
  rw [if_pos he] at hV1
  refine ⟨F1, _, _, hW1.putP hg hCC, hV1, (hCC.block g (blk_lt hX1) hne).trans hX1, ?_, fun x hx => ?_⟩
  · rw [if_neg (fun hh => by have := hh.1; omega), post_last, if_pos (.inl he)]
  · rcases z3 x hx with e | e
    · exact hF x e
    · omega
/-- a Post that is not -/
theorem CsArm.notPosted {p : Pst} (hW : CsW w wx F b S B H) (hV : CsV S H) (hX : wx.heap[g]? = some (stepObj s)) (hF : ∀ x, F x → x ≠ g) (hs : s.dO = 0) (he : (postS S p).1 ≠ 0)
    (z1 : CAt y F1 b (postS S p).2) (z2 : Chg F wx y) (z3 : ∀ x, F1 x → F x ∨ wx.heap.size ≤ x) : CsArm w y b B g s (if (postS S p).1 = 6 ∨ (postS S p).1 = 8 then p.day else S.last) := by
  have hgl := blk_lt hX
  have hV1 := hV.post p
  unfold postG at hV1
  rw [if_neg he] at hV1
  refine ⟨F1, _, H, hW.call z1 z2 z3, hV1, (z2.block g hgl (fun hf => hF g hf rfl)).trans hX, ?_, fun x hx => ?_⟩
  · rw [if_neg (fun hh => by have := hh.1; omega), post_last]
    by_cases h6 : (postS S p).1 = 6 ∨ (postS S p).1 = 8
    · rw [if_pos h6, if_pos (.inr h6)]
    · rw [if_neg h6, if_neg (fun hh => hh.elim he h6)]
  · rcases z3 x hx with e | e
    · exact hF x e
    · omega
/-- a judgement that is taken -/
theorem CsArm.judged {d : Ded} {shop trace : Int} {ks : List (Int × Int)} (hW : CsW w wx F b S B H) (hV : CsV S H) (hX : wx.heap[g]? = some (stepObj s)) (hF : ∀ x, F x → x ≠ g) (hw : 4 ≤ d.what ∧ d.what ≤ 5) (hs : 1 ≤ s.dO ∧ s.dO ≤ 4) (hd : d.day = s.day) (he : (doS S shop trace d).1 = 0)
    (z1 : CAt y F1 b (doS S shop trace d).2) (z2 : Chg F wx y) (z3 : ∀ x, F1 x → F x ∨ wx.heap.size ≤ x)
    (hg : GMap rdI 60 y' B.j (upd2 H.J shop trace (some ((H.J shop trace).getD 0 + 1))) ks) (hCC : Chg (fun x => x = B.j) y y') : CsArm w y' b B g s S.last := by
  have hgl := blk_lt hX
  have hW1 := hW.call z1 z2 z3
  have hX1 : y.heap[g]? = some (stepObj s) := (z2.block g hgl (fun hf => hF g hf rfl)).trans hX
  obtain ⟨k0, g0⟩ := hW1.mj
  have hne := g0.not_step hX1
  have hV1 := hV.judge shop trace d hw
  unfold doJ at hV1
  rw [if_pos ⟨hw.1, he⟩] at hV1
  refine ⟨F1, _, _, hW1.putJ hg hCC, hV1, (hCC.block g (blk_lt hX1) hne).trans hX1, ?_, fun x hx => ?_⟩
  · rw [do_last hV.inv.ok, hd]
    by_cases e : S.last ≤ s.day ∧ s.day ≤ 65535
    · rw [if_pos ⟨hs.1, hs.2, e.1, e.2⟩, if_pos e]
    · rw [if_neg (fun hh => e hh.2.2), if_neg e]
  · rcases z3 x hx with e | e
    · exact hF x e
    · omega
theorem CsArm.notJudged {d : Ded} {shop trace : Int} (hW : CsW w wx F b S B H) (hV : CsV S H) (hX : wx.heap[g]? = some (stepObj s)) (hF : ∀ x, F x → x ≠ g) (hw : 4 ≤ d.what ∧ d.what ≤ 5) (hs : 1 ≤ s.dO ∧ s.dO ≤ 4) (hd : d.day = s.day) (he : (doS S shop trace d).1 ≠ 0)
    (z1 : CAt y F1 b (doS S shop trace d).2) (z2 : Chg F wx y) (z3 : ∀ x, F1 x → F x ∨ wx.heap.size ≤ x) : CsArm w y b B g s S.last := by
  have hgl := blk_lt hX
  have hV1 := hV.judge shop trace d hw
  unfold doJ at hV1
  rw [if_neg (fun hh => he hh.2)] at hV1
  refine ⟨F1, _, H, hW.call z1 z2 z3, hV1, (z2.block g hgl (fun hf => hF g hf rfl)).trans hX, ?_, fun x hx => ?_⟩
  · rw [do_last hV.inv.ok, hd]
    by_cases e : S.last ≤ s.day ∧ s.day ≤ 65535
    · rw [if_pos ⟨hs.1, hs.2, e.1, e.2⟩, if_pos e]
    · rw [if_neg (fun hh => e hh.2.2), if_neg e]
  · rcases z3 x hx with e | e
    · exact hF x e
    · omega
end
end Go.Proofs.Ytdameincehiieaa
