/- ClearSums: what an arm of the switch leaves. -/
import Derived.Test.YtdameincehiieaaCsR
namespace Go.Proofs.Ytdameincehiieaa
open Go.RowKit Go.WideMaps Go.Maps
set_option linter.unusedVariables false
set_option linter.unusedSimpArgs false
set_option maxRecDepth 100000

/-- behind the switch: g the step's block, d' the law's day -/
def CsArm (w wx : World) (b : Nat) (B : Bks) (g : Nat) (s : XStep) (d' : Int) : Prop :=
  ∃ (F' : Nat → Prop) (S' : Clr) (H' : Hld), CsW w wx F' b S' B H' ∧ CsV S' H' ∧ wx.heap[g]? = some (stepObj s) ∧ (if 1 ≤ s.dO ∧ s.dO ≤ 4 ∧ d' ≤ s.day ∧ s.day ≤ 65535 then s.day else d') = S'.last ∧ ∀ x, F' x → x ≠ g
/-- a deed that is no judgement -/
theorem CsV.deed {S : Clr} {H : Hld} (h : CsV S H) (shop trace : Int) (d : Ded) (hw : 1 ≤ d.what ∧ d.what ≤ 3) : CsV (doS S shop trace d).2 H := by
  have := h.inv.deed shop trace d ⟨hw.1, by omega⟩
  unfold doJ at this
  rw [if_neg (fun hh => by have := hh.1; omega)] at this
  exact ⟨this, h.jk, h.ok⟩
theorem CsArm.deed {w wx y : World} {F F1 : Nat → Prop} {b g : Nat} {S : Clr} {B : Bks} {H : Hld} {s : XStep} {shop trace : Int} {d : Ded} (hW : CsW w wx F b S B H) (hV : CsV S H) (hX : wx.heap[g]? = some (stepObj s)) (hF : ∀ x, F x → x ≠ g) (hw : 1 ≤ d.what ∧ d.what ≤ 3) (hs : 1 ≤ s.dO ∧ s.dO ≤ 4) (hd : d.day = s.day)
    (z1 : CAt y F1 b (doS S shop trace d).2) (z2 : Chg F wx y) (z3 : ∀ x, F1 x → F x ∨ wx.heap.size ≤ x) : CsArm w y b B g s S.last := by
  have hgl := blk_lt hX
  refine ⟨F1, _, H, hW.call z1 z2 z3, hV.deed shop trace d hw, (z2.block g hgl (fun hf => hF g hf rfl)).trans hX, ?_, fun x hx => ?_⟩
  · rw [do_last hV.inv.ok, hd]
    by_cases e : S.last ≤ s.day ∧ s.day ≤ 65535
    · rw [if_pos ⟨hs.1, hs.2, e.1, e.2⟩, if_pos e]
    · rw [if_neg (fun hh => e hh.2.2), if_neg e]
  · rcases z3 x hx with e | e
    · exact hF x e
    · omega
/-- a Post behind which the law's posted has been put, or need not be -/
theorem CsV.post {S : Clr} {H : Hld} (h : CsV S H) (p : Pst) : CsV (postS S p).2 { H with G := postG H.G (postS S p).1 p } := by
  refine ⟨h.inv.post p, fun x y hx => ?_, h.ok⟩
  have h1 := h.jk x y hx
  show (postG H.G (postS S p).1 p x y).isSome = true
  unfold postG
  split
  · by_cases e : x = p.shop ∧ y = p.trace
    · rw [e.1, e.2, upd2_at]; rfl
    · rw [upd2_off _ _ _ _ e]; exact h1
  · exact h1
/-- a judgement -/
theorem CsV.judge {S : Clr} {H : Hld} (h : CsV S H) (shop trace : Int) (d : Ded) (hw : 4 ≤ d.what ∧ d.what ≤ 5) : CsV (doS S shop trace d).2 { H with J := doJ H.J (doS S shop trace d).1 d.what shop trace } := by
  have hi := h.inv.deed shop trace d ⟨by omega, hw.2⟩
  refine ⟨hi, fun x y hx => ?_, h.ok⟩
  have hx' : (doJ H.J (doS S shop trace d).1 d.what shop trace x y).isSome = true := hx
  unfold doJ at hx'
  by_cases e : 4 ≤ d.what ∧ (doS S shop trace d).1 = 0
  · rw [if_pos e] at hx'
    by_cases e2 : x = shop ∧ y = trace
    · obtain ⟨rfl, rfl⟩ := e2
      have h1 := hi.jd x y
      unfold doJ at h1
      rw [if_pos e, upd2_at] at h1
      have h2 := h.inv.jd x y
      rw [h2] at h1
      have hj : jdg (doS S x y d).2.L x y = true := by
        cases hq : jdg (doS S x y d).2.L x y with
        | true => rfl
        | false =>
          rw [hq] at h1
          cases hz : jdg S.L x y <;> rw [hz] at h1 <;> simp at h1
      obtain ⟨k, hk, hkk⟩ := List.any_eq_true.1 hj
      have hkey : keyIs x y k = true := by
        have : keyIs x y k = true ∧ decide (k.c.st = 6) = true := by simpa using hkk
        exact this.1
      show (H.G x y).isSome = true
      rw [hi.gp x y]
      cases hf : (doS S x y d).2.L.find? (keyIs x y) with
      | none => exact absurd hkey (by simpa using List.find?_eq_none.1 hf k hk)
      | some k' => rfl
    · rw [upd2_off _ _ _ _ e2] at hx'
      exact h.jk x y hx'
  · rw [if_neg e] at hx'
    exact h.jk x y hx'
end Go.Proofs.Ytdameincehiieaa
