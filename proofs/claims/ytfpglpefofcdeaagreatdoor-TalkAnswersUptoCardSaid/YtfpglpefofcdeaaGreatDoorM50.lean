/- A file read, by the document's own: FileOf. -/
import Derived.Test.YtfpglpefofcdeaaGreatDoorM49
namespace Go.Proofs.YtfpglpefofcdeaaGreatDoor
open Go.RowKit

theorem rfileOf_any (s : ByteArray) (w : World) (hs : s.size ≤ 65535) :
    Calls Tryz.prog 31 #[.string s] w fun e w' => (∃ f, e = .returned (.tuple #[.agg (flC f), .bool (okP s)]) ∧ FlOK w' f ∧ (okP s = true → f.strip = flP s) ∧ ∀ p, f.ro = some p → w.heap.size < p.block) ∧ Below w.heap.size w w' := by
  by_cases hc : ∃ l, cutG 65536 s = some l ∧ fiveB l = true
  · obtain ⟨l, h1, h2⟩ := hc
    obtain ⟨p0, p1, p2, p3, p4, rfl, _⟩ := five_parts h2
    refine (rfileOf_yes s p0 p1 p2 p3 p4 w hs h1 h2).mono ?_
    rintro e w' ⟨⟨f, he, h3, h4, h5⟩, hb⟩
    exact ⟨⟨f, he, h3, fun _ => h4, h5⟩, hb⟩
  · have h : ∀ l, cutG 65536 s = some l → fiveB l = false := fun l hl => by
      cases hq : fiveB l with
      | false => rfl
      | true => exact absurd ⟨l, hl, hq⟩ hc
    rw [okP_no h]
    refine (rfileOf_no s w hs h).mono ?_
    rintro e w' ⟨rfl, hb⟩
    exact ⟨⟨flZ, rfl, (anNil_ok w').fl, (fun h => by cases h), (fun p hp => by cases hp)⟩, hb⟩
end Go.Proofs.YtfpglpefofcdeaaGreatDoor
