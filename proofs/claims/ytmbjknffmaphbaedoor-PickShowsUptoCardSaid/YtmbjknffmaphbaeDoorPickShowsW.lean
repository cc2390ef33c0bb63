/- The walk of the law on what a display shows. -/
import Derived.Test.YtmbjknffmaphbaeDoorPShw
namespace Go.Proofs.YtmbjknffmaphbaeDoor
open Go.RowKit
set_option linter.unusedVariables false

set_option maxRecDepth 100000 in
set_option maxHeartbeats 2000000 in
theorem walkPickShows (s : ByteArray) (w : World) (hs : s.size ≤ 1048576) (hT : Tabs w) :
    Calls Tryd.prog 3 #[.string s] w fun e w' => e = .returned (.bool true) ∧ Below w.heap.size w w' := by
  have h2 := hT.two
  have N1 := hide (shown_any s w hT (by omega))
  have N2 := hide (fun wx (hb : Below w.heap.size w wx) => rshown_any s wx (hT.below hb h2) (by omega))
  have hct := shown_count (letters (bl s))
  generalize textR (shownL (letters (bl s))) = X at *
  have hcv := fun w' => run_runes_of_string (P := Tryd.prog) w' 9 23 21 X Tryd.underlying9 Tryd.underlying23 Tryd.underlying21 (by omega)
  generalize (Conv.runesFrom X X.size 0 #[]) = rs at *
  have hq : (X.toList == X.toList) = true := by simp
  have hci : (rs.size : Int) ≤ 16 := by omega
  clear hs hT hct
  go_enter Tryd.func3, Tryd.ntmps3
  go_wp2_with fail
  refine (unhide N1).mono ?_
  rintro e w1 ⟨rfl, hb1⟩
  have HB1 := hide hb1
  clear hb1
  go_wp2_with fail
  refine (unhide N2 _ (unhide HB1)).mono ?_
  rintro e w2 ⟨rfl, hb2⟩
  have hbw : Below w.heap.size w w2 := (unhide HB1).trans (hb2.mono (unhide HB1).size)
  have HBW := hide hbw
  clear hb2 hbw
  go_wp2
  go_ret
  exact ⟨by first | rfl | simp, ((unhide HBW).drew.alloc (unhide HBW).size _)⟩
end Go.Proofs.YtmbjknffmaphbaeDoor
