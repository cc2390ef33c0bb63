/- Walk of the document's own. -/
import Derived.Test.YtadjbojlojnadaaWalkY
import Derived.Test.YtadjbojlojnadaaRApp
namespace Go.Proofs.Ytadjbojlojnadaa
open Go.RowKit
set_option linter.unusedVariables false



structure RIn (v : XWays) (s : XScene) (w : World) (wr : World) : Prop where
  bel : Below w.heap.size w wr
  ws : WsAt wr w.heap.size v
  sc : ScAt wr (w.heap.size + 1) s
  k : KAt wr (w.heap.size + 1 + 1) (0, false, 0)
theorem RIn.below {v : XWays} {s : XScene} {w : World} {wr wr' : World} (h : RIn v s w wr) (hb : Below wr.heap.size wr wr') : RIn v s w wr' :=
  ⟨h.bel.trans (hb.mono h.bel.size), h.ws.below hb, h.sc.below hb, h.k.below hb⟩
theorem inBw_of {l : List XWay} (h : l.any (fun x => !inBw x) = false) {k : Nat} {x : XWay} (hx : l[k]? = some x) : (0 ≤ x.code ∧ x.code ≤ 63) ∧ (0 ≤ x.when ∧ x.when ≤ 7) := by
  have hm : x ∈ l := List.mem_of_getElem? hx
  have := List.any_eq_false.1 h x hm
  simp only [Bool.not_eq_true', Bool.not_eq_false, inBw, decide_eq_true_eq] at this
  exact this

end Go.Proofs.Ytadjbojlojnadaa
