/- Applies of the document's own. -/
import Derived.Test.YtadjbojlojnadaaRWay
namespace Go.Proofs.Ytadjbojlojnadaa
open Go.RowKit
set_option linter.unusedVariables false
set_option linter.unusedSimpArgs false

theorem pick8 (a0 a1 a2 a3 a4 a5 a6 a7 : Bool) (n : Nat) (h : n < 8) :
    ([.bool a0, .bool a1, .bool a2, .bool a3, .bool a4, .bool a5, .bool a6, .bool a7] : List Value)[n]'(by simpa using h) = .bool (([a0, a1, a2, a3, a4, a5, a6, a7] : List Bool).getD n false) := by
  match n, h with
  | 0, _ => rfl
  | 1, _ => rfl
  | 2, _ => rfl
  | 3, _ => rfl
  | 4, _ => rfl
  | 5, _ => rfl
  | 6, _ => rfl
  | 7, _ => rfl
def aboxes (x : XWay) (v : XWays) (s : XScene) (w : World) : World :=
  (((w.alloc (Obj.cells #[.int .i64 x.code, .int .i64 x.when, .bool x.next] 34)).alloc
    (Obj.cells #[.int .i64 v.x, .int .i64 v.y, .slice v.listo v.list.length v.listc] 24)).alloc
    (Obj.cells #[.int .i64 s.amount, .bool s.cash, .slice s.ableo s.able.length s.ablec, .slice s.wello s.well.length s.wellc] 27))

end Go.Proofs.Ytadjbojlojnadaa
