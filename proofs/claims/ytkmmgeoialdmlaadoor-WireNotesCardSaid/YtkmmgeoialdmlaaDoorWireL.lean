/- What the listed variables hold, out of the row's own condition. -/
import Derived.Test.YtkmmgeoialdmlaaDoorRows
import Derived.Test.YtkmmgeoialdmlaaDoorWireR
import Derived.LaidMore
import Derived.Deep.DeepHandedRow
import Derived.Lib.LaidU8
import Derived.Lib.SmallJoins
namespace Go.Proofs.YtkmmgeoialdmlaaDoor
open Go.RowKit Go.Lib
set_option linter.unusedVariables false
set_option maxRecDepth 100000

theorem pow10_same : (Rows.laid_internal_strconv_uint64pow10 : DataW Unit) = tabData .u64 pow10Tab := by kernel_rfl
def formD (i : Nat) : DataW Unit := .agg [.lit (.int .i64 (fmost (i + 1) : Int)), .lit (.int .i64 (fahead (i + 1) : Int)), .lit (.bool (fdig (i + 1)))]
theorem forms_same : (Rows.laid_pursehouse_wire_forms : DataW Unit) = .agg ((List.range 16).map formD) := by kernel_rfl
theorem cellsOfForm : Tryd.prog.cellsOf 47 = 3 := by kernel_rfl
theorem cellsOfIntW : Tryd.prog.cellsOf 3 = 1 := by kernel_rfl
theorem cellsOfBoolW : Tryd.prog.cellsOf 4 = 1 := by kernel_rfl
theorem form_elem {w : World} {fuel : Nat} {cs : List Value} {a b : Int} {c : Bool} {p : List MemPlace}
    (h : DataW.trod (fun _ => ()) Tryd.prog w 0 (fun _ => true) false fuel 47 cs = some (.agg [.lit (.int .i64 a), .lit (.int .i64 b), .lit (.bool c)], p)) : cs = [.int .i64 a, .int .i64 b, .bool c] := by
  obtain ⟨xs, k', _, hagg, hsz, hlen, hq⟩ := DataW.trod_struct Tryd.underlying47 h
  rw [cellsOfForm] at hsz
  match cs, hsz with
  | [c0, c1, c2], _ =>
    match xs, hlen, hagg with
    | [y0, y1, y2], _, hagg =>
      have h0 : DataW.trod (fun _ => ()) Tryd.prog w 0 (fun _ => true) false k' 3 [c0] = some y0 := by simpa [cellsOfIntW, cellsOfBoolW] using hq 0 _ rfl
      have h1 : DataW.trod (fun _ => ()) Tryd.prog w 0 (fun _ => true) false k' 3 [c1] = some y1 := by simpa [cellsOfIntW, cellsOfBoolW] using hq 1 _ rfl
      have h2 : DataW.trod (fun _ => ()) Tryd.prog w 0 (fun _ => true) false k' 4 [c2] = some y2 := by simpa [cellsOfIntW, cellsOfBoolW] using hq 2 _ rfl
      obtain ⟨z0, e0, g0, _⟩ := DataW.trod_int Tryd.underlying3 h0
      obtain ⟨z1, e1, g1, _⟩ := DataW.trod_int Tryd.underlying3 h1
      obtain ⟨z2, e2, g2⟩ := DataW.trod_bool Tryd.underlying4 h2
      subst g0; subst g1; subst g2
      simp at e0 e1 e2 hagg
      subst e0; subst e1; subst e2
      obtain ⟨⟨rfl, rfl, rfl⟩, _⟩ := hagg
      rfl
theorem forms_of_reads {w : World} (h : VarReads Tryd.prog w "pursehouse/wire.forms" (.agg ((List.range 16).map formD))) : Forms w := by
  intro n h1 h16
  obtain ⟨g, t, cs, fuel, p, hg, hty, hvar, hd⟩ := h
  obtain rfl := Option.some.inj ((show Tryd.prog.globalNamed "pursehouse/wire.forms" = some 0 by kernel_rfl).symm.trans hg)
  obtain rfl := Option.some.inj ((show (Tryd.prog.globals[0]?).map (·.type) = some 76 by kernel_rfl).symm.trans hty)
  obtain ⟨fuel', d, q, hdi, he⟩ := array_elem Tryd.underlying76 hd (n - 1) (by omega)
  rw [List.getElem?_map, List.getElem?_range (by omega), Option.map_some, Option.some.injEq] at hdi
  subst hdi
  rw [cellsOfForm] at he
  have hcs := form_elem he
  have en : n - 1 + 1 = n := by omega
  rw [en] at hcs
  have e0 := congrArg (·[0]?) hcs
  have e1 := congrArg (·[1]?) hcs
  have e2 := congrArg (·[2]?) hcs
  simp only [List.getElem?_take, List.getElem?_drop] at e0 e1 e2
  refine ⟨?_, ?_, ?_⟩
  · rw [World.var?_cell hg hvar (3 * (n - 1)), ← Array.getElem?_toList]
    simpa [Nat.mul_comm] using e0
  · rw [World.var?_cell hg hvar (3 * (n - 1) + 1), ← Array.getElem?_toList]
    simpa [Nat.mul_comm] using e1
  · rw [World.var?_cell hg hvar (3 * (n - 1) + 2), ← Array.getElem?_toList]
    simpa [Nat.mul_comm] using e2
theorem cellsU64 : Tryd.prog.cellsOf 111 = 1 := by kernel_rfl
theorem cellsTab20 : Tryd.prog.cellsOf 138 = 20 := by kernel_rfl
theorem pow_of_reads {w : World} (h : VarReads Tryd.prog w "internal/strconv.uint64pow10" (tabData .u64 pow10Tab)) : Pow10 w := by
  obtain ⟨g, t, cs, fuel, p, hg, hty, hvar, hd⟩ := h
  obtain rfl := Option.some.inj (gPow.symm.trans hg)
  obtain rfl := Option.some.inj ((show (Tryd.prog.globals[3]?).map (·.type) = some 138 by kernel_rfl).symm.trans hty)
  have hcs := cells_of_tab Tryd.underlying138 Tryd.underlying111 cellsU64 cellsTab20 hd
  unfold Pow10 TabIs
  rw [hvar, ← hcs]
theorem iface_cell {w : World} {fuel : Nat} {t : TypeId} {cs : List Value} {x : DataW Unit × List MemPlace} {ms : _} (ht : Tryd.prog.underlying t = some (.interface ms))
    (h : DataW.trod (fun _ => ()) Tryd.prog w 0 (fun _ => true) false fuel t cs = some x) : ∃ v, cs = [v] ∧ IsErr v := by
  cases fuel with
  | zero => simp [DataW.trod] at h
  | succ fuel =>
    simp only [DataW.trod, ht] at h
    match cs, h with
    | [.nilIface], _ => exact ⟨_, rfl, .inl rfl⟩
    | [.iface u v], _ => exact ⟨_, rfl, .inr ⟨u, v, rfl⟩⟩
theorem err_of_reads {w : World} {n : String} {g : Nat} {d : DataW Unit} (hgn : Tryd.prog.globalNamed n = some g) (hgt : (Tryd.prog.globals[g]?).map (·.type) = some 52) (h : VarReads Tryd.prog w n d) : ∃ v, w.cell? ⟨g, 0, none⟩ = some v ∧ IsErr v := by
  obtain ⟨g', t, cs, fuel, p, hg, hty, hvar, hd⟩ := h
  obtain rfl := Option.some.inj (hgn.symm.trans hg)
  obtain rfl := Option.some.inj (hgt.symm.trans hty)
  obtain ⟨v, hv, he⟩ := iface_cell Tryd.underlying52 hd
  refine ⟨v, ?_, he⟩
  rw [World.var?_cell hg hvar 0, ← Array.getElem?_toList, hv]
  rfl
end Go.Proofs.YtkmmgeoialdmlaaDoor
