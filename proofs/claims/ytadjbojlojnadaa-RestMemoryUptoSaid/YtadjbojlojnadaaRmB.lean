/- What was answered may be spoilt. -/
import Derived.Test.YtadjbojlojnadaaRmA
import Derived.Test.YtadjbojlojnadaaClrT
import Derived.Test.YtadjbojlojnadaaShK
namespace Go.Proofs.Ytadjbojlojnadaa
open Go.RowKit
set_option linter.unusedVariables false
set_option linter.unusedSimpArgs false
set_option maxRecDepth 100000

theorem cellAny {w : World} {g : Nat} {cur : Array Value} {e : TypeId} (h : w.heap[g]? = some (.cells cur e (0, 0))) (j : Nat) (hj : j < cur.size) : w.cell? ⟨g, j, none⟩ = some (cur[j]) := by
  simp [World.cell?, h, hj]
theorem frozAny {w : World} {g : Nat} {cur : Array Value} {e : TypeId} (h : w.heap[g]? = some (.cells cur e (0, 0))) (j : Nat) : w.frozen? ⟨g, j, none⟩ = false := by
  simp [World.frozen?, h]
theorem setAny {w : World} {g : Nat} {cur : Array Value} {e : TypeId} (h : w.heap[g]? = some (.cells cur e (0, 0))) (j : Nat) (v : Value) : (w.setCell ⟨g, j, none⟩ v).heap[g]? = some (.cells (cur.setIfInBounds j v) e (0, 0)) := by
  simp [World.setCell, Array.getElem?_modify, h]
set_option maxHeartbeats 2000000 in
theorem spoil_any (l : List Ow) (v : Value) (base : Nat) (w : World) (h : OwnR w base 65 3 cellsO v l) :
    Calls Try.prog 18 #[v] w fun e w' => e = .returned (.tuple #[]) ∧ Chg (fun x => v.ownBlock = some x) w w' := by
  have hbx := (Below.refl w.heap.size w).alloc (Nat.le_refl _) (.cells #[.int .i64 0, .int .i64 0, .int .i64 0] 65)
  rcases h.2 with ⟨rfl, hn⟩ | ⟨g, cap, cur, rfl, hg, hb, h1, h2, h3, h4⟩
  · have HB := hide hbx
    clear hbx h
    go_enter Try.func18, Try.ntmps18
    go_wp2
    go_loopw [10] (fun i wr => i = .int .i64 0 ∧ wr = w.alloc (.cells #[.int .i64 0, .int .i64 0, .int .i64 0] 65)) (fun _ _ => 0)
    case atStart => exact ⟨rfl, rfl⟩
    case round =>
      obtain ⟨rfl, hwr⟩ := hrel
      rw [hwr]
      clear hwr
      go_wp2
      go_end0
      exact ⟨rfl, Chg.of_below _ (unhide HB)⟩
  · have hgl : g < w.heap.size := blk_lt hb
    have hcap : (cap : Int) ≤ 9223372036854775807 := by
      have : (maxLen : Int) ≤ 9223372036854775807 := by decide
      omega
    have hle : l.length ≤ cap := h1
    have hz : (w.alloc (.cells #[.int .i64 0, .int .i64 0, .int .i64 0] 65)).heap[w.heap.size]? = some (.cells #[.int .i64 0, .int .i64 0, .int .i64 0] 65) := alloc_at w _
    have hb' := (Below.heap_alloc w (.cells #[.int .i64 0, .int .i64 0, .int .i64 0] 65) g hgl).trans hb
    have HS := hide (And.intro hbx (And.intro hz hb')); have H3 := hide h3
    clear hbx h hb h2 h4 hz hb' h3
    go_enter Try.func18, Try.ntmps18
    go_wp2
    go_loopw [10] (fun i wr => ∃ (k : Nat) (cu : Array Value), k ≤ cap ∧ i = .int .i64 k ∧ cu.size = cap * 3 ∧ wr.heap[g]? = some (.cells cu 65 (0, 0)) ∧ wr.heap[w.heap.size]? = some (.cells #[.int .i64 0, .int .i64 0, .int .i64 0] 65) ∧ Chg (fun x => x = g) w wr) (fun i _ => cap - (intOf i).toNat)
    case atStart => exact ⟨0, cur, Nat.zero_le _, rfl, unhide H3, (unhide HS).2.2, (unhide HS).2.1, Chg.of_below _ (unhide HS).1⟩
    case round =>
      obtain ⟨k, cu, hk, rfl, hcs, hgb, hzb, hch⟩ := hrel
      by_cases hlt : k < cap
      · have hki : (k : Int) < (cap : Int) := by omega
        have z0 : wr.cell? ⟨w.heap.size, 0, none⟩ = some (.int .i64 0) := by simp [World.cell?, hzb]
        have z1 : wr.cell? ⟨w.heap.size, 1, none⟩ = some (.int .i64 0) := by simp [World.cell?, hzb]
        have z2 : wr.cell? ⟨w.heap.size, 2, none⟩ = some (.int .i64 0) := by simp [World.cell?, hzb]
        have y0 := cellAny hgb (k * 3) (by omega)
        have y1 := cellAny hgb (k * 3 + 1) (by omega)
        have y2 := cellAny hgb (k * 3 + 2) (by omega)
        have f0 := frozAny hgb (k * 3); have f1 := frozAny hgb (k * 3 + 1); have f2 := frozAny hgb (k * 3 + 2)
        generalize cu[k * 3] = e0 at *
        generalize cu[k * 3 + 1] = e1 at *
        generalize cu[k * 3 + 2] = e2 at *
        have G3 := hide (setAny (setAny (setAny hgb (k * 3) (.int .i64 0)) (k * 3 + 1) (.int .i64 0)) (k * 3 + 2) (.int .i64 0))
        have hgw : w.heap.size ≠ g := by omega
        have Z3 : Hid ((((wr.setCell ⟨g, k * 3, none⟩ (.int .i64 0)).setCell ⟨g, k * 3 + 1, none⟩ (.int .i64 0)).setCell ⟨g, k * 3 + 2, none⟩ (.int .i64 0)).heap[w.heap.size]? = some (.cells #[.int .i64 0, .int .i64 0, .int .i64 0] 65)) := hide (by
          rw [Below.heap_setCell _ _ _ _ hgw, Below.heap_setCell _ _ _ _ hgw, Below.heap_setCell _ _ _ _ hgw]; exact hzb)
        have C3 : Hid (Chg (fun x => x = g) w (((wr.setCell ⟨g, k * 3, none⟩ (.int .i64 0)).setCell ⟨g, k * 3 + 1, none⟩ (.int .i64 0)).setCell ⟨g, k * 3 + 2, none⟩ (.int .i64 0))) := hide (((hch.trans (Chg.setCell _ _ _) (fun x hx => .inl hx)).trans (Chg.setCell _ _ _) (fun x hx => .inl hx)).trans (Chg.setCell _ _ _) (fun x hx => .inl hx))
        have HCS := hide hcs
        clear hgb hzb hch hcs
        go_wp2
        go_roundw
        case rel => exact ⟨k + 1, _, by omega, by go_num, by simp; exact unhide HCS, unhide G3, unhide Z3, unhide C3⟩
        case measure => simp [intOf]; omega
      · have C3 := hide hch
        clear hgb hzb hch hcs
        go_wp2
        go_end0
        exact ⟨rfl, (unhide C3).mono (fun x hx => by subst hx; rfl)⟩
end Go.Proofs.Ytadjbojlojnadaa
