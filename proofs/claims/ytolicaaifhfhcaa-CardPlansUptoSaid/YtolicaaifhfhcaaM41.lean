/- Applications as items, in memory: itemOf and Print of the program. -/
import Derived.Test.YtolicaaifhfhcaaM40
import Derived.Test.YtolicaaifhfhcaaM30
import Derived.Deep.RegionWith
import Derived.Deep.RegionHeld3
import Derived.Deep.DeepCutAuto
namespace Go.Proofs.Ytolicaaifhfhcaa
open Go.RowKit
set_option linter.unusedVariables false

/-- the nine cells of an application's own items -/
def cellsI (x : XApp) : Array Value := #[.int .i64 79, .string x.name, .slice none 0 0, .int .i64 80, .string x.label, .slice none 0 0, .int .i64 135, .string (strOfNums [lastN x]), .slice none 0 0]
theorem or_128 : ∀ f : Fin 16, bits .or .u8 (f.val : Int) 128 = (f.val : Int) + 128 := by decide +kernel
theorem or_prio (p : Int) (h0 : 0 ≤ p) (h1 : p ≤ 15) : bits .or .u8 p 128 = p + 128 := by
  obtain ⟨k, rfl⟩ := Int.eq_ofNat_of_zero_le h0
  exact or_128 ⟨k, by omega⟩
theorem new_blockP (w : World) (o : Obj) (g : Nat) (hg : g = w.heap.size) : (w.alloc o).heap[g]? = some o := by
  subst hg
  exact heap_alloc_new w o
theorem one_byteP (g : Nat) (w : World) (x : Int) (hg : g = w.heap.size) :
    (convert 55 9 (.slice (some ⟨g, 0, none⟩) 1 1)).run Try.prog (w.alloc (.cells #[.int .u8 x] 5)) = .ok (.string (strOfNums [x])) (w.alloc (.cells #[.int .u8 x] 5)) := by
  subst hg
  exact run_convert_bytes_arg (P := Try.prog) _ 55 5 Try.underlying55 Try.underlying5 w.heap.size 0 1 1 [x] rfl (fun i hi => by
    obtain rfl : i = 0 := by simp at hi; omega
    rw [Nat.add_zero, cell_of_row _ _ 0 _ _ _ (heap_alloc_new w _)]; rfl) 9 Try.underlying9

theorem own_blockP {w : World} {base g n size : Nat} {e : TypeId} {xs : List Value} (h : w.ownsRow base e size (.slice (some ⟨g, 0, none⟩) n n) n xs) : ∃ cur : Array Value, w.heap[g]? = some (.cells cur e (0, 0)) ∧ cur.size = n * size := by
  rcases h.2 with ⟨h1, h2⟩ | ⟨g', cap, cur, h1, hB, hh, hle, hm, hsz, htk⟩
  · simp at h1
  · simp only [Value.slice.injEq, Option.some.injEq, Addr.mk.injEq, and_true, true_and] at h1
    obtain ⟨rfl, rfl⟩ := h1
    exact ⟨cur, hh, by first | exact hsz | (rw [hsz]; done) | omega⟩
theorem block_ltQ {w : World} {g : Nat} {o : Obj} (h : w.heap[g]? = some o) : g < w.heap.size := by
  rcases Nat.lt_or_ge g w.heap.size with h1 | h1
  · exact h1
  · rw [Array.getElem?_eq_none h1] at h; cases h
theorem set_rowQ {w : World} {g j : Nat} {cs : Array Value} {e : TypeId} {fr : Nat × Nat} {v : Value} (h : w.heap[g]? = some (.cells cs e fr)) : (w.setCell ⟨g, j, none⟩ v).heap[g]? = some (.cells (cs.setIfInBounds j v) e fr) := by
  simp [World.setCell, Array.getElem?_modify, h]
theorem get_setS (C : Array Value) (i : Nat) (v : Value) (h : i < C.size) : (C.setIfInBounds i v)[i]? = some v := by simp [h]
theorem get_setO (C : Array Value) (i j : Nat) (v : Value) (h : i ≠ j) : (C.setIfInBounds i v)[j]? = C[j]? := by simp [h]
/-- what Print answers -/
def appsS (l : List XApp) : ByteArray := if appsE l = 0 then appsT l else ⟨#[]⟩
theorem ret_pairQ {s t : ByteArray} {a b : Int} (h1 : s = t) (h2 : a = b) : Ending.returned (.tuple #[.string s, .int .i64 a]) = .returned (.tuple #[.string t, .int .i64 b]) := by rw [h1, h2]
end Go.Proofs.Ytolicaaifhfhcaa
