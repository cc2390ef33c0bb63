/- A payment begun, by the program: Begin. Made by drafts/genTnG.py. -/
import Derived.Test.YtfpglpefofcdeaaDoorM13
import Derived.Test.YtfpglpefofcdeaaDoorM38
import Derived.Test.YtfpglpefofcdeaaDoorM43
import Derived.Deep.RegionHeld3
import Derived.Great.BuildSlice
namespace Go.Proofs.YtfpglpefofcdeaaDoor
open Go.RowKit
set_option linter.unusedVariables false
set_option linter.unusedSimpArgs false
set_option maxRecDepth 100000

/-- the first command -/
def com1 : XCommand := ⟨1, ⟨#[]⟩, ⟨#[]⟩, 0, ⟨0, 0, 0, false, 0, 0, ⟨#[]⟩⟩, ⟨#[]⟩, ⟨#[]⟩, ⟨#[]⟩⟩
def c1S : ByteArray := commandS com1
theorem c1_same : commandS com1 = tellS 161 [(128, numS 1 1)] 0 ∧ commandE com1 = tellE 161 [(128, numS 1 1)] 0 := ⟨by kernel_rfl, by kernel_rfl⟩
theorem c1E : commandE com1 = 0 := by kernel_rfl
theorem tcmd_any (w : World) : Calls Tryd.prog 30 #[.agg #[.int .i64 1, .string ⟨#[]⟩, .string ⟨#[]⟩, .int .i64 0, .int .i64 0, .int .i64 0, .int .i64 0, .bool false, .int .i64 0, .int .i64 0, .string ⟨#[]⟩, .string ⟨#[]⟩, .string ⟨#[]⟩, .string ⟨#[]⟩]] w fun e w' => e = .returned (.tuple #[.string c1S, .int .i64 0]) ∧ Below w.heap.size w w' := by
  have h := command_any com1 w ⟨⟨by decide, by decide⟩, Nat.zero_le _, Nat.zero_le _, ⟨by decide, by decide⟩, ⟨⟨by decide, by decide⟩, ⟨by decide, by decide⟩, ⟨by decide, by decide⟩, ⟨by decide, by decide⟩, ⟨by decide, by decide⟩, Nat.zero_le _⟩, Nat.zero_le _, Nat.zero_le _, Nat.zero_le _⟩ (by decide)
  rw [c1E] at h
  exact h
theorem rcmd_any (w : World) : Calls Tryd.prog 33 #[.agg #[.int .i64 1, .string ⟨#[]⟩, .string ⟨#[]⟩, .int .i64 0, .int .i64 0, .int .i64 0, .int .i64 0, .bool false, .int .i64 0, .int .i64 0, .string ⟨#[]⟩, .string ⟨#[]⟩, .string ⟨#[]⟩, .string ⟨#[]⟩]] w fun e w' => e = .returned (.tuple #[.string c1S, .int .i64 0]) ∧ Below w.heap.size w w' := by
  have h := rcmdY1 w
  rw [← c1_same.1, ← c1_same.2, c1E] at h
  exact h
theorem infoCom : (Tryd.prog.info? 80).map (·.size) = some 14 := by kernel_rfl
theorem infoStep : (Tryd.prog.info? 46).map (·.size) = some 31 := by kernel_rfl
theorem infoBuy : (Tryd.prog.info? 33).map (·.size) = some 12 := by kernel_rfl
theorem results_cell_tmpN {P : Program} {fn : Func} {p q : Tmp} {ty : TypeId} (h : fn.results = #[.cell p ty, .tmp q]) (tmps : Array Value) (w : World) (g : Nat) (t : TypeId) (cs : Array Value) (fr : Nat × Nat) (d : TypeDesc) (v : Value)
    (hp : tmps.getD p undef = .pointer (some ⟨g, 0, none⟩)) (hq : tmps.getD q undef = v) (hg : w.heap[g]? = some (.cells cs t fr))
    (hu : P.underlying ty = some d) (hd : (match d with | .struct _ | .array _ _ => true | _ => false) = true) (hi : (P.info? ty).map (·.size) = some cs.size) :
    (results fn tmps).run P w = .ok (.tuple #[.agg cs, v]) w := by
  have hp' : tmps[p]?.getD undef = .pointer (some ⟨g, 0, none⟩) := by simpa using hp
  have hq' : tmps[q]?.getD undef = v := by simpa using hq
  simp [results, h, hp', hq', asAddr, run_loadVar_row w g t ty cs fr d hg hu hd hi]
theorem setRow_belowN {B g : Nat} {w w' : World} {cs : Array Value} (h : Below B w w') (hB : B ≤ g) : Below B w (w'.setRow g cs) :=
  ⟨h.os, h.tape, h.output, by simpa [World.setRow] using h.size, fun q hq => by
    rw [← h.block q hq]
    simp only [World.setRow]
    rw [Array.getElem?_modify, if_neg (by omega)]⟩
theorem setRow_otherN {g q : Nat} {w : World} {cs : Array Value} (h : q ≠ g) : (w.setRow g cs).heap[q]? = w.heap[q]? := by
  simp only [World.setRow]
  rw [Array.getElem?_modify, if_neg (by omega)]
theorem keepAN {V : World} {g : Nat} {o p : Obj} (h : V.heap[g]? = some o) : (V.alloc p).heap[g]? = some o := rowN h ((Below.refl _ _).alloc (Nat.le_refl _) _)
theorem setOtherN {W : World} {g i q : Nat} {v : Value} {o : Obj} (h : W.heap[q]? = some o) (hne : q ≠ g) : (W.setCell ⟨g, i, none⟩ v).heap[q]? = some o := by
  simp only [World.setCell]
  rw [Array.getElem?_modify, if_neg (by omega)]
  exact h
set_option maxHeartbeats 2000000 in
theorem begun_any (root : ByteArray) (o1 : Option Addr) (m1 c1 : Nat) (fl fr sh mo lo up : Int) (o2 : Option Addr) (m2 c2 : Nat) (md mn mf : Int) (o3 : Option Addr) (m3 c3 : Nat) (shop : Int) (nm : ByteArray) (am ot dy mt tr dr : Int) (ca sg mu : Bool) (dg no : ByteArray) (co : Option Addr) (cn cc : Nat) (w : World) :
    Calls Tryd.prog 17 #[.agg #[.string root, .slice o1 m1 c1, .int .i64 fl, .int .i64 fr, .int .i64 sh, .int .i64 mo, .int .i64 lo, .int .i64 up, .slice o2 m2 c2, .int .i64 md, .int .i64 mn, .int .i64 mf, .slice o3 m3 c3, .int .i64 shop, .string nm], .agg #[.int .i64 am, .int .i64 ot, .int .i64 dy, .int .i64 mt, .int .i64 tr, .int .i64 dr, .bool ca, .bool sg, .bool mu, .string dg, .string no, .slice co cn cc]] w fun e w' => (∃ g, e = .returned (.pointer (some ⟨g, 0, none⟩)) ∧ w.heap.size ≤ g ∧ w'.heap[g]? = some (.cells #[.string root, .slice o1 m1 c1, .int .i64 fl, .int .i64 fr, .int .i64 sh, .int .i64 mo, .int .i64 lo, .int .i64 up, .slice o2 m2 c2, .int .i64 md, .int .i64 mn, .int .i64 mf, .slice o3 m3 c3, .int .i64 shop, .string nm, .int .i64 am, .int .i64 ot, .int .i64 dy, .int .i64 mt, .int .i64 tr, .int .i64 dr, .bool ca, .bool sg, .bool mu, .string dg, .string no, .slice co cn cc, .int .i64 0, .bool false, .int .i64 0, .int .i64 0, .slice none 0 0, .int .i64 0, .int .i64 0, .int .i64 0, .slice none 0 0, .string ⟨#[]⟩, .bool false, .bool false, .int .i64 0, .int .i64 0, .int .i64 0, .int .i64 0, .bool false, .int .i64 0, .int .i64 0, .string ⟨#[]⟩, .string ⟨#[]⟩, .bool false, .int .i64 0, .int .i64 0, .int .i64 0, .int .i64 0, .int .i64 (-1), .bool false, .string ⟨#[]⟩, .string ⟨#[]⟩, .string ⟨#[]⟩, .int .i64 0, .int .i64 0, .int .i64 0, .bool false, .int .i64 0, .int .i64 0, .string ⟨#[]⟩] 88 (0, 0))) ∧ Below w.heap.size w w' := by
  obtain ⟨W2, hW2⟩ : ∃ W2, W2 = (w.alloc (.cells #[.string root, .slice o1 m1 c1, .int .i64 fl, .int .i64 fr, .int .i64 sh, .int .i64 mo, .int .i64 lo, .int .i64 up, .slice o2 m2 c2, .int .i64 md, .int .i64 mn, .int .i64 mf, .slice o3 m3 c3, .int .i64 shop, .string nm] 30)).alloc (.cells #[.int .i64 am, .int .i64 ot, .int .i64 dy, .int .i64 mt, .int .i64 tr, .int .i64 dr, .bool ca, .bool sg, .bool mu, .string dg, .string no, .slice co cn cc] 33) := ⟨_, rfl⟩
  have hX1 : W2.heap[w.heap.size]? = some (.cells #[.string root, .slice o1 m1 c1, .int .i64 fl, .int .i64 fr, .int .i64 sh, .int .i64 mo, .int .i64 lo, .int .i64 up, .slice o2 m2 c2, .int .i64 md, .int .i64 mn, .int .i64 mf, .slice o3 m3 c3, .int .i64 shop, .string nm] 30 (0, 0)) := by rw [hW2]; exact keepAN (heap_alloc_new _ _)
  have hX2 : W2.heap[w.heap.size + 1]? = some (.cells #[.int .i64 am, .int .i64 ot, .int .i64 dy, .int .i64 mt, .int .i64 tr, .int .i64 dr, .bool ca, .bool sg, .bool mu, .string dg, .string no, .slice co cn cc] 33 (0, 0)) := by
    rw [hW2]
    have h1 := heap_alloc_new (w.alloc (.cells #[.string root, .slice o1 m1 c1, .int .i64 fl, .int .i64 fr, .int .i64 sh, .int .i64 mo, .int .i64 lo, .int .i64 up, .slice o2 m2 c2, .int .i64 md, .int .i64 mn, .int .i64 mf, .slice o3 m3 c3, .int .i64 shop, .string nm] 30)) (.cells #[.int .i64 am, .int .i64 ot, .int .i64 dy, .int .i64 mt, .int .i64 tr, .int .i64 dr, .bool ca, .bool sg, .bool mu, .string dg, .string no, .slice co cn cc] 33)
    simpa using h1
  have hB2 : Below w.heap.size w W2 := by rw [hW2]; exact ((Below.refl _ _).alloc (Nat.le_refl _) _).alloc (by simp) _
  have HX1 := hide hX1; have HX2 := hide hX2; have HB2 := hide hB2; have HW2 := hide hW2
  clear hX1 hX2 hB2 hW2
  go_enter Tryd.func17, Tryd.ntmps17
  go_upto_region 1 with fail
  rw [← unhide HW2]
  go_wp2_with (first
    | refine wpList_load_mid rfl _ _ rfl w.heap.size 0 rfl [.string root, .slice o1 m1 c1, .int .i64 fl, .int .i64 fr, .int .i64 sh, .int .i64 mo, .int .i64 lo, .int .i64 up, .slice o2 m2 c2, .int .i64 md, .int .i64 mn, .int .i64 mf, .slice o3 m3 c3, .int .i64 shop, .string nm] _ (rangeN (unhide HX1)) Tryd.underlying30 rfl infoPlan ?_
    | refine wpList_load_mid rfl _ _ rfl (w.heap.size + 1) 0 rfl [.int .i64 am, .int .i64 ot, .int .i64 dy, .int .i64 mt, .int .i64 tr, .int .i64 dr, .bool ca, .bool sg, .bool mu, .string dg, .string no, .slice co cn cc] _ (rangeN (unhide HX2)) Tryd.underlying33 rfl infoBuy ?_
    | refine wpList_buildTo rfl 44 _ rfl _ rfl #[.int .i64 0, .int .i64 0, .int .i64 0, .int .i64 0, .int .i64 (-1), .bool false, .string ⟨#[]⟩, .string ⟨#[]⟩, .string ⟨#[]⟩, .int .i64 0, .int .i64 0, .int .i64 0, .bool false, .int .i64 0, .int .i64 0, .string ⟨#[]⟩] (by kernel_rfl) ?_
    | refine wpList_buildTo rfl 88 _ rfl _ rfl #[.string root, .slice o1 m1 c1, .int .i64 fl, .int .i64 fr, .int .i64 sh, .int .i64 mo, .int .i64 lo, .int .i64 up, .slice o2 m2 c2, .int .i64 md, .int .i64 mn, .int .i64 mf, .slice o3 m3 c3, .int .i64 shop, .string nm, .int .i64 am, .int .i64 ot, .int .i64 dy, .int .i64 mt, .int .i64 tr, .int .i64 dr, .bool ca, .bool sg, .bool mu, .string dg, .string no, .slice co cn cc, .int .i64 0, .bool false, .int .i64 0, .int .i64 0, .slice none 0 0, .int .i64 0, .int .i64 0, .int .i64 0, .slice none 0 0, .string ⟨#[]⟩, .bool false, .bool false, .int .i64 0, .int .i64 0, .int .i64 0, .int .i64 0, .bool false, .int .i64 0, .int .i64 0, .string ⟨#[]⟩, .string ⟨#[]⟩, .bool false, .int .i64 0, .int .i64 0, .int .i64 0, .int .i64 0, .int .i64 (-1), .bool false, .string ⟨#[]⟩, .string ⟨#[]⟩, .string ⟨#[]⟩, .int .i64 0, .int .i64 0, .int .i64 0, .bool false, .int .i64 0, .int .i64 0, .string ⟨#[]⟩] (by kernel_rfl) ?_)
  go_ret
  exact ⟨⟨W2.heap.size, rfl, (unhide HB2).size, heap_alloc_new _ _⟩, (unhide HB2).alloc (unhide HB2).size _⟩
set_option maxHeartbeats 2000000 in
theorem send_any (g : Nat) (P : Array Value) (w : World) (hP : 28 < P.size) (hg : w.heap[g]? = some (.cells P 88 (0, 0))) :
    Calls Tryd.prog 19 #[.pointer (some ⟨g, 0, none⟩), .agg #[.int .i64 1, .string ⟨#[]⟩, .string ⟨#[]⟩, .int .i64 0, .int .i64 0, .int .i64 0, .int .i64 0, .bool false, .int .i64 0, .int .i64 0, .string ⟨#[]⟩, .string ⟨#[]⟩, .string ⟨#[]⟩, .string ⟨#[]⟩]] w fun e w' => e = .returned (.agg #[.string c1S, .bool false, .bool false, .string ⟨#[]⟩, .string ⟨#[]⟩, .string ⟨#[]⟩, .string ⟨#[]⟩, .int .i64 0, .int .i64 0, .int .i64 0, .bool false, .int .i64 0, .int .i64 0, .string ⟨#[]⟩, .int .i64 0, .int .i64 0, .int .i64 0, .int .i64 0, .int .i64 0, .int .i64 0, .bool false, .string ⟨#[]⟩, .string ⟨#[]⟩, .string ⟨#[]⟩, .int .i64 0, .int .i64 0, .int .i64 0, .bool false, .int .i64 0, .int .i64 0, .string ⟨#[]⟩]) ∧ ∀ B, B ≤ w.heap.size → B ≤ g → Below B w w' := by
  obtain ⟨W2, hW2⟩ : ∃ W2, W2 = (w.alloc (.cells #[.int .i64 1, .string ⟨#[]⟩, .string ⟨#[]⟩, .int .i64 0, .int .i64 0, .int .i64 0, .int .i64 0, .bool false, .int .i64 0, .int .i64 0, .string ⟨#[]⟩, .string ⟨#[]⟩, .string ⟨#[]⟩, .string ⟨#[]⟩] 80)).alloc (.cells #[.string ⟨#[]⟩, .bool false, .bool false, .string ⟨#[]⟩, .string ⟨#[]⟩, .string ⟨#[]⟩, .string ⟨#[]⟩, .int .i64 0, .int .i64 0, .int .i64 0, .bool false, .int .i64 0, .int .i64 0, .string ⟨#[]⟩, .int .i64 0, .int .i64 0, .int .i64 0, .int .i64 0, .int .i64 0, .int .i64 0, .bool false, .string ⟨#[]⟩, .string ⟨#[]⟩, .string ⟨#[]⟩, .int .i64 0, .int .i64 0, .int .i64 0, .bool false, .int .i64 0, .int .i64 0, .string ⟨#[]⟩] 46) := ⟨_, rfl⟩
  have hX1 : W2.heap[w.heap.size]? = some (.cells #[.int .i64 1, .string ⟨#[]⟩, .string ⟨#[]⟩, .int .i64 0, .int .i64 0, .int .i64 0, .int .i64 0, .bool false, .int .i64 0, .int .i64 0, .string ⟨#[]⟩, .string ⟨#[]⟩, .string ⟨#[]⟩, .string ⟨#[]⟩] 80 (0, 0)) := by rw [hW2]; exact keepAN (heap_alloc_new _ _)
  have hX2 : W2.heap[w.heap.size + 1]? = some (.cells #[.string ⟨#[]⟩, .bool false, .bool false, .string ⟨#[]⟩, .string ⟨#[]⟩, .string ⟨#[]⟩, .string ⟨#[]⟩, .int .i64 0, .int .i64 0, .int .i64 0, .bool false, .int .i64 0, .int .i64 0, .string ⟨#[]⟩, .int .i64 0, .int .i64 0, .int .i64 0, .int .i64 0, .int .i64 0, .int .i64 0, .bool false, .string ⟨#[]⟩, .string ⟨#[]⟩, .string ⟨#[]⟩, .int .i64 0, .int .i64 0, .int .i64 0, .bool false, .int .i64 0, .int .i64 0, .string ⟨#[]⟩] 46 (0, 0)) := by
    rw [hW2]
    have h1 := heap_alloc_new (w.alloc (.cells #[.int .i64 1, .string ⟨#[]⟩, .string ⟨#[]⟩, .int .i64 0, .int .i64 0, .int .i64 0, .int .i64 0, .bool false, .int .i64 0, .int .i64 0, .string ⟨#[]⟩, .string ⟨#[]⟩, .string ⟨#[]⟩, .string ⟨#[]⟩] 80)) (.cells #[.string ⟨#[]⟩, .bool false, .bool false, .string ⟨#[]⟩, .string ⟨#[]⟩, .string ⟨#[]⟩, .string ⟨#[]⟩, .int .i64 0, .int .i64 0, .int .i64 0, .bool false, .int .i64 0, .int .i64 0, .string ⟨#[]⟩, .int .i64 0, .int .i64 0, .int .i64 0, .int .i64 0, .int .i64 0, .int .i64 0, .bool false, .string ⟨#[]⟩, .string ⟨#[]⟩, .string ⟨#[]⟩, .int .i64 0, .int .i64 0, .int .i64 0, .bool false, .int .i64 0, .int .i64 0, .string ⟨#[]⟩] 46)
    simpa using h1
  have hB2 : Below w.heap.size w W2 := by rw [hW2]; exact ((Below.refl _ _).alloc (Nat.le_refl _) _).alloc (by simp) _
  have hgl := blkN hg
  have N0 := hide (fun W => tcmd_any W)
  generalize c1S = cs at *
  have HX1 := hide hX1; have HX2 := hide hX2; have HB2 := hide hB2; have HW2 := hide hW2; have HG := hide hg; have HP := hide hP
  clear hX1 hX2 hB2 hW2 hg hP
  go_enter Tryd.func19, Tryd.ntmps19
  go_upto_region 1 with fail
  rw [← unhide HW2]
  go_wp2_with (refine wpList_load_mid rfl _ _ rfl w.heap.size 0 rfl [.int .i64 1, .string ⟨#[]⟩, .string ⟨#[]⟩, .int .i64 0, .int .i64 0, .int .i64 0, .int .i64 0, .bool false, .int .i64 0, .int .i64 0, .string ⟨#[]⟩, .string ⟨#[]⟩, .string ⟨#[]⟩, .string ⟨#[]⟩] _ (rangeN (unhide HX1)) Tryd.underlying80 rfl infoCom ?_)
  refine (unhide N0 _).mono ?_
  rintro e y1 ⟨rfl, k1⟩
  have x1 := rowN (unhide HX1) k1
  have x2 := rowN (unhide HX2) k1
  have b1 := belowN (unhide HB2) k1
  have xg := rowN (unhide HG) b1
  have q0 : y1.cell? ⟨w.heap.size, 0, none⟩ = some (.int .i64 1) := cell_of_row _ _ 0 _ _ _ x1
  obtain ⟨v27, h27⟩ : ∃ v, P[27]? = some v := ⟨_, Array.getElem?_eq_getElem (by have := unhide HP; omega)⟩
  obtain ⟨v28, h28⟩ : ∃ v, P[28]? = some v := ⟨_, Array.getElem?_eq_getElem (by have := unhide HP; omega)⟩
  have q27 : y1.cell? ⟨g, 27, none⟩ = some v27 := (cell_of_row _ _ 27 _ _ _ xg).trans h27
  have q28 : y1.cell? ⟨g, 28, none⟩ = some v28 := (cell_of_row _ _ 28 _ _ _ xg).trans h28
  have f27 : y1.frozen? ⟨g, 27, none⟩ = false := frozen_of_row _ _ 27 _ _ xg
  have f28 : y1.frozen? ⟨g, 28, none⟩ = false := frozen_of_row _ _ 28 _ _ xg
  obtain ⟨W3, hW3⟩ : ∃ W3, W3 = (y1.setCell ⟨g, 27, none⟩ (.int .i64 1)).setCell ⟨g, 28, none⟩ (.bool false) := ⟨_, rfl⟩
  have x3 : W3.heap[w.heap.size + 1]? = some (.cells #[.string ⟨#[]⟩, .bool false, .bool false, .string ⟨#[]⟩, .string ⟨#[]⟩, .string ⟨#[]⟩, .string ⟨#[]⟩, .int .i64 0, .int .i64 0, .int .i64 0, .bool false, .int .i64 0, .int .i64 0, .string ⟨#[]⟩, .int .i64 0, .int .i64 0, .int .i64 0, .int .i64 0, .int .i64 0, .int .i64 0, .bool false, .string ⟨#[]⟩, .string ⟨#[]⟩, .string ⟨#[]⟩, .int .i64 0, .int .i64 0, .int .i64 0, .bool false, .int .i64 0, .int .i64 0, .string ⟨#[]⟩] 46 (0, 0)) := by rw [hW3]; exact setOtherN (setOtherN x2 (by omega)) (by omega)
  have b3 : ∀ B, B ≤ w.heap.size → B ≤ g → Below B w W3 := fun B h1 h2 => by rw [hW3]; exact Below.setCell (p := ⟨g, 28, none⟩) (Below.setCell (p := ⟨g, 27, none⟩) (b1.mono h1) h2 _) h2 _
  have HX3 := hide x3; have HB3 := hide b3; have HW3 := hide hW3
  clear k1 x1 x2 b1 xg h27 h28 x3 b3 hW3 hgl N0 HX1 HX2 HB2 HW2 HG HP
  go_upto_region 5 with fail
  rw [← unhide HW3]
  clear q0 q27 q28 f27 f28
  go_wp2_with (refine wpList_store_row rfl _ _ _ rfl (w.heap.size + 1) #[.string cs, .bool false, .bool false, .string ⟨#[]⟩, .string ⟨#[]⟩, .string ⟨#[]⟩, .string ⟨#[]⟩, .int .i64 0, .int .i64 0, .int .i64 0, .bool false, .int .i64 0, .int .i64 0, .string ⟨#[]⟩, .int .i64 0, .int .i64 0, .int .i64 0, .int .i64 0, .int .i64 0, .int .i64 0, .bool false, .string ⟨#[]⟩, .string ⟨#[]⟩, .string ⟨#[]⟩, .int .i64 0, .int .i64 0, .int .i64 0, .bool false, .int .i64 0, .int .i64 0, .string ⟨#[]⟩] rfl rfl _ _ (unhide HX3) infoStep rfl (by simp [Value.oneCell']) ?_)
  refine bodyPost_ret (v := .agg #[.string cs, .bool false, .bool false, .string ⟨#[]⟩, .string ⟨#[]⟩, .string ⟨#[]⟩, .string ⟨#[]⟩, .int .i64 0, .int .i64 0, .int .i64 0, .bool false, .int .i64 0, .int .i64 0, .string ⟨#[]⟩, .int .i64 0, .int .i64 0, .int .i64 0, .int .i64 0, .int .i64 0, .int .i64 0, .bool false, .string ⟨#[]⟩, .string ⟨#[]⟩, .string ⟨#[]⟩, .int .i64 0, .int .i64 0, .int .i64 0, .bool false, .int .i64 0, .int .i64 0, .string ⟨#[]⟩]) (results_cell_row rfl _ _ (w.heap.size + 1) 46 _ (0, 0) _ rfl (setRow_heap _ _ _ _ _ _ (unhide HX3)) Tryd.underlying46 rfl infoStep) rfl ⟨rfl, fun B h1 h2 => setRow_belowN (unhide HB3 B h1 h2) (by omega)⟩
set_option maxHeartbeats 2000000 in
theorem keep_any (g : Nat) (s : ByteArray) (w : World) :
    Calls Tryd.prog 18 #[.pointer (some ⟨g, 0, none⟩), .agg #[.string s, .bool false, .bool false, .string ⟨#[]⟩, .string ⟨#[]⟩, .string ⟨#[]⟩, .string ⟨#[]⟩, .int .i64 0, .int .i64 0, .int .i64 0, .bool false, .int .i64 0, .int .i64 0, .string ⟨#[]⟩, .int .i64 0, .int .i64 0, .int .i64 0, .int .i64 0, .int .i64 0, .int .i64 0, .bool false, .string ⟨#[]⟩, .string ⟨#[]⟩, .string ⟨#[]⟩, .int .i64 0, .int .i64 0, .int .i64 0, .bool false, .int .i64 0, .int .i64 0, .string ⟨#[]⟩]] w fun e w' => e = .returned (.tuple #[.agg #[.string s, .bool false, .bool false, .string ⟨#[]⟩, .string ⟨#[]⟩, .string ⟨#[]⟩, .string ⟨#[]⟩, .int .i64 0, .int .i64 0, .int .i64 0, .bool false, .int .i64 0, .int .i64 0, .string ⟨#[]⟩, .int .i64 0, .int .i64 0, .int .i64 0, .int .i64 0, .int .i64 0, .int .i64 0, .bool false, .string ⟨#[]⟩, .string ⟨#[]⟩, .string ⟨#[]⟩, .int .i64 0, .int .i64 0, .int .i64 0, .bool false, .int .i64 0, .int .i64 0, .string ⟨#[]⟩], .int .i64 0]) ∧ Below w.heap.size w w' := by
  obtain ⟨W2, hW2⟩ : ∃ W2, W2 = (w.alloc (.cells #[.string s, .bool false, .bool false, .string ⟨#[]⟩, .string ⟨#[]⟩, .string ⟨#[]⟩, .string ⟨#[]⟩, .int .i64 0, .int .i64 0, .int .i64 0, .bool false, .int .i64 0, .int .i64 0, .string ⟨#[]⟩, .int .i64 0, .int .i64 0, .int .i64 0, .int .i64 0, .int .i64 0, .int .i64 0, .bool false, .string ⟨#[]⟩, .string ⟨#[]⟩, .string ⟨#[]⟩, .int .i64 0, .int .i64 0, .int .i64 0, .bool false, .int .i64 0, .int .i64 0, .string ⟨#[]⟩] 46)).alloc (.cells #[.string ⟨#[]⟩, .bool false, .bool false, .string ⟨#[]⟩, .string ⟨#[]⟩, .string ⟨#[]⟩, .string ⟨#[]⟩, .int .i64 0, .int .i64 0, .int .i64 0, .bool false, .int .i64 0, .int .i64 0, .string ⟨#[]⟩, .int .i64 0, .int .i64 0, .int .i64 0, .int .i64 0, .int .i64 0, .int .i64 0, .bool false, .string ⟨#[]⟩, .string ⟨#[]⟩, .string ⟨#[]⟩, .int .i64 0, .int .i64 0, .int .i64 0, .bool false, .int .i64 0, .int .i64 0, .string ⟨#[]⟩] 46) := ⟨_, rfl⟩
  have hX1 : W2.heap[w.heap.size]? = some (.cells #[.string s, .bool false, .bool false, .string ⟨#[]⟩, .string ⟨#[]⟩, .string ⟨#[]⟩, .string ⟨#[]⟩, .int .i64 0, .int .i64 0, .int .i64 0, .bool false, .int .i64 0, .int .i64 0, .string ⟨#[]⟩, .int .i64 0, .int .i64 0, .int .i64 0, .int .i64 0, .int .i64 0, .int .i64 0, .bool false, .string ⟨#[]⟩, .string ⟨#[]⟩, .string ⟨#[]⟩, .int .i64 0, .int .i64 0, .int .i64 0, .bool false, .int .i64 0, .int .i64 0, .string ⟨#[]⟩] 46 (0, 0)) := by rw [hW2]; exact keepAN (heap_alloc_new _ _)
  have hX2 : W2.heap[w.heap.size + 1]? = some (.cells #[.string ⟨#[]⟩, .bool false, .bool false, .string ⟨#[]⟩, .string ⟨#[]⟩, .string ⟨#[]⟩, .string ⟨#[]⟩, .int .i64 0, .int .i64 0, .int .i64 0, .bool false, .int .i64 0, .int .i64 0, .string ⟨#[]⟩, .int .i64 0, .int .i64 0, .int .i64 0, .int .i64 0, .int .i64 0, .int .i64 0, .bool false, .string ⟨#[]⟩, .string ⟨#[]⟩, .string ⟨#[]⟩, .int .i64 0, .int .i64 0, .int .i64 0, .bool false, .int .i64 0, .int .i64 0, .string ⟨#[]⟩] 46 (0, 0)) := by
    rw [hW2]
    have h1 := heap_alloc_new (w.alloc (.cells #[.string s, .bool false, .bool false, .string ⟨#[]⟩, .string ⟨#[]⟩, .string ⟨#[]⟩, .string ⟨#[]⟩, .int .i64 0, .int .i64 0, .int .i64 0, .bool false, .int .i64 0, .int .i64 0, .string ⟨#[]⟩, .int .i64 0, .int .i64 0, .int .i64 0, .int .i64 0, .int .i64 0, .int .i64 0, .bool false, .string ⟨#[]⟩, .string ⟨#[]⟩, .string ⟨#[]⟩, .int .i64 0, .int .i64 0, .int .i64 0, .bool false, .int .i64 0, .int .i64 0, .string ⟨#[]⟩] 46)) (.cells #[.string ⟨#[]⟩, .bool false, .bool false, .string ⟨#[]⟩, .string ⟨#[]⟩, .string ⟨#[]⟩, .string ⟨#[]⟩, .int .i64 0, .int .i64 0, .int .i64 0, .bool false, .int .i64 0, .int .i64 0, .string ⟨#[]⟩, .int .i64 0, .int .i64 0, .int .i64 0, .int .i64 0, .int .i64 0, .int .i64 0, .bool false, .string ⟨#[]⟩, .string ⟨#[]⟩, .string ⟨#[]⟩, .int .i64 0, .int .i64 0, .int .i64 0, .bool false, .int .i64 0, .int .i64 0, .string ⟨#[]⟩] 46)
    simpa using h1
  have hB2 : Below w.heap.size w W2 := by rw [hW2]; exact ((Below.refl _ _).alloc (Nat.le_refl _) _).alloc (by simp) _
  have q2 : W2.cell? ⟨w.heap.size, 2, none⟩ = some (.bool false) := cell_of_row _ _ 2 _ _ _ hX1
  have HX1 := hide hX1; have HX2 := hide hX2; have HB2 := hide hB2; have HW2 := hide hW2
  clear hX1 hX2 hB2 hW2
  go_enter Tryd.func18, Tryd.ntmps18
  go_upto_region 1 with fail
  rw [← unhide HW2]
  go_wp2_with (first
    | refine wpList_load_mid rfl _ _ rfl w.heap.size 0 rfl [.string s, .bool false, .bool false, .string ⟨#[]⟩, .string ⟨#[]⟩, .string ⟨#[]⟩, .string ⟨#[]⟩, .int .i64 0, .int .i64 0, .int .i64 0, .bool false, .int .i64 0, .int .i64 0, .string ⟨#[]⟩, .int .i64 0, .int .i64 0, .int .i64 0, .int .i64 0, .int .i64 0, .int .i64 0, .bool false, .string ⟨#[]⟩, .string ⟨#[]⟩, .string ⟨#[]⟩, .int .i64 0, .int .i64 0, .int .i64 0, .bool false, .int .i64 0, .int .i64 0, .string ⟨#[]⟩] _ (rangeN (unhide HX1)) Tryd.underlying46 rfl infoStep ?_
    | refine wpList_store_row rfl _ _ _ rfl (w.heap.size + 1) #[.string s, .bool false, .bool false, .string ⟨#[]⟩, .string ⟨#[]⟩, .string ⟨#[]⟩, .string ⟨#[]⟩, .int .i64 0, .int .i64 0, .int .i64 0, .bool false, .int .i64 0, .int .i64 0, .string ⟨#[]⟩, .int .i64 0, .int .i64 0, .int .i64 0, .int .i64 0, .int .i64 0, .int .i64 0, .bool false, .string ⟨#[]⟩, .string ⟨#[]⟩, .string ⟨#[]⟩, .int .i64 0, .int .i64 0, .int .i64 0, .bool false, .int .i64 0, .int .i64 0, .string ⟨#[]⟩] rfl rfl _ _ (unhide HX2) infoStep rfl (by simp [Value.oneCell']) ?_)
  refine bodyPost_ret (v := .tuple #[.agg #[.string s, .bool false, .bool false, .string ⟨#[]⟩, .string ⟨#[]⟩, .string ⟨#[]⟩, .string ⟨#[]⟩, .int .i64 0, .int .i64 0, .int .i64 0, .bool false, .int .i64 0, .int .i64 0, .string ⟨#[]⟩, .int .i64 0, .int .i64 0, .int .i64 0, .int .i64 0, .int .i64 0, .int .i64 0, .bool false, .string ⟨#[]⟩, .string ⟨#[]⟩, .string ⟨#[]⟩, .int .i64 0, .int .i64 0, .int .i64 0, .bool false, .int .i64 0, .int .i64 0, .string ⟨#[]⟩], .int .i64 0]) (results_cell_tmpN rfl _ _ (w.heap.size + 1) 46 #[.string s, .bool false, .bool false, .string ⟨#[]⟩, .string ⟨#[]⟩, .string ⟨#[]⟩, .string ⟨#[]⟩, .int .i64 0, .int .i64 0, .int .i64 0, .bool false, .int .i64 0, .int .i64 0, .string ⟨#[]⟩, .int .i64 0, .int .i64 0, .int .i64 0, .int .i64 0, .int .i64 0, .int .i64 0, .bool false, .string ⟨#[]⟩, .string ⟨#[]⟩, .string ⟨#[]⟩, .int .i64 0, .int .i64 0, .int .i64 0, .bool false, .int .i64 0, .int .i64 0, .string ⟨#[]⟩] (0, 0) _ _ rfl rfl (setRow_heap _ _ _ _ _ _ (unhide HX2)) Tryd.underlying46 rfl infoStep) rfl ⟨rfl, setRow_belowN (unhide HB2) (by omega)⟩
end Go.Proofs.YtfpglpefofcdeaaDoor
