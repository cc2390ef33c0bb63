/- Applications as items, in memory: itemOf and Print of the program. -/
import Derived.Test.YtfpglpefofcdeaaGreatDoorM22
import Derived.Test.YtfpglpefofcdeaaGreatDoorM05
import Derived.Deep.RegionWith
import Derived.Deep.RegionHeld3
import Derived.Deep.DeepCutAuto
namespace Go.Proofs.YtfpglpefofcdeaaGreatDoor
open Go.RowKit
set_option linter.unusedVariables false

/-- the nine cells of an application's own items -/
def cellsI (x : XApp) : Array Value := #[.int .i64 79, .string x.name, .slice none 0 0, .int .i64 80, .string x.label, .slice none 0 0, .int .i64 135, .string (strOfNums [lastN x]), .slice none 0 0]
theorem or_128 : ∀ f : Fin 16, bits .or .u8 (f.val : Int) 128 = (f.val : Int) + 128 := by decide +kernel
theorem or_prio (p : Int) (h0 : 0 ≤ p) (h1 : p ≤ 15) : bits .or .u8 p 128 = p + 128 := by
  obtain ⟨k, rfl⟩ := Int.eq_ofNat_of_zero_le h0
  exact or_128 ⟨k, by omega⟩
theorem new_blockP (w : World) (o : Obj) (g : Nat) (hg : g = w.heap.size) : (w.alloc o).heap[g]? = some o := by
  subst hg
  exact heap_alloc_new w o
theorem one_byteP (g : Nat) (w : World) (x : Int) (hg : g = w.heap.size) :
    (convert 104 9 (.slice (some ⟨g, 0, none⟩) 1 1)).run Tryz.prog (w.alloc (.cells #[.int .u8 x] 5)) = .ok (.string (strOfNums [x])) (w.alloc (.cells #[.int .u8 x] 5)) := by
  subst hg
  exact run_convert_bytes_arg (P := Tryz.prog) _ 104 5 Tryz.underlying104 Tryz.underlying5 w.heap.size 0 1 1 [x] rfl (fun i hi => by
    obtain rfl : i = 0 := by simp at hi; omega
    rw [Nat.add_zero, cell_of_row _ _ 0 _ _ _ (heap_alloc_new w _)]; rfl) 9 Tryz.underlying9
set_option maxRecDepth 100000 in
set_option maxHeartbeats 2000000 in
theorem itemOf_any (x : XApp) (hp : 0 ≤ x.prio ∧ x.prio ≤ 15) (w : World) :
    Calls Tryz.prog 68 #[valApp x] w fun e w' => ∃ g, e = .returned (.agg #[.int .i64 97, .string ⟨#[]⟩, .slice (some ⟨g, 0, none⟩) 3 3]) ∧ w.heap.size ≤ g ∧ w'.heap[g]? = some (.cells (cellsI x) 101 (0, 0)) ∧ Below w.heap.size w w' := by
  obtain ⟨nm, lb, pr, cf⟩ := x
  obtain ⟨h0, h1⟩ := hp
  have hcv := fun (A B : Obj) (y : Int) => one_byteP (w.heap.size + 1 + 1) ((w.alloc A).alloc B) y (by simp)
  have HB := hide (Below.refl w.heap.size w)
  have hw : IntKind.u8.wrap pr = pr := by rw [IntKind.wrap_u8]; simp only at h0 h1; omega
  have ho := or_prio pr h0 h1
  unfold valApp
  simp only
  cases cf with
  | false =>
    have HC : Hid (lastN ⟨nm, lb, pr, false⟩ = pr) := hide (by simp [lastN])
    go_enter Tryz.func68, Tryz.ntmps68
    go_wp2
    refine bodyPost_ret (v := .agg #[.int .i64 97, .string ⟨#[]⟩, .slice (some ⟨w.heap.size + 1 + 1 + 1, 0, none⟩) 3 3]) (by simp [results, Tryz.results68, go_sem]) rfl ?_
    refine ⟨w.heap.size + 1 + 1 + 1, rfl, by omega, ?_, (((unhide HB).alloc (Nat.le_refl _) _).alloc (by simp) _ |>.alloc (by simp; omega) _).alloc (by simp; omega) _⟩
    rw [show cellsI ⟨nm, lb, pr, false⟩ = #[.int .i64 79, .string nm, .slice none 0 0, .int .i64 80, .string lb, .slice none 0 0, .int .i64 135, .string (strOfNums [pr]), .slice none 0 0] from by unfold cellsI; rw [unhide HC]]
    exact new_blockP _ _ _ (by simp)
  | true =>
    have HC : Hid (lastN ⟨nm, lb, pr, true⟩ = pr + 128) := hide (by simp [lastN])
    go_enter Tryz.func68, Tryz.ntmps68
    go_wp2
    refine bodyPost_ret (v := .agg #[.int .i64 97, .string ⟨#[]⟩, .slice (some ⟨w.heap.size + 1 + 1 + 1, 0, none⟩) 3 3]) (by simp [results, Tryz.results68, go_sem]) rfl ?_
    refine ⟨w.heap.size + 1 + 1 + 1, rfl, by omega, ?_, (((unhide HB).alloc (Nat.le_refl _) _).alloc (by simp) _ |>.alloc (by simp; omega) _).alloc (by simp; omega) _⟩
    rw [show cellsI ⟨nm, lb, pr, true⟩ = #[.int .i64 79, .string nm, .slice none 0 0, .int .i64 80, .string lb, .slice none 0 0, .int .i64 135, .string (strOfNums [pr + 128]), .slice none 0 0] from by unfold cellsI; rw [unhide HC]]
    exact new_blockP _ _ _ (by simp)

theorem own_blockP {w : World} {base g n size : Nat} {e : TypeId} {xs : List Value} (h : w.ownsRow base e size (.slice (some ⟨g, 0, none⟩) n n) n xs) : ∃ cur : Array Value, w.heap[g]? = some (.cells cur e (0, 0)) ∧ cur.size = n * size := by
  rcases h.2 with ⟨h1, h2⟩ | ⟨g', cap, cur, h1, hB, hh, hle, hm, hsz, htk⟩
  · simp at h1
  · simp only [Value.slice.injEq, Option.some.injEq, Addr.mk.injEq, and_true, true_and] at h1
    obtain ⟨rfl, rfl⟩ := h1
    exact ⟨cur, hh, by first | exact hsz | (rw [hsz]; done) | omega⟩
/-- the first k items of a row that is being filled -/
def IPart (w : World) (g : Nat) (l : List XApp) (k : Nat) : Prop := ∃ cur : Array Value, w.heap[g]? = some (.cells cur 101 (0, 0)) ∧ cur.size = l.length * 3 ∧
  ∀ i x, i < k → l[i]? = some x → ∃ gi, cur[i * 3]? = some (.int .i64 97) ∧ cur[i * 3 + 1]? = some (.string ⟨#[]⟩) ∧ cur[i * 3 + 2]? = some (.slice (some ⟨gi, 0, none⟩) 3 3) ∧ g < gi ∧ w.heap[gi]? = some (.cells (cellsI x) 101 (0, 0))
theorem block_ltQ {w : World} {g : Nat} {o : Obj} (h : w.heap[g]? = some o) : g < w.heap.size := by
  rcases Nat.lt_or_ge g w.heap.size with h1 | h1
  · exact h1
  · rw [Array.getElem?_eq_none h1] at h; cases h
theorem IPart.lt {w : World} {g : Nat} {l : List XApp} {k : Nat} (h : IPart w g l k) : g < w.heap.size := by
  obtain ⟨cur, hh, _⟩ := h
  exact block_ltQ hh
theorem IPart.below {w w' : World} {g : Nat} {l : List XApp} {k : Nat} (h : IPart w g l k) (hb : Below w.heap.size w w') : IPart w' g l k := by
  obtain ⟨cur, hh, hs, hc⟩ := h
  refine ⟨cur, (hb.block g (block_ltQ hh)).trans hh, hs, fun i x hi hx => ?_⟩
  obtain ⟨gi, a, b, c, d, e⟩ := hc i x hi hx
  exact ⟨gi, a, b, c, d, (hb.block gi (block_ltQ e)).trans e⟩
theorem set_rowQ {w : World} {g j : Nat} {cs : Array Value} {e : TypeId} {fr : Nat × Nat} {v : Value} (h : w.heap[g]? = some (.cells cs e fr)) : (w.setCell ⟨g, j, none⟩ v).heap[g]? = some (.cells (cs.setIfInBounds j v) e fr) := by
  simp [World.setCell, Array.getElem?_modify, h]
theorem get_setS (C : Array Value) (i : Nat) (v : Value) (h : i < C.size) : (C.setIfInBounds i v)[i]? = some v := by simp [h]
theorem get_setO (C : Array Value) (i j : Nat) (v : Value) (h : i ≠ j) : (C.setIfInBounds i v)[j]? = C[j]? := by simp [h]
/-- one item more -/
theorem IPart.next {w : World} {g gi : Nat} {l : List XApp} {k : Nat} {x : XApp} (h : IPart w g l k) (hx : l[k]? = some x) (hg : g < gi) (hi : w.heap[gi]? = some (.cells (cellsI x) 101 (0, 0))) :
    IPart (((w.setCell ⟨g, k * 3, none⟩ (.int .i64 97)).setCell ⟨g, k * 3 + 1, none⟩ (.string ⟨#[]⟩)).setCell ⟨g, k * 3 + 2, none⟩ (.slice (some ⟨gi, 0, none⟩) 3 3)) g l (k + 1) := by
  obtain ⟨cur, hh, hs, hc⟩ := h
  have hk : k < l.length := by
    rcases Nat.lt_or_ge k l.length with h | h
    · exact h
    · rw [List.getElem?_eq_none h] at hx; cases hx
  have H := set_rowQ (j := k * 3 + 2) (v := .slice (some ⟨gi, 0, none⟩) 3 3) (set_rowQ (j := k * 3 + 1) (v := .string ⟨#[]⟩) (set_rowQ (j := k * 3) (v := .int .i64 97) hh))
  have keep : ∀ b, b ≠ g → (((w.setCell ⟨g, k * 3, none⟩ (.int .i64 97)).setCell ⟨g, k * 3 + 1, none⟩ (.string ⟨#[]⟩)).setCell ⟨g, k * 3 + 2, none⟩ (.slice (some ⟨gi, 0, none⟩) 3 3)).heap[b]? = w.heap[b]? := fun b hb => by
    rw [Below.heap_setCell _ _ _ _ hb, Below.heap_setCell _ _ _ _ hb, Below.heap_setCell _ _ _ _ hb]
  refine ⟨_, H, by simp only [Array.size_setIfInBounds]; exact hs, fun i y hi' hy => ?_⟩
  by_cases e : i = k
  · subst e
    obtain rfl : x = y := by rw [hx] at hy; cases hy; rfl
    refine ⟨gi, ?_, ?_, ?_, hg, (keep gi (by omega)).trans hi⟩
    · rw [get_setO _ _ _ _ (by omega), get_setO _ _ _ _ (by omega), get_setS _ _ _ (by omega)]
    · rw [get_setO _ _ _ _ (by omega), get_setS _ _ _ (by simp only [Array.size_setIfInBounds]; omega)]
    · rw [get_setS _ _ _ (by simp only [Array.size_setIfInBounds]; omega)]
  · obtain ⟨gj, a, b, c, d, f⟩ := hc i y (by omega) hy
    refine ⟨gj, ?_, ?_, ?_, d, (keep gj (by omega)).trans f⟩
    · rw [get_setO _ _ _ _ (by omega), get_setO _ _ _ _ (by omega), get_setO _ _ _ _ (by omega)]; exact a
    · rw [get_setO _ _ _ _ (by omega), get_setO _ _ _ _ (by omega), get_setO _ _ _ _ (by omega)]; exact b
    · rw [get_setO _ _ _ _ (by omega), get_setO _ _ _ _ (by omega), get_setO _ _ _ _ (by omega)]; exact c
theorem IPart.row {w : World} {g : Nat} {l : List XApp} (h : IPart w g l l.length) (hm : ∀ x ∈ l, x.name.size ≤ maxLen ∧ x.label.size ≤ maxLen) : IRow w 2 (some ⟨g, 0, none⟩) (l.map itemI) := by
  have hlt := h.lt
  obtain ⟨cur, hh, hs, hc⟩ := h
  refine .inr ⟨g, 0, rfl, hlt, fun i y hy => ?_⟩
  rw [List.getElem?_map] at hy
  cases hx : l[i]? with
  | none => rw [hx] at hy; cases hy
  | some x =>
    rw [hx] at hy
    obtain rfl : itemI x = y := Option.some.inj hy
    have hi : i < l.length := by
      rcases Nat.lt_or_ge i l.length with h | h
      · exact h
      · rw [List.getElem?_eq_none h] at hx; cases hx
    obtain ⟨gi, a, b, c, d, e⟩ := hc i x hi hx
    have hxm := hm x (List.mem_of_getElem? hx)
    refine ⟨some ⟨gi, 0, none⟩, 3, ?_, ?_, ?_, Nat.le_refl _, ?_, ?_, ?_⟩
    · rw [Nat.zero_add, cell_of_row _ _ _ _ _ _ hh]; exact a
    · rw [Nat.zero_add, cell_of_row _ _ _ _ _ _ hh]; exact b
    · rw [Nat.zero_add, cell_of_row _ _ _ _ _ _ hh]; exact c
    · refine .inr ⟨gi, 0, rfl, block_ltQ e, fun j z hz => ?_⟩
      match j, hz with
      | 0, hz =>
        obtain rfl : It.mk 79 x.name [] = z := by simpa [itemI, It.list] using hz
        exact ⟨none, 0, by rw [cell_of_row _ _ _ _ _ _ e]; rfl, by rw [cell_of_row _ _ _ _ _ _ e]; rfl, by rw [cell_of_row _ _ _ _ _ _ e]; rfl, Nat.le_refl _, rfl, by show (_ : Int) ≤ _; simp [It.tag], hxm.1⟩
      | 1, hz =>
        obtain rfl : It.mk 80 x.label [] = z := by simpa [itemI, It.list] using hz
        exact ⟨none, 0, by rw [cell_of_row _ _ _ _ _ _ e]; rfl, by rw [cell_of_row _ _ _ _ _ _ e]; rfl, by rw [cell_of_row _ _ _ _ _ _ e]; rfl, Nat.le_refl _, rfl, by show (_ : Int) ≤ _; simp [It.tag], hxm.2⟩
      | 2, hz =>
        obtain rfl : It.mk 135 (strOfNums [lastN x]) [] = z := by simpa [itemI, It.list] using hz
        exact ⟨none, 0, by rw [cell_of_row _ _ _ _ _ _ e]; rfl, by rw [cell_of_row _ _ _ _ _ _ e]; rfl, by rw [cell_of_row _ _ _ _ _ _ e]; rfl, Nat.le_refl _, rfl, by simp [It.tag], by show (strOfNums [lastN x]).size ≤ maxLen; rw [strOfNums_size]; unfold maxLen; simp⟩
      | j + 3, hz => simp [itemI, It.list] at hz
    · show (97 : Int) ≤ 9223372036854775807; decide
    · show (0 : Nat) ≤ maxLen; exact Nat.zero_le _
/-- what Print answers -/
def appsS (l : List XApp) : ByteArray := if appsE l = 0 then appsT l else ⟨#[]⟩
theorem ret_pairQ {s t : ByteArray} {a b : Int} (h1 : s = t) (h2 : a = b) : Ending.returned (.tuple #[.string s, .int .i64 a]) = .returned (.tuple #[.string t, .int .i64 b]) := by rw [h1, h2]
set_option maxRecDepth 100000 in
set_option maxHeartbeats 2000000 in
theorem pprint_any (l : List XApp) (ao : Option Addr) (cap : Nat) (w : World) (hr : RowApp w ao l) :
    Calls Tryz.prog 33 #[.slice ao l.length cap] w fun e w' => e = .returned (.tuple #[.string (appsS l), .int .i64 (appsE l)]) ∧ Below w.heap.size w w' := by
  have n1 := check_any l ao cap w hr
  by_cases he : appsE l = 0
  case neg =>
    have HS : Hid (appsS l = ⟨#[]⟩) := hide (by rw [appsS, if_neg he])
    have t1 : (appsE l != 0) = true := by simpa using he
    generalize appsE l = ae at *
    have N1 := hide n1
    clear n1 hr he
    go_enter Tryz.func33, Tryz.ntmps33
    go_wp2_with fail
    refine (unhide N1).mono ?_
    rintro e w1 ⟨rfl, hb1⟩
    go_wp2
    go_ret2
    exact ⟨ret_pairQ (unhide HS).symm rfl, hb1⟩
  have HS : Hid (appsS l = appsT l) := hide (by rw [appsS, if_pos he])
  obtain ⟨h20, hsz⟩ := apps_sized he
  have hok := hr.2.1
  have HE := hide he
  rw [he] at n1 ⊢
  have HR := hide hr.1
  have N1 := hide n1
  have HSZ := hide hsz; have HOK := hide hok
  have h20i : (l.length : Int) ≤ 20 := by omega
  obtain ⟨i0, hi, hz0, hz1, hz2⟩ := info_parts infoItem
  clear n1 hr he hsz hok
  go_enter Tryz.func33, Tryz.ntmps33
  go_wp2_with fail
  refine (unhide N1).mono ?_
  rintro e w1 ⟨rfl, hb1⟩
  go_wp2_with (at_make; refine wpList_make_full _ rfl _ _ 55 rfl w1.heap.size 101 i0 (.agg #[.int .i64 0, .string ⟨#[]⟩, .slice none 0 0]) 3 Tryz.underlying55 hi hz0 hz1 .i64 .i64 _ _ l.length rfl rfl rfl rfl (by rw [hz2]; omega) (by unfold maxLen; omega) (Nat.le_refl _) ?_)
  intro w2 hown hgrow
  have hb2 : Below w1.heap.size w1 w2 := (Below.refl _ _).grown hgrow (Nat.le_refl _) (fun q hq => by cases hq)
  have hbw : Below w.heap.size w w2 := hb1.trans (hb2.mono hb1.size)
  have hI : IPart w2 w1.heap.size l 0 := by
    obtain ⟨cur, hh, hs⟩ := own_blockP hown
    exact ⟨cur, hh, hs, fun i x hi _ => absurd hi (Nat.not_lt_zero _)⟩
  have hg1 := hb1.size
  clear hown hgrow hb2 hi hz0 hz1 hz2 hb1
  generalize w1.heap.size = g at *
  go_wp2
  go_loopw [18] (fun i wr => ∃ k : Nat, k ≤ l.length ∧ i = .int .i64 k ∧ IPart wr g l k ∧ Below w.heap.size w wr) (fun i _ => l.length - (intOf i).toNat)
  case atStart => exact ⟨0, Nat.zero_le _, rfl, hI, hbw⟩
  case round =>
    obtain ⟨k, hk, rfl, hI, hbw⟩ := hrel
    by_cases hlt : k < l.length
    · obtain ⟨x, hx⟩ : ∃ x, l[k]? = some x := ⟨_, List.getElem?_eq_getElem hlt⟩
      have hki : (k : Int) < (l.length : Int) := by omega
      rcases unhide HR with hn | ⟨b, off, rfl, hbl, hcl⟩
      · rw [hn] at hlt; simp at hlt
      obtain ⟨c0, c1, c2, c3⟩ := hcl k x hx
      have hp := ((unhide HSZ) x (List.mem_of_getElem? hx)).2.2
      have n2 := fun w => itemOf_any x hp w
      have hgl := hI.lt
      have hcx := hbw.cell (p := ⟨b, off + k * 4, none⟩) hbl
      have d0 := hcx.trans c0
      have d1 := (hbw.cell (p := ⟨b, off + k * 4 + 1, none⟩) hbl).trans c1
      have d2 := (hbw.cell (p := ⟨b, off + k * 4 + 2, none⟩) hbl).trans c2
      have d3 := (hbw.cell (p := ⟨b, off + k * 4 + 3, none⟩) hbl).trans c3
      have HX := hide hx; have HI := hide hI; have HBW := hide hbw
      obtain ⟨nm, lb, pr, cf⟩ := x
      simp only at d0 d1 d2 d3
      unfold valApp at n2
      simp only at n2
      have N2 := hide n2
      clear hcx c0 c1 c2 c3 hx hI hbw n2 hp hcl
      go_wp2_with fail
      refine (unhide N2 _).mono ?_
      rintro e w3 ⟨gi, rfl, hgi, hbi, hb3⟩
      have hbA := (Below.refl wr.heap.size wr).alloc (Nat.le_refl _) (.cells #[.string nm, .string lb, .int .i64 pr, .bool cf] 90)
      have hbB : Below wr.heap.size wr w3 := hbA.trans (hb3.mono (by simp))
      have hI3 := (unhide HI).below hbB
      have hbW : Below w.heap.size w w3 := (unhide HBW).trans (hbB.mono (unhide HBW).size)
      obtain ⟨cur, hh, hs, hc⟩ := hI3
      have zf : ∀ o, w3.frozen? ⟨g, o, none⟩ = false := fun o => frozen_of_row _ _ o _ _ hh
      have hk3 : k * 3 + 2 < cur.size := by omega
      have z0 : ∃ u, w3.cell? ⟨g, k * 3, none⟩ = some u := ⟨cur[k * 3]'(by omega), by rw [cell_of_row _ _ _ _ _ _ hh]; exact Array.getElem?_eq_getElem (by omega)⟩
      have z1 : ∃ u, w3.cell? ⟨g, k * 3 + 1, none⟩ = some u := ⟨cur[k * 3 + 1]'(by omega), by rw [cell_of_row _ _ _ _ _ _ hh]; exact Array.getElem?_eq_getElem (by omega)⟩
      have z2 : ∃ u, w3.cell? ⟨g, k * 3 + 2, none⟩ = some u := ⟨cur[k * 3 + 2]'(by omega), by rw [cell_of_row _ _ _ _ _ _ hh]; exact Array.getElem?_eq_getElem (by omega)⟩
      obtain ⟨u0, z0⟩ := z0
      obtain ⟨u1, z1⟩ := z1
      obtain ⟨u2, z2⟩ := z2
      have HI3 : Hid (IPart w3 g l k) := hide ⟨cur, hh, hs, hc⟩
      have HBI := hide hbi; have HBW3 := hide hbW
      have hgl2 : g < gi := by simp at hgi; omega
      clear hbA hbB hbW hh hs hc hk3 hb3 hbi hgi
      go_wp2
      go_roundw
      case rel => exact ⟨k + 1, by omega, by go_num, (unhide HI3).next (unhide HX) hgl2 (unhide HBI), ((((unhide HBW3).setCell (by omega) _).setCell (by omega) _).setCell (by omega) _)⟩
      case measure => simp [intOf]; omega
    · obtain rfl : k = l.length := by omega
      have hrow := hI.row (fun x hx => ⟨((unhide HOK) x hx).1, ((unhide HOK) x hx).2.1⟩)
      have hw2 : wt 2 (l.map itemI) ≤ 1048576 := by
        have := wt_apps l (fun x hx => ((unhide HSZ) x hx).1)
        omega
      have n3 := print_any 2 (l.map itemI) (some ⟨g, 0, none⟩) l.length wr hrow (by omega) (by omega)
      have hE0 : printsE (measD 2 (l.map itemI)) = 0 := printsE_apps (unhide HE)
      have hT : printsS 2 (l.map itemI) = appsT l := rfl
      rw [hE0, hT, List.length_map] at n3
      have N3 := hide n3; have HBW := hide hbw
      clear n3 hE0 hT hrow hw2 hI hbw hlt
      go_wp2_with fail
      refine (unhide N3).mono ?_
      rintro e w3 ⟨rfl, hb3⟩
      go_wp2
      go_ret2
      exact ⟨ret_pairQ (unhide HS).symm rfl, (unhide HBW).trans (hb3.mono (unhide HBW).size)⟩
end Go.Proofs.YtfpglpefofcdeaaGreatDoor
