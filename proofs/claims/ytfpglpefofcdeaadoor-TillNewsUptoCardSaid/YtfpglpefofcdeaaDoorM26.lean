/- fits and measure of the program. -/
import Derived.Test.YtfpglpefofcdeaaDoorM16
import Derived.Test.YtfpglpefofcdeaaDoorM25
namespace Go.Proofs.YtfpglpefofcdeaaDoor
open Go.RowKit
set_option linter.unusedVariables false

/-- has it a tag and, beside it, only what such a tag may have? -/
def fitsB (t : Int) (s n : Nat) : Bool := if madeV t = true then s == 0 else validB t && n == 0
theorem str_empty (s : ByteArray) : s.toList.isEmpty = (s.size == 0) := by
  rw [Lib.toList_data]
  have hl : s.data.toList.length = s.size := by simp
  cases hq : s.data.toList with
  | nil =>
    rw [hq] at hl
    have : s.size = 0 := by rw [← hl]; rfl
    rw [this]; rfl
  | cons a b =>
    rw [hq] at hl
    have : s.size ≠ 0 := by rw [← hl]; simp
    rw [beq_eq_false_iff_ne.2 this]; rfl

set_option maxRecDepth 100000 in
theorem fits_any (t : Int) (s : ByteArray) (co : Option Addr) (n cc : Nat) (w : World) (ht : t ≤ 9223372036854775807) (hn : (n : Int) ≤ 9000000000000000000) :
    Calls Tryd.prog 83 #[.agg #[.int .i64 t, .string s, .slice co n cc]] w fun e w' => e = .returned (.bool (fitsB t s.size n)) ∧ Below w.heap.size w w' := by
  have n1 := fun w => madeV_any t w ht
  have n2 := fun w => valid_any t w ht
  unfold fitsB
  have he := str_empty s
  cases hm : madeV t with
  | true =>
    rw [hm] at n1
    have N1 := hide n1
    clear n1 n2 hm
    simp only [if_true]
    rw [← he]
    clear he
    go_enter Tryd.func83, Tryd.ntmps83
    go_wp2_with fail
    refine (unhide N1 _).mono ?_
    rintro e w1 ⟨rfl, hw1⟩
    subst hw1
    go_wp2
    go_ret
    exact ⟨by first | rfl | simp, by first | exact (Below.refl _ _).alloc (Nat.le_refl _) _ | exact Below.refl _ _⟩
  | false =>
    rw [hm] at n1
    simp only [Bool.false_eq_true, if_false]
    cases hv : validB t with
    | true =>
      rw [hv] at n2
      have N1 := hide n1; have N2 := hide n2
      have hz : ((n : Int) == 0) = (n == 0) := by rw [Bool.eq_iff_iff]; simp
      rw [Bool.true_and, ← hz]
      clear n1 n2 hm hv he hz
      go_enter Tryd.func83, Tryd.ntmps83
      go_wp2_with fail
      refine (unhide N1 _).mono ?_
      rintro e w1 ⟨rfl, hw1⟩
      subst hw1
      go_wp2_with fail
      refine (unhide N2 _).mono ?_
      rintro e w1 ⟨rfl, hw1⟩
      subst hw1
      go_wp2
      go_ret
      exact ⟨by first | rfl | simp, by first | exact (Below.refl _ _).alloc (Nat.le_refl _) _ | exact Below.refl _ _⟩
    | false =>
      rw [hv] at n2
      have N1 := hide n1; have N2 := hide n2
      rw [Bool.false_and]
      clear n1 n2 hm hv he
      go_enter Tryd.func83, Tryd.ntmps83
      go_wp2_with fail
      refine (unhide N1 _).mono ?_
      rintro e w1 ⟨rfl, hw1⟩
      subst hw1
      go_wp2_with fail
      refine (unhide N2 _).mono ?_
      rintro e w1 ⟨rfl, hw1⟩
      subst hw1
      go_wp2
      go_ret
      exact ⟨by first | rfl | simp, by first | exact (Below.refl _ _).alloc (Nat.le_refl _) _ | exact Below.refl _ _⟩

/-- one item more: in how many bytes, and how deep; M: of its own list -/
def stepM (M : List It → Option (Nat × Nat)) (acc : Option (Nat × Nat)) (x : It) : Option (Nat × Nat) :=
  match acc with
  | none => none
  | some (s, p) => if fitsB x.tag x.text.size x.list.length = true then (M x.list).map fun b => (s + (tagLen x.tag.toNat + lenLen (b.1 + x.text.size)) + (b.1 + x.text.size), max p (1 + b.2)) else none
def measD : Nat → List It → Option (Nat × Nat)
  | 0, _ => some (0, 0)
  | d + 1, l => l.foldl (stepM (measD d)) (some (0, 0))
theorem step_none (M : List It → Option (Nat × Nat)) (l : List It) : l.foldl (stepM M) none = none := by
  induction l with
  | nil => rfl
  | cons x r ih => rw [List.foldl_cons]; exact ih
theorem fold_take {M : List It → Option (Nat × Nat)} {l : List It} {k : Nat} {x : It} {a : Option (Nat × Nat)} (hx : l[k]? = some x) : (l.take (k + 1)).foldl (stepM M) a = stepM M ((l.take k).foldl (stepM M) a) x := by
  have hk : k < l.length := by
    rcases Nat.lt_or_ge k l.length with h | h
    · exact h
    · rw [List.getElem?_eq_none h] at hx; cases hx
  rw [List.getElem?_eq_getElem hk] at hx
  rw [List.take_succ_eq_append_getElem hk, List.foldl_append, Option.some.inj hx]
  rfl
theorem fold_stop {M : List It → Option (Nat × Nat)} {l : List It} {k : Nat} {a : Option (Nat × Nat)} (h : (l.take k).foldl (stepM M) a = none) : l.foldl (stepM M) a = none := by
  conv => lhs; rw [← List.take_append_drop k l]
  rw [List.foldl_append, h, step_none]
theorem lenLen_le (n : Nat) : 1 ≤ lenLen n ∧ lenLen n ≤ 3 := by unfold lenLen; split <;> (try split) <;> omega
theorem step_yes (M : List It → Option (Nat × Nat)) (s p : Nat) (x : It) : stepM M (some (s, p)) x = if fitsB x.tag x.text.size x.list.length = true then (M x.list).map fun b => (s + (tagLen x.tag.toNat + lenLen (b.1 + x.text.size)) + (b.1 + x.text.size), max p (1 + b.2)) else none := rfl
theorem fold_le {M : List It → Option (Nat × Nat)} {d : Nat} (hM : ∀ l s p, M l = some (s, p) → s ≤ 7 * wt d l ∧ p ≤ d) : ∀ (l : List It) (s0 p0 s p : Nat), l.foldl (stepM M) (some (s0, p0)) = some (s, p) → s ≤ s0 + 7 * wt (d + 1) l ∧ p ≤ max p0 (d + 1)
  | [], s0, p0, s, p, h => by simp at h; obtain ⟨rfl, rfl⟩ := h; omega
  | x :: r, s0, p0, s, p, h => by
    rw [List.foldl_cons, step_yes] at h
    by_cases hf : fitsB x.tag x.text.size x.list.length = true
    · rw [if_pos hf] at h
      cases hm : M x.list with
      | none => rw [hm, Option.map_none, step_none] at h; cases h
      | some b =>
        obtain ⟨b1, b2⟩ := b
        rw [hm, Option.map_some] at h
        have h1 := hM _ _ _ hm
        have h2 := fold_le hM r _ _ s p h
        have h3 := tagLen_le x.tag.toNat
        have h4 := lenLen_le (b1 + x.text.size)
        have e : wt (d + 1) (x :: r) = 1 + x.text.size + wt d x.list + wt (d + 1) r := by simp [wt]
        rw [e]
        simp only at h2
        omega
    · rw [if_neg hf, step_none] at h; cases h
theorem meas_le : ∀ (d : Nat) (l : List It) (s p : Nat), measD d l = some (s, p) → s ≤ 7 * wt d l ∧ p ≤ d
  | 0, l, s, p, h => by simp [measD] at h; obtain ⟨rfl, rfl⟩ := h; omega
  | d + 1, l, s, p, h => by
    have := fold_le (meas_le d) l 0 0 s p h
    omega
def measV (r : Option (Nat × Nat)) : Value := match r with
  | some (s, p) => .tuple #[.int .i64 s, .int .i64 p, .bool true]
  | none => .tuple #[.int .i64 0, .int .i64 0, .bool false]
theorem ret_meas {s p : Nat} {r : Option (Nat × Nat)} (h : r = some (s, p)) : Ending.returned (.tuple #[.int .i64 s, .int .i64 p, .bool true]) = .returned (measV r) := by rw [h]; rfl
theorem ret_meas_no {r : Option (Nat × Nat)} (h : r = none) : Ending.returned (.tuple #[.int .i64 0, .int .i64 0, .bool false]) = .returned (measV r) := by rw [h]; rfl

theorem wp_region_in {P : Program} {id : Nat} {Q : Exit → Act → World → Prop} {a : Act} {w : World} {l : List Oper} (C : World → Prop) (hC : C w.drew)
    (hm : P.follows .mixedOrders = true) (hB : Region.lexB .any l.toArray = true)
    (h : Quietly P l.toArray C (fun a' => ∀ w', C w' → Q .normal a' w') l a) : (Code.region id l.toArray true).wp P Q a w :=
  wp_region_quiet (C := C) hm hB hC (by simpa using h.out)
/-- worlds in which the small array is being written -/
structure RoomC (g gi : Nat) (v : Value) (w0 w : World) : Prop where
  six : Six g w
  room : RoomTo g w0 w
  cell : w.cell? ⟨gi, 0, none⟩ = some v
theorem calls_room {P : Program} {f : FuncId} {args : Array Value} {w0 w : World} {g gi : Nat} {v u : Value} (hw : RoomC g gi u w0 w) (hne : gi ≠ g) (hlt : gi < w0.heap.size)
    (h : Calls P f args w fun e w' => e = .returned v ∧ Six g w' ∧ RoomTo g w w') : Calls P f args w fun e w' => e = .returned v ∧ RoomC g gi u w0 w' :=
  h.mono fun _ w' ⟨he, h6, hr⟩ => ⟨he, h6, hw.room.trans hr, (World.cell?_of_block (w := w) (w' := w') (a := ⟨gi, 0, none⟩) (hr.block gi (Nat.lt_of_lt_of_le hlt hw.room.size) hne)).trans hw.cell⟩
theorem RoomTo.below {B g : Nat} {a w w' : World} (h : Below B a w) (hB : B ≤ w.heap.size) (hg : B ≤ g) (hr : RoomTo g w w') : Below B a w' :=
  ⟨hr.os.trans h.os, hr.tape.trans h.tape, hr.output.trans h.output, Nat.le_trans h.size hr.size, fun k hk => (hr.block k (by omega) (by omega)).trans (h.block k hk)⟩
theorem six_new (w : World) (e : TypeId) (a b c d f h : Value) : Six w.heap.size (w.alloc (.cells #[a, b, c, d, f, h] e)) := ⟨_, e, heap_alloc_new w _, rfl⟩

set_option maxRecDepth 1000000 in
set_option maxHeartbeats 8000000 in
theorem measure_any : ∀ (d : Nat) (l : List It) (ao : Option Addr) (cap : Nat) (w : World), IRow w d ao l → wt d l ≤ 2097152 → d ≤ 2097152 →
    Calls Tryd.prog 78 #[.slice ao l.length cap] w fun e w' => e = .returned (measV (measD d l)) ∧ Below w.heap.size w w'
  | 0, l, ao, cap, w, hr, hw, hdm => by
    have hl : l = [] := hr
    subst hl
    clear hr hw
    go_enter Tryd.func78, Tryd.ntmps78
    go_wp2
    go_loopw [2, 3, 13] (fun sv pv i wr => sv = .int .i64 0 ∧ pv = .int .i64 0 ∧ i = .int .i64 0 ∧ Below w.heap.size w wr) (fun _ _ _ _ => 0)
    case atStart => exact ⟨rfl, rfl, rfl, Below.refl _ _⟩
    case round =>
      obtain ⟨rfl, rfl, rfl, hbw⟩ := hrel
      go_wp2
      go_ret3
      exact ⟨rfl, hbw⟩
  | d + 1, l, ao, cap, w, hr, hw, hdm => by
    have hlen := hr.length_le
    have hlm : (l.length : Int) ≤ 2097152 := by omega
    have hres : measD (d + 1) l = l.foldl (stepM (measD d)) (some (0, 0)) := rfl
    have IH := hide (measure_any d)
    have HW := hide hw; have HR := hide hres; have HD := hide hdm
    clear hw hres hlen hdm
    go_enter Tryd.func78, Tryd.ntmps78
    go_wp2
    go_loopw [2, 3, 13] (fun sv pv i wr => ∃ k s p : Nat, k ≤ l.length ∧ sv = .int .i64 s ∧ pv = .int .i64 p ∧ i = .int .i64 k ∧ (l.take k).foldl (stepM (measD d)) (some (0, 0)) = some (s, p) ∧ Below w.heap.size w wr) (fun _ _ i _ => l.length - (intOf i).toNat)
    case atStart => exact ⟨0, 0, 0, Nat.zero_le _, rfl, rfl, rfl, by simp, Below.refl _ _⟩
    case round =>
      rename World => wo
      obtain ⟨k, s, p, hk, rfl, rfl, rfl, hfo, hbw⟩ := hrel
      by_cases hlt : k < l.length
      · rcases hr with hnil | ⟨b, off, rfl, hb, hc⟩
        · rw [hnil] at hlt; simp at hlt
        obtain ⟨x, hx⟩ : ∃ x, l[k]? = some x := ⟨_, List.getElem?_eq_getElem hlt⟩
        obtain ⟨co, cc, c0, c1, c2, hcc, hsub, htag, htxt⟩ := hc k x hx
        have hwx := wt_get (d := d) hx
        have hww := unhide HW
        have hxn := hsub.length_le
        have d0 : wo.cell? ⟨b, off + k * 3, none⟩ = _ := (hbw.cell (p := ⟨b, off + k * 3, none⟩) hb).trans c0
        have d1 : wo.cell? ⟨b, off + k * 3 + 1, none⟩ = _ := (hbw.cell (p := ⟨b, off + k * 3 + 1, none⟩) hb).trans c1
        have d2 : wo.cell? ⟨b, off + k * 3 + 2, none⟩ = _ := (hbw.cell (p := ⟨b, off + k * 3 + 2, none⟩) hb).trans c2
        have hbk : b < wo.heap.size := World.block_lt_of_cell? _ _ d0
        have hsm : (s : Int) ≤ 14680064 ∧ (p : Int) ≤ 2097153 := by
          have h1 := fold_le (meas_le d) (l.take k) 0 0 s p hfo
          have h2 : wt (d + 1) (l.take k) ≤ wt (d + 1) l := by
            conv => rhs; rw [← List.take_append_drop k l]
            simp only [wt, List.map_append, List.sum_append]
            omega
          have := unhide HD
          omega
        have hts : (x.text.size : Int) ≤ 2097152 := by omega
        have n1 := fun w => fits_any x.tag x.text co x.list.length cc w htag (by omega)
        have N2 := hide (fun (w2 : World) (h : Below w.heap.size w w2) => unhide IH x.list co cc w2 (IRow.below h d hsub) (by omega) (by have := unhide HD; omega))
        have hnx := fold_take (M := measD d) (a := some (0, 0)) hx
        rw [hfo] at hnx
        have hml := meas_le d x.list
        have hwl : wt d x.list ≤ 2097152 := by omega
        have hft : fitsB x.tag x.text.size x.list.length = true → validB x.tag = true := fun h => by
          unfold fitsB at h
          split at h
          · rename_i hm; unfold madeV at hm; simp at hm; exact hm.1
          · simp at h; exact h.1
        simp only [stepM] at hnx
        generalize x.tag = xt at *
        generalize x.text = xs at *
        generalize x.list.length = xn at *
        generalize measD d x.list = xm at *
        clear c0 c1 c2 hc hsub hx hww hwx hxn hfo
        cases hf : fitsB xt xs.size xn with
        | false =>
          rw [hf] at n1 hnx
          simp only [Bool.false_eq_true, if_false] at hnx
          have N1 := hide n1; have HN := hide (fold_stop hnx)
          clear n1 hnx hf hml hwl hft N2
          go_wp2_with fail
          refine (unhide N1 _).mono ?_
          rintro e w2 ⟨rfl, hb2⟩
          go_wp2
          go_ret3
          exact ⟨ret_meas_no (by rw [unhide HR, unhide HN]), by
            first
              | exact below_more hbw hbw.size hb2
              | exact below_more (hbw.alloc hbw.size _) (by have := hbw.size; simp; omega) hb2⟩
        | true =>
          rw [hf] at n1 hnx
          simp only [if_true] at hnx
          have hvt := hft hf
          obtain ⟨hv1, hv2⟩ := validB_lt hvt
          obtain ⟨tn, rfl⟩ := Int.eq_ofNat_of_zero_le (show 0 ≤ xt by omega)
          have ht6 : tn < 16777216 := by omega
          cases hxm : xm with
          | none =>
            rw [hxm] at N2 hnx
            have N1 := hide n1; have HN := hide (fold_stop hnx)
            clear n1 hnx hf hml hwl hft hvt hv1 hv2 ht6 hxm
            go_wp2_with fail
            have hblk1 := heap_alloc_new wo (.cells #[.int .i64 (tn : Int), .string xs, .slice co xn cc] 123)
            have hbel1 : Below w.heap.size w (wo.alloc (.cells #[.int .i64 (tn : Int), .string xs, .slice co xn cc] 123)) := hbw.alloc hbw.size _
            have hsz1 : wo.heap.size < (wo.alloc (.cells #[.int .i64 (tn : Int), .string xs, .slice co xn cc] 123)).heap.size := by simp
            have hgi : w.heap.size ≤ wo.heap.size := hbw.size
            generalize wo.alloc (.cells #[.int .i64 (tn : Int), .string xs, .slice co xn cc] 123) = wi at *
            clear hbw d0 d1 d2 hbk
            generalize wo.heap.size = gi at *
            refine (unhide N1 _).mono ?_
            rintro e w2 ⟨rfl, hb2⟩
            have hblk2 : w2.heap[gi]? = some (.cells #[.int .i64 (tn : Int), .string xs, .slice co xn cc] 123 (0, 0)) := (hb2.block _ hsz1).trans hblk1
            have hbel2 := below_more hbel1 hbel1.size hb2
            have hsz2 : gi < w2.heap.size := Nat.lt_of_lt_of_le hsz1 hb2.size
            have z0 : w2.cell? ⟨gi, 0, none⟩ = some (.int .i64 (tn : Int)) := cell_of_row _ _ 0 _ _ _ hblk2
            have z2 : w2.cell? ⟨gi, 2, none⟩ = some (.slice co xn cc) := cell_of_row _ _ 2 _ _ _ hblk2
            clear hblk1 hbel1 hsz1 hb2
            go_wp2_with fail
            refine (unhide N2 _ hbel2).mono ?_
            rintro e w3 ⟨he, hb3⟩
            have hblk3 : w3.heap[gi]? = some (.cells #[.int .i64 (tn : Int), .string xs, .slice co xn cc] 123 (0, 0)) := (hb3.block _ hsz2).trans hblk2
            have hbel3 := below_more hbel2 hbel2.size hb3
            have hsz3 : gi < w3.heap.size := Nat.lt_of_lt_of_le hsz2 hb3.size
            clear z0 z2 hblk2 hbel2 hsz2 hb3 N2
            have he2 : e = .returned (.tuple #[.int .i64 0, .int .i64 0, .bool false]) := he
            subst he2
            clear he
            go_wp2
            go_ret3
            exact ⟨ret_meas_no (by rw [unhide HR, unhide HN]), hbel3⟩
          | some bb =>
            obtain ⟨b1, b2⟩ := bb
            rw [hxm] at N2 hnx
            simp only [Option.map_some, Int.toNat_natCast] at hnx
            have hbb := hml b1 b2 hxm
            have N1 := hide n1; have HX := hide hnx
            have hb1 : (b1 : Int) ≤ 14680064 := by omega
            have hb2' : (b2 : Int) ≤ 2097152 := by have := unhide HD; omega
            have n6 := fun g w h => appendHead_room tn (b1 + xs.size) g w ht6 (by omega) h
            have h3 := tagLen_le tn
            have h4 := lenLen_le (b1 + xs.size)
            have h5 : ((tagLen tn + lenLen (b1 + xs.size) : Nat) : Int) ≤ 6 := by omega
            rw [show ((b1 + xs.size : Nat) : Int) = (b1 : Int) + (xs.size : Int) from by omega] at n6
            generalize tagLen tn + lenLen (b1 + xs.size) = hd6 at *
            have hw1 : IntKind.i64.wrap ((hd6 : Int) + ((b1 : Int) + (xs.size : Int))) = (hd6 : Int) + ((b1 : Int) + (xs.size : Int)) := wraps_i64 _ (by omega) (by omega)
            have hw2 : IntKind.i64.wrap ((s : Int) + ((hd6 : Int) + ((b1 : Int) + (xs.size : Int)))) = (s : Int) + ((hd6 : Int) + ((b1 : Int) + (xs.size : Int))) := wraps_i64 _ (by omega) (by omega)
            have N6 := hide n6
            clear n1 n6 hnx hf hml hwl hft hvt hv1 hv2 ht6 hxm hbb
            go_wp2_with fail
            have hblk1 := heap_alloc_new wo (.cells #[.int .i64 (tn : Int), .string xs, .slice co xn cc] 123)
            have hbel1 : Below w.heap.size w (wo.alloc (.cells #[.int .i64 (tn : Int), .string xs, .slice co xn cc] 123)) := hbw.alloc hbw.size _
            have hsz1 : wo.heap.size < (wo.alloc (.cells #[.int .i64 (tn : Int), .string xs, .slice co xn cc] 123)).heap.size := by simp
            have hgi : w.heap.size ≤ wo.heap.size := hbw.size
            generalize wo.alloc (.cells #[.int .i64 (tn : Int), .string xs, .slice co xn cc] 123) = wi at *
            clear hbw d0 d1 d2 hbk
            generalize wo.heap.size = gi at *
            refine (unhide N1 _).mono ?_
            rintro e w2 ⟨rfl, hb2⟩
            have hblk2 : w2.heap[gi]? = some (.cells #[.int .i64 (tn : Int), .string xs, .slice co xn cc] 123 (0, 0)) := (hb2.block _ hsz1).trans hblk1
            have hbel2 := below_more hbel1 hbel1.size hb2
            have hsz2 : gi < w2.heap.size := Nat.lt_of_lt_of_le hsz1 hb2.size
            have z0 : w2.cell? ⟨gi, 0, none⟩ = some (.int .i64 (tn : Int)) := cell_of_row _ _ 0 _ _ _ hblk2
            have z2 : w2.cell? ⟨gi, 2, none⟩ = some (.slice co xn cc) := cell_of_row _ _ 2 _ _ _ hblk2
            clear hblk1 hbel1 hsz1 hb2
            go_wp2_with fail
            refine (unhide N2 _ hbel2).mono ?_
            rintro e w3 ⟨he, hb3⟩
            have hblk3 : w3.heap[gi]? = some (.cells #[.int .i64 (tn : Int), .string xs, .slice co xn cc] 123 (0, 0)) := (hb3.block _ hsz2).trans hblk2
            have hbel3 := below_more hbel2 hbel2.size hb3
            have hsz3 : gi < w3.heap.size := Nat.lt_of_lt_of_le hsz2 hb3.size
            clear z0 z2 hblk2 hbel2 hsz2 hb3 N2
            have he2 : e = .returned (.tuple #[.int .i64 b1, .int .i64 b2, .bool true]) := he
            subst he2
            clear he
            have z0 : w3.cell? ⟨gi, 0, none⟩ = some (.int .i64 (tn : Int)) := cell_of_row _ _ 0 _ _ _ hblk3
            have z1 : w3.cell? ⟨gi, 1, none⟩ = some (.string xs) := cell_of_row _ _ 1 _ _ _ hblk3
            go_wp2_with fail
            have hC0 : ∀ o, RoomC w3.heap.size gi (.int .i64 (tn : Int)) (w3.alloc (.cells #[.int .u8 0, .int .u8 0, .int .u8 0, .int .u8 0, .int .u8 0, .int .u8 0] o)) (w3.alloc (.cells #[.int .u8 0, .int .u8 0, .int .u8 0, .int .u8 0, .int .u8 0, .int .u8 0] o)).drew := fun o =>
              ⟨six_new w3 o _ _ _ _ _ _, (RoomTo.refl _ _).drew, (World.cell?_of_block (w := w3) (w' := w3.alloc _) (a := ⟨gi, 0, none⟩) (Below.heap_alloc _ _ _ hsz3)).trans z0⟩
            refine wp_region_in (RoomC w3.heap.size gi (.int .i64 (tn : Int)) (w3.alloc (.cells #[.int .u8 0, .int .u8 0, .int .u8 0, .int .u8 0, .int .u8 0, .int .u8 0] _))) (hC0 _) (by kernel_rfl) (by kernel_rfl) ?_
            repeat (
              refine Quietly.step (fun K hK => ?_)
              go_simp
              first
                | (refine hK _ ?_; clear hK K)
                | (apply Exists.intro
                   refine ⟨fun w1 hw1 => ?_, hK _ ?_⟩
                   (first | rfl | (go_at_call 84; exact calls_room hw1 (by omega) (by simp; omega) (unhide N6 _ _ hw1.six)) | (have hcx := hw1.cell; go_simp; first | done | rfl) | (have hcx := hw1.cell; rw [hcx]; go_simp; first | done | rfl))
                   clear hK K))
            refine Quietly.nil ?_
            intro w6 hw6
            have hb6 : Below w.heap.size w w6 := RoomTo.below (hbel3.alloc hbel3.size _) (by have := hbel3.size; simp; omega) hbel3.size hw6.room
            clear hw6 hC0 z0 z1 hblk3 hbel3 hsz3
            go_wp2_with fail
            refine ⟨⟨k + 1, s + hd6 + (b1 + xs.size), max p (1 + b2), by omega, ?_, ?_, by go_num, unhide HX, hb6⟩, by simp [intOf]; omega⟩
            · congr 1; omega
            · congr 1; split <;> omega
      · have hke : k = l.length := by omega
        have HN := hide (show l.foldl (stepM (measD d)) (some (0, 0)) = some (s, p) by rw [hke, List.take_length] at hfo; exact hfo)
        clear hfo
        go_wp2
        go_ret3
        exact ⟨ret_meas (by rw [unhide HR, unhide HN]), hbw⟩
end Go.Proofs.YtfpglpefofcdeaaDoor
