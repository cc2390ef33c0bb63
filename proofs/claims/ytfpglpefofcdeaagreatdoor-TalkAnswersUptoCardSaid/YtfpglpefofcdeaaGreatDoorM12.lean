/- AppsText of the reference. -/
import Derived.Test.YtfpglpefofcdeaaGreatDoorM08
import Derived.Test.YtfpglpefofcdeaaGreatDoorM11
import Derived.Lib.SmallJoins
import Derived.Deep.AppendLies
import Derived.Deep.RegionHeld3
import Derived.Deep.RegionWith
import Derived.Deep.RegionLaw
namespace Go.Proofs.YtfpglpefofcdeaaGreatDoor
open Go.RowKit
set_option linter.unusedVariables false

/-- the text of an application's own items -/
def inS (x : XApp) : ByteArray := strOfNums [79, (x.name.size : Int)] ++ x.name ++ strOfNums [80, (x.label.size : Int)] ++ x.label ++ strOfNums [135, 1, lastN x]
/-- applications, one behind the other -/
def refT (l : List XApp) : ByteArray := strOfNums (textD 2 (l.map itemI))
theorem str_strL (s : ByteArray) : strOfNums (strL s) = s := strOf_strL s
theorem itemL_small {t : Nat} {b : List Int} (ht : t < 256) (hb : b.length < 128) : itemL t b = (t : Int) :: (b.length : Int) :: b := by
  unfold itemL
  have h1 : tagL t = [(t : Int)] := by
    show bigL t (tagLen t) = _
    have h2 : tagLen t = 1 := by unfold tagLen; rw [if_pos ht]
    rw [h2]
    simp [bigL]
    omega
  have h3 : lenL b.length = [(b.length : Int)] := by unfold lenL; rw [if_pos hb]
  rw [h1, h3]
  rfl
theorem in_text (x : XApp) (h : sizedA x) : textD 1 (itemI x).list = [79, (x.name.size : Int)] ++ strL x.name ++ [80, (x.label.size : Int)] ++ strL x.label ++ [135, 1, lastN x] ∨ ¬ (0 ≤ lastN x ∧ lastN x < 256) := by
  by_cases hl : 0 ≤ lastN x ∧ lastN x < 256
  case neg => exact .inr hl
  left
  obtain ⟨a, b⟩ := h
  have e1 : bodyL (textD 0) (.mk 79 x.name []) = strL x.name := body_not made_79
  have e2 : bodyL (textD 0) (.mk 80 x.label []) = strL x.label := body_not made_80
  have e3 : bodyL (textD 0) (.mk 135 (strOfNums [lastN x]) []) = strL (strOfNums [lastN x]) := body_not made_135
  have e4 : strL (strOfNums [lastN x]) = [lastN x] := strL_nums (fun n hn => by simp at hn; subst hn; exact hl)
  have hn := strL_length x.name
  have hb := strL_length x.label
  have f1 : itemL (It.mk 79 x.name []).tag.toNat (bodyL (textD 0) (.mk 79 x.name [])) = 79 :: (x.name.size : Int) :: strL x.name := by
    rw [e1, show (It.mk 79 x.name []).tag.toNat = 79 from rfl, itemL_small (by decide) (by omega), hn]; rfl
  have f2 : itemL (It.mk 80 x.label []).tag.toNat (bodyL (textD 0) (.mk 80 x.label [])) = 80 :: (x.label.size : Int) :: strL x.label := by
    rw [e2, show (It.mk 80 x.label []).tag.toNat = 80 from rfl, itemL_small (by decide) (by omega), hb]; rfl
  have f3 : itemL (It.mk 135 (strOfNums [lastN x]) []).tag.toNat (bodyL (textD 0) (.mk 135 (strOfNums [lastN x]) [])) = [135, 1, lastN x] := by
    rw [e3, e4, show (It.mk 135 (strOfNums [lastN x]) []).tag.toNat = 135 from rfl, itemL_small (by decide) (by simp)]; rfl
  show List.flatMap _ [_, _, _] = _
  rw [List.flatMap_cons, List.flatMap_cons, List.flatMap_cons, List.flatMap_nil, f1, f2, f3]
  simp
theorem made_97 : madeV 97 = true := by decide +kernel
theorem last_byte {x : XApp} (h0 : 0 ≤ x.prio) (h1 : x.prio ≤ 15) : 0 ≤ lastN x ∧ lastN x < 256 := by
  unfold lastN
  split <;> omega
theorem in_str (x : XApp) (h : sizedA x) (h0 : 0 ≤ x.prio) (h1 : x.prio ≤ 15) : strOfNums (textD 1 (itemI x).list) = inS x ∧ (textD 1 (itemI x).list).length = x.name.size + x.label.size + 7 := by
  rcases in_text x h with e | e
  · rw [e]
    constructor
    · simp only [← strOfNums_append, str_strL]; rfl
    · simp [strL_length]; omega
  · exact absurd (last_byte h0 h1) e
theorem refT_next (l : List XApp) (k : Nat) (x : XApp) (hx : l[k]? = some x) (h : sizedA x) (h0 : 0 ≤ x.prio) (h1 : x.prio ≤ 15) :
    refT (l.take (k + 1)) = refT (l.take k) ++ (strOfNums [97, ((inS x).size : Int)] ++ inS x) := by
  obtain ⟨e, hl⟩ := in_str x h h0 h1
  have hs : (inS x).size = x.name.size + x.label.size + 7 := by rw [← e, strOfNums_size]; exact hl
  have hm : (l.map itemI)[k]? = some (itemI x) := by rw [List.getElem?_map, hx]; rfl
  have ht := text_take (d := 1) hm
  unfold refT
  rw [List.map_take, List.map_take, ht, ← strOfNums_append]
  congr 1
  have hb : bodyL (textD 1) (itemI x) = textD 1 (itemI x).list := body_made made_97
  rw [hb, show (itemI x).tag.toNat = 97 from rfl, itemL_small (by decide) (by obtain ⟨a, b⟩ := h; omega), hl, hs]
  rw [← e]
  rw [show ((97 : Nat) : Int) :: ((x.name.size + x.label.size + 7 : Nat) : Int) :: textD 1 (itemI x).list = [97, ((x.name.size + x.label.size + 7 : Nat) : Int)] ++ textD 1 (itemI x).list from rfl, ← strOfNums_append]
theorem refT_all {l : List XApp} (h : appsE l = 0) : refT l = appsT l := by
  unfold refT appsT printsS
  rw [printsE_apps h, if_pos rfl]
theorem refT_size : ∀ (l : List XApp) (k : Nat), (∀ x ∈ l, sizedA x ∧ 0 ≤ x.prio ∧ x.prio ≤ 15) → k ≤ l.length → (refT (l.take k)).size ≤ k * 90
  | l, 0, _, _ => by simp [refT, textD, strOfNums_size]
  | l, k + 1, h, hk => by
    have ih := refT_size l k h (by omega)
    obtain ⟨x, hx⟩ : ∃ x, l[k]? = some x := ⟨_, List.getElem?_eq_getElem (by omega)⟩
    obtain ⟨a, b, c⟩ := h x (List.mem_of_getElem? hx)
    obtain ⟨e, hl⟩ := in_str x a b c
    have hs : (inS x).size = x.name.size + x.label.size + 7 := by rw [← e, strOfNums_size]; exact hl
    rw [refT_next l k x hx a b c, ByteArray.size_append, ByteArray.size_append, strOfNums_size, hs]
    obtain ⟨p, q⟩ := a
    simp only [List.length_cons, List.length_nil]
    omega
theorem inS_size (x : XApp) : (inS x).size = x.name.size + x.label.size + 7 := by
  unfold inS
  simp only [ByteArray.size_append, strOfNums_size, List.length_cons, List.length_nil]
  omega
theorem bytesP2 (x y : Int) (h0 : 0 ≤ x ∧ x < 256) (h1 : 0 ≤ y ∧ y < 256) (b cap : Nat) (w : World) (c0 : w.cell? ⟨b, 0, none⟩ = some (.int .i64 x)) (c1 : w.cell? ⟨b, 1, none⟩ = some (.int .i64 y)) :
    Calls Tryz.prog 19 #[.slice (some ⟨b, 0, none⟩) 2 cap] w fun e w' => e = .returned (.string (strOfNums [x, y])) ∧ Below w.heap.size w w' := by
  have h := bytes_any [x, y] b 0 2 cap w rfl (by omega) (World.block_lt_of_cell? w _ c0) (fun i hi => by
    have : i = 0 ∨ i = 1 := by omega
    rcases this with rfl | rfl
    · exact c0
    · exact c1)
  have e : ([x, y] : List Int).map lowByte = [x, y] := by simp [lowByte]; omega
  rw [e] at h
  exact h
theorem bytesP3 (x y z : Int) (h0 : 0 ≤ x ∧ x < 256) (h1 : 0 ≤ y ∧ y < 256) (h2 : 0 ≤ z ∧ z < 256) (b cap : Nat) (w : World) (c0 : w.cell? ⟨b, 0, none⟩ = some (.int .i64 x)) (c1 : w.cell? ⟨b, 1, none⟩ = some (.int .i64 y)) (c2 : w.cell? ⟨b, 2, none⟩ = some (.int .i64 z)) :
    Calls Tryz.prog 19 #[.slice (some ⟨b, 0, none⟩) 3 cap] w fun e w' => e = .returned (.string (strOfNums [x, y, z])) ∧ Below w.heap.size w w' := by
  have h := bytes_any [x, y, z] b 0 3 cap w rfl (by omega) (World.block_lt_of_cell? w _ c0) (fun i hi => by
    have : i = 0 ∨ i = 1 ∨ i = 2 := by omega
    rcases this with rfl | rfl | rfl
    · exact c0
    · exact c1
    · exact c2)
  have e : ([x, y, z] : List Int).map lowByte = [x, y, z] := by simp [lowByte]; omega
  rw [e] at h
  exact h
theorem keep_cellQ {w w' : World} {a : Addr} {v : Value} (h : Below w.heap.size w w') (hc : w.cell? a = some v) : w'.cell? a = some v := (h.cell (World.block_lt_of_cell? w a hc)).trans hc
theorem old_cellQ {w : World} {o : Obj} {a : Addr} {v : Value} (hc : w.cell? a = some v) : (w.alloc o).cell? a = some v := keep_cellQ ((Below.refl w.heap.size w).alloc (Nat.le_refl _) o) hc
theorem drew_cellQ {w : World} {a : Addr} {v : Value} (hc : w.cell? a = some v) : w.drew.cell? a = some v := hc
theorem new_cellQ {w : World} {g j : Nat} {cs : Array Value} {e : TypeId} {v : Value} (hg : g = w.heap.size) (hc : cs[j]? = some v) : (w.alloc (.cells cs e)).cell? ⟨g, j, none⟩ = some v := by
  subst hg
  rw [cell_of_row _ _ j _ e _ (heap_alloc_new w _)]
  exact hc
theorem ext_drewQ (W : World) : Below W.heap.size W W.drew := (Below.refl _ _).drew
theorem ext_allocQ {W x : World} (h : Below W.heap.size W x) (o : Obj) : Below W.heap.size W (x.alloc o) := h.alloc h.size o
theorem ext_callQ {W x y : World} (h : Below W.heap.size W x) (k : Below x.heap.size x y) : Below W.heap.size W y := h.trans (k.mono h.size)
end Go.Proofs.YtfpglpefofcdeaaGreatDoor
namespace Go.Proofs.YtfpglpefofcdeaaGreatDoor
open Go.RowKit
set_option linter.unusedVariables false

/-- a text with its tag -/
def leafC (x : Int × ByteArray) : List Value := [.int .i64 x.1, .string x.2, .slice none 0 0]
def leavesC : List (Int × ByteArray) → List Value
  | [] => []
  | x :: r => leafC x ++ leavesC r
theorem leavesC_snoc (l : List (Int × ByteArray)) (x : Int × ByteArray) : leavesC (l ++ [x]) = leavesC l ++ leafC x := by
  induction l with
  | nil => simp [leavesC]
  | cons y r ih => simp [leavesC, ih]
theorem leavesC_length (l : List (Int × ByteArray)) : (leavesC l).length = l.length * 3 := by
  induction l with
  | nil => rfl
  | cons y r ih => simp [leavesC, leafC, ih]; omega
theorem leavesC_at (l : List (Int × ByteArray)) (i : Nat) (x : Int × ByteArray) (h : l[i]? = some x) : (leavesC l)[i * 3]? = some (.int .i64 x.1) ∧ (leavesC l)[i * 3 + 1]? = some (.string x.2) ∧ (leavesC l)[i * 3 + 2]? = some (.slice none 0 0) := by
  induction l generalizing i with
  | nil => simp at h
  | cons y r ih =>
    cases i with
    | zero =>
      obtain rfl : y = x := by simpa using h
      exact ⟨rfl, rfl, rfl⟩
    | succ i =>
      obtain ⟨h0, h1, h2⟩ := ih i (by simpa using h)
      have e : ∀ j, (leavesC (y :: r))[(i + 1) * 3 + j]? = (leavesC r)[i * 3 + j]? := fun j => by
        rw [leavesC, List.getElem?_append_right (by simp [leafC]; omega)]
        congr 1
        simp [leafC]; omega
      exact ⟨(e 0).trans h0, (e 1).trans h1, (e 2).trans h2⟩
/-- what is gathered: a block with the row and the first thing that is wrong -/
def Parts (w : World) (b : Nat) (ls : List (Int × ByteArray)) (er : Int) : Prop :=
  ∃ v, w.heap[b]? = some (.cells #[v, .int .i64 er] 57 (0, 0)) ∧ w.ownsRow (b + 1) 101 3 v ls.length (leavesC ls)
theorem Parts.lt {w : World} {b : Nat} {ls : List (Int × ByteArray)} {er : Int} (h : Parts w b ls er) : b < w.heap.size := by
  obtain ⟨v, hh, _⟩ := h
  exact block_ltQ hh
theorem Parts.below {w w' : World} {b : Nat} {ls : List (Int × ByteArray)} {er : Int} (h : Parts w b ls er) (hb : Below w.heap.size w w') : Parts w' b ls er := by
  obtain ⟨v, hh, ho⟩ := h
  exact ⟨v, (hb.block b (block_ltQ hh)).trans hh, owns_keep ho hb⟩
theorem alloc_keepT {w : World} {g : Nat} {o o' : Obj} (h : w.heap[g]? = some o) : (w.drew.alloc o').heap[g]? = some o := by
  rw [((Below.refl w.drew.heap.size w.drew).alloc (Nat.le_refl _) o').block g (block_ltQ h)]; exact h
theorem owns_setQ {w : World} {base b j : Nat} {e : TypeId} {size : Nat} {v u : Value} {n : Nat} {xs : List Value} (h : w.ownsRow base e size v n xs) (hb : b < base) : (w.setCell ⟨b, j, none⟩ u).ownsRow base e size v n xs := by
  refine ⟨h.1, ?_⟩
  rcases h.2 with h1 | ⟨g, cap, cur, h1, hB, hh, h2⟩
  · exact .inl h1
  · exact .inr ⟨g, cap, cur, h1, hB, (Below.heap_setCell _ _ _ _ (by show g ≠ b; omega)).trans hh, h2⟩
theorem blame_any (b : Nat) (ls : List (Int × ByteArray)) (er x : Int) (w : World) (h : Parts w b ls er) :
    Calls Tryz.prog 49 #[.pointer (some ⟨b, 0, none⟩), .int .i64 x] w fun e w' => e = .returned (.tuple #[]) ∧ Parts w' b ls (if er = 0 then x else er) ∧ Below b w w' := by
  obtain ⟨v, hh, ho⟩ := h
  have c1 : w.cell? ⟨b, 1, none⟩ = some (.int .i64 er) := cell_of_row _ _ 1 _ _ _ hh
  have f1 : ∀ o, w.frozen? ⟨b, o, none⟩ = false := fun o => frozen_of_row _ _ o _ _ hh
  by_cases he : er = 0
  · rw [if_pos he]
    subst he
    have H := hide hh; have HO := hide ho
    clear hh ho
    go_enter Tryz.func49, Tryz.ntmps49
    go_wp2
    go_end0
    refine ⟨rfl, ⟨v, set_rowQ (j := 1) (v := .int .i64 x) (unhide H), ?_⟩, Below.setCell (p := ⟨b, 1, none⟩) (Below.refl _ _) (Nat.le_refl _) _⟩
    exact owns_setQ (unhide HO) (Nat.lt_succ_self _)
  · rw [if_neg he]
    have t1 : (er == 0) = false := by simpa using he
    have H := hide hh; have HO := hide ho
    clear hh ho he
    go_enter Tryz.func49, Tryz.ntmps49
    go_wp2
    go_end0
    exact ⟨rfl, ⟨v, unhide H, unhide HO⟩, Below.refl _ _⟩

theorem infoItemT : (Tryz.prog.info? 101).map (fun i => (i.zero, i.size, i.bytes)) = some (some (.agg #[.int .i64 0, .string ⟨#[]⟩, .slice none 0 0]), 3, 48) := by kernel_rfl
theorem text_facts {w w3 : World} {o : Obj} {b g cap : Nat} {v : Value} {er : Int} {ls : List (Int × ByteArray)} (hh : w.heap[b]? = some (.cells #[v, .int .i64 er] 57 (0, 0)))
    (hgrow : (w.drew.alloc o).grownBy w3 v.ownBlock) (own3 : w3.ownsRow (b + 1) 101 3 (.slice (some ⟨g, 0, none⟩) (ls.length + 1) cap) (ls.length + 1) (leavesC ls ++ [.int .i64 0, .string ⟨#[]⟩, .slice none 0 0]))
    (hne : some b ≠ v.ownBlock) :
    w3.cell? ⟨g, ls.length * 3, none⟩ = some (.int .i64 0) ∧ w3.cell? ⟨g, ls.length * 3 + 1, none⟩ = some (.string ⟨#[]⟩) ∧ w3.cell? ⟨g, ls.length * 3 + 2, none⟩ = some (.slice none 0 0) ∧
    (∀ o, w3.frozen? ⟨g, o, none⟩ = false) ∧ w3.cell? ⟨b, 0, none⟩ = some v ∧ (∀ o, w3.frozen? ⟨b, o, none⟩ = false) ∧ b < g := by
  have hb3 : w3.heap[b]? = some (.cells #[v, .int .i64 er] 57 (0, 0)) := by
    rw [hgrow.block b (by have := block_ltQ hh; simp; omega) hne]
    exact alloc_keepT hh
  rcases own3.2 with ⟨h1, h2⟩ | ⟨g', cap', cur, h1, hB, hh3, hle, hm, hsz, htk⟩
  · cases h1
  · simp only [Value.slice.injEq, Option.some.injEq, Addr.mk.injEq, and_true, true_and] at h1
    obtain ⟨rfl, rfl⟩ := h1
    have hl := leavesC_length ls
    have hc : ∀ j, j < 3 → cur[ls.length * 3 + j]? = ([.int .i64 0, .string ⟨#[]⟩, .slice none 0 0] : List Value)[j]? := fun j hj => by
      have e : (leavesC ls ++ [.int .i64 0, .string ⟨#[]⟩, .slice none 0 0])[ls.length * 3 + j]? = ([.int .i64 0, .string ⟨#[]⟩, .slice none 0 0] : List Value)[j]? := by
        rw [List.getElem?_append_right (by omega)]
        congr 1
        omega
      rw [← htk, List.getElem?_take_of_lt (by omega)] at e
      rw [← e]
      simp
    refine ⟨?_, ?_, ?_, fun o => frozen_of_row _ _ o _ _ hh3, cell_of_row _ _ 0 _ _ _ hb3, fun o => frozen_of_row _ _ o _ _ hb3, by omega⟩
    · rw [cell_of_row _ _ _ _ _ _ hh3]; exact hc 0 (by omega)
    · rw [cell_of_row _ _ _ _ _ _ hh3]; exact hc 1 (by omega)
    · rw [cell_of_row _ _ _ _ _ _ hh3]; exact hc 2 (by omega)
theorem set3 (L : List Value) (a b c x y z : Value) (m : Nat) (h : L.length = m) : (((L ++ [a, b, c]).set m x).set (m + 1) y).set (m + 2) z = L ++ [x, y, z] := by
  subst h
  induction L with
  | nil => rfl
  | cons u r ih => exact congrArg (List.cons u) ih
theorem parts_own {w : World} {b g cap : Nat} {t : Int} {s : ByteArray} {ls : List (Int × ByteArray)}
    (own3 : w.ownsRow (b + 1) 101 3 (.slice (some ⟨g, 0, none⟩) (ls.length + 1) cap) (ls.length + 1) (leavesC ls ++ [.int .i64 0, .string ⟨#[]⟩, .slice none 0 0])) :
    (((w.setCell ⟨g, ls.length * 3, none⟩ (.int .i64 t)).setCell ⟨g, ls.length * 3 + 1, none⟩ (.string s)).setCell ⟨g, ls.length * 3 + 2, none⟩ (.slice none 0 0)).ownsRow (b + 1) 101 3 (.slice (some ⟨g, 0, none⟩) (ls.length + 1) cap) (ls ++ [(t, s)]).length (leavesC (ls ++ [(t, s)])) := by
  have h1 := (own3.stored (ls.length * 3) (.int .i64 t)).1
  have h2 := (h1.stored (ls.length * 3 + 1) (.string s)).1
  have h3 := (h2.stored (ls.length * 3 + 2) (.slice none 0 0)).1
  rw [set3 _ _ _ _ _ _ _ _ (leavesC_length ls)] at h3
  rw [leavesC_snoc, List.length_append]
  exact h3
theorem parts_done {w : World} {b g cap : Nat} {t er : Int} {s : ByteArray} {ls : List (Int × ByteArray)} {v : Value}
    (own3 : w.ownsRow (b + 1) 101 3 (.slice (some ⟨g, 0, none⟩) (ls.length + 1) cap) (ls.length + 1) (leavesC ls ++ [.int .i64 0, .string ⟨#[]⟩, .slice none 0 0]))
    (hblk : w.heap[b]? = some (.cells #[v, .int .i64 er] 57 (0, 0))) (hgb : b < g) :
    Parts ((((w.setCell ⟨g, ls.length * 3, none⟩ (.int .i64 t)).setCell ⟨g, ls.length * 3 + 1, none⟩ (.string s)).setCell ⟨g, ls.length * 3 + 2, none⟩ (.slice none 0 0)).setCell ⟨b, 0, none⟩ (.slice (some ⟨g, 0, none⟩) (ls.length + 1) cap)) b (ls ++ [(t, s)]) er := by
  refine ⟨_, set_rowQ (cs := #[v, .int .i64 er]) ?_, owns_setQ (parts_own own3) (Nat.lt_succ_self _)⟩
  rw [Below.heap_setCell _ _ _ _ (by show b ≠ g; omega), Below.heap_setCell _ _ _ _ (by show b ≠ g; omega), Below.heap_setCell _ _ _ _ (by show b ≠ g; omega)]
  exact hblk
theorem parts_done2 {w : World} {b g cap : Nat} {t er : Int} {s : ByteArray} {ls : List (Int × ByteArray)} {v : Value}
    (own3 : w.ownsRow (b + 1) 101 3 (.slice (some ⟨g, 0, none⟩) (ls.length + 1) cap) (ls.length + 1) (leavesC ls ++ [.int .i64 0, .string ⟨#[]⟩, .slice none 0 0]))
    (hblk : w.heap[b]? = some (.cells #[v, .int .i64 er] 57 (0, 0))) (hgb : b < g) :
    Parts ((((w.setCell ⟨b, 0, none⟩ (.slice (some ⟨g, 0, none⟩) (ls.length + 1) cap)).setCell ⟨g, ls.length * 3, none⟩ (.int .i64 t)).setCell ⟨g, ls.length * 3 + 1, none⟩ (.string s)).setCell ⟨g, ls.length * 3 + 2, none⟩ (.slice none 0 0)) b (ls ++ [(t, s)]) er := by
  refine ⟨_, ?_, parts_own (owns_setQ own3 (Nat.lt_succ_self _))⟩
  rw [Below.heap_setCell _ _ _ _ (by show b ≠ g; omega), Below.heap_setCell _ _ _ _ (by show b ≠ g; omega), Below.heap_setCell _ _ _ _ (by show b ≠ g; omega)]
  exact set_rowQ (cs := #[v, .int .i64 er]) hblk
set_option maxRecDepth 100000 in
set_option maxHeartbeats 4000000 in
theorem text_any (b : Nat) (ls : List (Int × ByteArray)) (er t : Int) (s : ByteArray) (w : World) (h : Parts w b ls er) (hl : ls.length ≤ 20) :
    Calls Tryz.prog 47 #[.pointer (some ⟨b, 0, none⟩), .int .i64 t, .string s] w fun e w' => e = .returned (.tuple #[]) ∧ Parts w' b (ls ++ [(t, s)]) er ∧ Below b w w' := by
  obtain ⟨i0, hi, hz0, hz1, hz2⟩ := info_parts infoItemT
  have hlt := h.lt
  obtain ⟨v, hh, ho⟩ := h
  obtain ⟨ta, tc, rfl⟩ : ∃ ta tc, v = .slice ta ls.length tc := by
    rcases ho.2 with ⟨h1, h2⟩ | ⟨g, cap, cur, h1, _⟩
    · exact ⟨none, 0, by rw [h1, h2]⟩
    · exact ⟨_, cap, h1⟩
  have hne : some b ≠ (Value.slice ta ls.length tc).ownBlock := by
    rcases ho.2 with ⟨h1, h2⟩ | ⟨g, cap, cur, h1, hB, _⟩
    · rw [h1]; simp [Value.ownBlock]
    · rw [h1]; simp [Value.ownBlock]; omega
  have c0 : w.cell? ⟨b, 0, none⟩ = some (.slice ta ls.length tc) := cell_of_row _ _ 0 _ _ _ hh
  have hl' : (ls.length : Int) ≤ 20 := by omega
  have hl1 : (ls.length : Int) < (ls.length : Int) + 1 := by omega
  have H := hide hh; have HO := hide ho; have HI := hide hi; have Z0 := hide hz0; have Z1 := hide hz1; have Z2 := hide hz2; have HNE := hide hne
  clear hh ho hi hz0 hz1 hz2 hne
  go_enter Tryz.func47, Tryz.ntmps47
  go_wp2_with fail
  go_region_law ((refine step_append_lies _ (by rfl) _ _ _ (by rfl) (b + 1) 101 i0 _ 3 48 Tryz.underlying55 (unhide HI) (unhide Z0) (unhide Z1) (unhide Z2) rfl (by omega) _ _ _ (by rfl) ((unhide HO).drew.alloc _) ⟨w.heap.size, 0, none⟩ 1 1 [.int .i64 0, .string ⟨#[]⟩, .slice none 0 0] (by rfl) (by rfl) (World.news_of_block (heap_alloc_new _ _)) (by simp [Value.oneCell']) (by omega) (by unfold maxLen; omega) (by omega) (by simp; omega) (w.heap.size + 1) (by simp) ?_; intro g cap' w3 own3 hgrow hat3 hlt3; obtain ⟨q0, q1, q2, qf, q3, qfb, hgb⟩ := text_facts (unhide H) hgrow own3 (unhide HNE)))
  all_goals
    have hb3 : Below b w w3 := (((Below.refl b w).drew).alloc (by simp; omega) _).grown hgrow (by simp; omega) (fun q hq => by have := ((unhide HO).lt q hq).1; omega)
    have hblk : w3.heap[b]? = some (.cells #[.slice ta ls.length tc, .int .i64 er] 57 (0, 0)) := by
      rw [hgrow.block b (by simp; omega) (unhide HNE)]
      exact alloc_keepT (unhide H)
    have hp1 := parts_done (t := t) (s := s) own3 hblk hgb
    have hp2 := parts_done2 (t := t) (s := s) own3 hblk hgb
    have hB1 := (((hb3.setCell (p := ⟨g, ls.length * 3, none⟩) (Nat.le_of_lt hgb) (.int .i64 t)).setCell (p := ⟨g, ls.length * 3 + 1, none⟩) (Nat.le_of_lt hgb) (.string s)).setCell (p := ⟨g, ls.length * 3 + 2, none⟩) (Nat.le_of_lt hgb) (.slice none 0 0)).setCell (p := ⟨b, 0, none⟩) (Nat.le_refl _) (.slice (some ⟨g, 0, none⟩) (ls.length + 1) cap')
    have hB2 := (((hb3.setCell (p := ⟨b, 0, none⟩) (Nat.le_refl _) (.slice (some ⟨g, 0, none⟩) (ls.length + 1) cap')).setCell (p := ⟨g, ls.length * 3, none⟩) (Nat.le_of_lt hgb) (.int .i64 t)).setCell (p := ⟨g, ls.length * 3 + 1, none⟩) (Nat.le_of_lt hgb) (.string s)).setCell (p := ⟨g, ls.length * 3 + 2, none⟩) (Nat.le_of_lt hgb) (.slice none 0 0)
    have HP1 := hide hp1; have HP2 := hide hp2; have HB1 := hide hB1; have HB2 := hide hB2
    clear hp1 hp2 hB1 hB2 hb3 hblk own3 hgrow hat3 hlt3 q0 q1 q2 q3
    go_end0
    first
      | (with_reducible exact ⟨rfl, unhide HP1, unhide HB1⟩)
      | (with_reducible exact ⟨rfl, unhide HP2, unhide HB2⟩)
end Go.Proofs.YtfpglpefofcdeaaGreatDoor
