/- AppsText of the reference. -/
import Derived.Test.YtolicaaifhfhcaaM42
import Derived.Test.YtolicaaifhfhcaaM43
import Derived.Lib.SmallJoins
namespace Go.Proofs.Ytolicaaifhfhcaa
open Go.RowKit
set_option linter.unusedVariables false

/-- the text of an application's own items -/
def inS (x : XApp) : ByteArray := strOfNums [79, (x.name.size : Int)] ++ x.name ++ strOfNums [80, (x.label.size : Int)] ++ x.label ++ strOfNums [135, 1, lastN x]
/-- applications, one behind the other -/
def refT (l : List XApp) : ByteArray := strOfNums (textD 2 (l.map itemI))
theorem str_strL (s : ByteArray) : strOfNums (strL s) = s := strOf_strL s
theorem itemL_small {t : Nat} {b : List Int} (ht : t < 256) (hb : b.length < 128) : itemL t b = (t : Int) :: (b.length : Int) :: b := by
  unfold itemL
  have h1 : tagL t = [(t : Int)] := by
    show bigL t (tagLen t) = _
    have h2 : tagLen t = 1 := by unfold tagLen; rw [if_pos ht]
    rw [h2]
    simp [bigL]
    omega
  have h3 : lenL b.length = [(b.length : Int)] := by unfold lenL; rw [if_pos hb]
  rw [h1, h3]
  rfl
theorem in_text (x : XApp) (h : sizedA x) : textD 1 (itemI x).list = [79, (x.name.size : Int)] ++ strL x.name ++ [80, (x.label.size : Int)] ++ strL x.label ++ [135, 1, lastN x] ∨ ¬ (0 ≤ lastN x ∧ lastN x < 256) := by
  by_cases hl : 0 ≤ lastN x ∧ lastN x < 256
  case neg => exact .inr hl
  left
  obtain ⟨a, b⟩ := h
  have e1 : bodyL (textD 0) (.mk 79 x.name []) = strL x.name := body_not made_79
  have e2 : bodyL (textD 0) (.mk 80 x.label []) = strL x.label := body_not made_80
  have e3 : bodyL (textD 0) (.mk 135 (strOfNums [lastN x]) []) = strL (strOfNums [lastN x]) := body_not made_135
  have e4 : strL (strOfNums [lastN x]) = [lastN x] := strL_nums (fun n hn => by simp at hn; subst hn; exact hl)
  have hn := strL_length x.name
  have hb := strL_length x.label
  have f1 : itemL (It.mk 79 x.name []).tag.toNat (bodyL (textD 0) (.mk 79 x.name [])) = 79 :: (x.name.size : Int) :: strL x.name := by
    rw [e1, show (It.mk 79 x.name []).tag.toNat = 79 from rfl, itemL_small (by decide) (by omega), hn]; rfl
  have f2 : itemL (It.mk 80 x.label []).tag.toNat (bodyL (textD 0) (.mk 80 x.label [])) = 80 :: (x.label.size : Int) :: strL x.label := by
    rw [e2, show (It.mk 80 x.label []).tag.toNat = 80 from rfl, itemL_small (by decide) (by omega), hb]; rfl
  have f3 : itemL (It.mk 135 (strOfNums [lastN x]) []).tag.toNat (bodyL (textD 0) (.mk 135 (strOfNums [lastN x]) [])) = [135, 1, lastN x] := by
    rw [e3, e4, show (It.mk 135 (strOfNums [lastN x]) []).tag.toNat = 135 from rfl, itemL_small (by decide) (by simp)]; rfl
  show List.flatMap _ [_, _, _] = _
  rw [List.flatMap_cons, List.flatMap_cons, List.flatMap_cons, List.flatMap_nil, f1, f2, f3]
  simp
theorem made_97 : madeV 97 = true := by decide +kernel
theorem last_byte {x : XApp} (h0 : 0 ≤ x.prio) (h1 : x.prio ≤ 15) : 0 ≤ lastN x ∧ lastN x < 256 := by
  unfold lastN
  split <;> omega
theorem in_str (x : XApp) (h : sizedA x) (h0 : 0 ≤ x.prio) (h1 : x.prio ≤ 15) : strOfNums (textD 1 (itemI x).list) = inS x ∧ (textD 1 (itemI x).list).length = x.name.size + x.label.size + 7 := by
  rcases in_text x h with e | e
  · rw [e]
    constructor
    · simp only [← strOfNums_append, str_strL]; rfl
    · simp [strL_length]; omega
  · exact absurd (last_byte h0 h1) e
theorem refT_next (l : List XApp) (k : Nat) (x : XApp) (hx : l[k]? = some x) (h : sizedA x) (h0 : 0 ≤ x.prio) (h1 : x.prio ≤ 15) :
    refT (l.take (k + 1)) = refT (l.take k) ++ (strOfNums [97, ((inS x).size : Int)] ++ inS x) := by
  obtain ⟨e, hl⟩ := in_str x h h0 h1
  have hs : (inS x).size = x.name.size + x.label.size + 7 := by rw [← e, strOfNums_size]; exact hl
  have hm : (l.map itemI)[k]? = some (itemI x) := by rw [List.getElem?_map, hx]; rfl
  have ht := text_take (d := 1) hm
  unfold refT
  rw [List.map_take, List.map_take, ht, ← strOfNums_append]
  congr 1
  have hb : bodyL (textD 1) (itemI x) = textD 1 (itemI x).list := body_made made_97
  rw [hb, show (itemI x).tag.toNat = 97 from rfl, itemL_small (by decide) (by obtain ⟨a, b⟩ := h; omega), hl, hs]
  rw [← e]
  rw [show ((97 : Nat) : Int) :: ((x.name.size + x.label.size + 7 : Nat) : Int) :: textD 1 (itemI x).list = [97, ((x.name.size + x.label.size + 7 : Nat) : Int)] ++ textD 1 (itemI x).list from rfl, ← strOfNums_append]
theorem refT_all {l : List XApp} (h : appsE l = 0) : refT l = appsT l := by
  unfold refT appsT printsS
  rw [printsE_apps h, if_pos rfl]
theorem refT_size : ∀ (l : List XApp) (k : Nat), (∀ x ∈ l, sizedA x ∧ 0 ≤ x.prio ∧ x.prio ≤ 15) → k ≤ l.length → (refT (l.take k)).size ≤ k * 90
  | l, 0, _, _ => by simp [refT, textD, strOfNums_size]
  | l, k + 1, h, hk => by
    have ih := refT_size l k h (by omega)
    obtain ⟨x, hx⟩ : ∃ x, l[k]? = some x := ⟨_, List.getElem?_eq_getElem (by omega)⟩
    obtain ⟨a, b, c⟩ := h x (List.mem_of_getElem? hx)
    obtain ⟨e, hl⟩ := in_str x a b c
    have hs : (inS x).size = x.name.size + x.label.size + 7 := by rw [← e, strOfNums_size]; exact hl
    rw [refT_next l k x hx a b c, ByteArray.size_append, ByteArray.size_append, strOfNums_size, hs]
    obtain ⟨p, q⟩ := a
    simp only [List.length_cons, List.length_nil]
    omega
theorem inS_size (x : XApp) : (inS x).size = x.name.size + x.label.size + 7 := by
  unfold inS
  simp only [ByteArray.size_append, strOfNums_size, List.length_cons, List.length_nil]
  omega
theorem bytesP2 (x y : Int) (h0 : 0 ≤ x ∧ x < 256) (h1 : 0 ≤ y ∧ y < 256) (b cap : Nat) (w : World) (c0 : w.cell? ⟨b, 0, none⟩ = some (.int .i64 x)) (c1 : w.cell? ⟨b, 1, none⟩ = some (.int .i64 y)) :
    Calls Try.prog 19 #[.slice (some ⟨b, 0, none⟩) 2 cap] w fun e w' => e = .returned (.string (strOfNums [x, y])) ∧ Below w.heap.size w w' := by
  have h := bytes_any [x, y] b 0 2 cap w rfl (by omega) (World.block_lt_of_cell? w _ c0) (fun i hi => by
    have : i = 0 ∨ i = 1 := by omega
    rcases this with rfl | rfl
    · exact c0
    · exact c1)
  have e : ([x, y] : List Int).map lowByte = [x, y] := by simp [lowByte]; omega
  rw [e] at h
  exact h
theorem bytesP3 (x y z : Int) (h0 : 0 ≤ x ∧ x < 256) (h1 : 0 ≤ y ∧ y < 256) (h2 : 0 ≤ z ∧ z < 256) (b cap : Nat) (w : World) (c0 : w.cell? ⟨b, 0, none⟩ = some (.int .i64 x)) (c1 : w.cell? ⟨b, 1, none⟩ = some (.int .i64 y)) (c2 : w.cell? ⟨b, 2, none⟩ = some (.int .i64 z)) :
    Calls Try.prog 19 #[.slice (some ⟨b, 0, none⟩) 3 cap] w fun e w' => e = .returned (.string (strOfNums [x, y, z])) ∧ Below w.heap.size w w' := by
  have h := bytes_any [x, y, z] b 0 3 cap w rfl (by omega) (World.block_lt_of_cell? w _ c0) (fun i hi => by
    have : i = 0 ∨ i = 1 ∨ i = 2 := by omega
    rcases this with rfl | rfl | rfl
    · exact c0
    · exact c1
    · exact c2)
  have e : ([x, y, z] : List Int).map lowByte = [x, y, z] := by simp [lowByte]; omega
  rw [e] at h
  exact h
theorem keep_cellQ {w w' : World} {a : Addr} {v : Value} (h : Below w.heap.size w w') (hc : w.cell? a = some v) : w'.cell? a = some v := (h.cell (World.block_lt_of_cell? w a hc)).trans hc
theorem old_cellQ {w : World} {o : Obj} {a : Addr} {v : Value} (hc : w.cell? a = some v) : (w.alloc o).cell? a = some v := keep_cellQ ((Below.refl w.heap.size w).alloc (Nat.le_refl _) o) hc
theorem drew_cellQ {w : World} {a : Addr} {v : Value} (hc : w.cell? a = some v) : w.drew.cell? a = some v := hc
theorem new_cellQ {w : World} {g j : Nat} {cs : Array Value} {e : TypeId} {v : Value} (hg : g = w.heap.size) (hc : cs[j]? = some v) : (w.alloc (.cells cs e)).cell? ⟨g, j, none⟩ = some v := by
  subst hg
  rw [cell_of_row _ _ j _ e _ (heap_alloc_new w _)]
  exact hc
theorem ext_drewQ (W : World) : Below W.heap.size W W.drew := (Below.refl _ _).drew
theorem ext_allocQ {W x : World} (h : Below W.heap.size W x) (o : Obj) : Below W.heap.size W (x.alloc o) := h.alloc h.size o
theorem ext_callQ {W x y : World} (h : Below W.heap.size W x) (k : Below x.heap.size x y) : Below W.heap.size W y := h.trans (k.mono h.size)
end Go.Proofs.Ytolicaaifhfhcaa
