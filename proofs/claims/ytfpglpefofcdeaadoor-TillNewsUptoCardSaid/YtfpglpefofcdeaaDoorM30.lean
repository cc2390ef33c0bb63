/- Lists of items by their depth alone; applications as items, and back: plain. -/
import Derived.Test.YtfpglpefofcdeaaDoorM29
import Derived.Test.YtfpglpefofcdeaaDoorM08
import Derived.Test.YtfpglpefofcdeaaDoorM07
import Derived.Test.YtfpglpefofcdeaaDoorM16
import Derived.Deep.RegionWith
import Derived.Deep.RegionHeld3
import Derived.Deep.DeepCutAuto
namespace Go.Proofs.YtfpglpefofcdeaaDoor
open Go.RowKit
set_option linter.unusedVariables false

/-- a list that is at most d deep -/
def Deep : Nat → List It → Prop
  | 0, l => l = []
  | d + 1, l => ∀ x ∈ l, Deep d x.list
theorem print_listD {n D : Nat} (ih : ∀ (l : List It) (s p : Nat), Deep D l → measD D l = some (s, p) → p ≤ n → s ≤ 65535 → parseD n (strOfNums (textD D l)) = some l) :
    ∀ (l : List It) (s0 p0 s p : Nat), (∀ x ∈ l, Deep D x.list) → l.foldl (stepM (measD D)) (some (s0, p0)) = some (s, p) → p ≤ n + 1 → s ≤ 65535 → parseD (n + 1) (strOfNums (textD (D + 1) l)) = some l
  | [], s0, p0, s, p, _, _, _, _ => by
    have e : textD (D + 1) ([] : List It) = [] := by simp [textD]
    rw [e]
    exact listP_empty _ _ rfl
  | x :: r, s0, p0, s, p, hrow, h, hp, hs => by
    rw [List.foldl_cons, step_yes] at h
    by_cases hf : fitsB x.tag x.text.size x.list.length = true
    · rw [if_pos hf] at h
      cases hm : measD D x.list with
      | none => rw [hm, Option.map_none, step_none] at h; cases h
      | some b =>
        obtain ⟨b1, b2⟩ := b
        rw [hm, Option.map_some] at h
        simp only at h
        have hpos := (fold_grow r _ _ s p h)
        have hbody := fits_body hf hm (meas_text D _ _ _ hm)
        have hrest := print_listD ih r _ _ s p (fun y hy => hrow y (List.mem_cons_of_mem _ hy)) h hp hs
        have e : textD (D + 1) (x :: r) = itemL x.tag.toNat (bodyL (textD D) x) ++ textD (D + 1) r := by simp [textD]
        have hvt : validB x.tag = true := by
          unfold fitsB at hf
          split at hf
          · rename_i hm; unfold madeV at hm; simp at hm; exact hm.1
          · simp at hf; exact hf.1
        have hlt := validB_lt hvt
        obtain ⟨t, ht⟩ := Int.eq_ofNat_of_zero_le (show 0 ≤ x.tag by omega)
        have hmv : madeV x.tag = madeB t := by unfold madeV; rw [hvt, Bool.true_and, ht, Int.toNat_natCast]
        have hsz : (strOfNums (textD (D + 1) (x :: r))).size ≠ 0 := by
          rw [strOfNums_size, e, List.length_append, itemL_length]
          have := tagLen_le x.tag.toNat
          omega
        rw [parse_step hsz, e, ht, Int.toNat_natCast]
        rw [ht] at hvt
        have hco := hrow x (List.mem_cons_self ..)
        have hib : itemAt (parseD n) (strOfNums (itemL t (bodyL (textD D) x) ++ textD (D + 1) r)) = some (x, strOfNums (textD (D + 1) r)) := by
          refine item_back hvt (by omega) ?_
          cases hmd : madeB t with
          | true =>
            left
            have hbd : bodyL (textD D) x = textD D x.list := body_made (by rw [hmv, hmd])
            refine ⟨rfl, x.list, ?_, ?_⟩
            · rw [hbd]; exact ih x.list b1 b2 hco hm (by omega) (by omega)
            · have h0 : x.text.size = 0 := by
                rw [fits_made (by rw [hmv, hmd])] at hf
                simpa using hf
              have h1 : x.text = ⟨#[]⟩ := by
                apply ByteArray.ext
                exact Array.eq_empty_of_size_eq_zero h0
              cases x with
              | mk a b c => simp only [It.tag, It.text, It.list] at ht h1 ⊢; rw [ht, h1]
          | false =>
            right
            have hbd : bodyL (textD D) x = strL x.text := body_not (by rw [hmv, hmd])
            refine ⟨rfl, ?_⟩
            rw [hbd, strOf_strL]
            have h0 : x.list = [] := by
              rw [fits_not (by rw [hmv, hmd])] at hf
              simp at hf
              exact hf.2
            cases x with
            | mk a b c => simp only [It.tag, It.text, It.list] at ht h0 ⊢; rw [ht, h0]
        rw [hib]
        simp only
        rw [hrest]
        rfl
    · rw [if_neg hf, step_none] at h; cases h
theorem print_parseD : ∀ (n D : Nat) (l : List It) (s p : Nat), Deep D l → measD D l = some (s, p) → p ≤ n → s ≤ 65535 → parseD n (strOfNums (textD D l)) = some l
  | n, 0, l, s, p, hr, _, _, _ => by
    rw [show l = [] from hr]
    cases n with
    | zero => rfl
    | succ n => exact listP_empty _ _ rfl
  | 0, D + 1, l, s, p, hr, hm, hp, hs => by
    have hl : l = [] := by
      rcases List.eq_nil_or_concat l with h | ⟨a, b, h⟩
      · exact h
      · have := (fold_grow l 0 0 s p hm).2.2 (by rw [h]; simp)
        omega
    rw [hl]
    rfl
  | n + 1, D + 1, l, s, p, hr, hm, hp, hs => print_listD (fun l s p h1 h2 h3 h4 => print_parseD n D l s p h1 h2 h3 h4) l 0 0 s p hr hm hp hs
/-- what was printed is read -/
theorem printed_parses {D : Nat} {l : List It} (hd : Deep D l) (he : printsE (measD D l) = 0) : parsesE (printsS D l) = 0 ∧ parsesL (printsS D l) = l := by
  cases hm : measD D l with
  | none => rw [hm] at he; cases he
  | some sp =>
    obtain ⟨s, p⟩ := sp
    rw [hm] at he
    have h1 : printsE (some (s, p)) = if 8 < p ∨ 65535 < s then 2 else 0 := rfl
    rw [h1] at he
    by_cases hc : 8 < p ∨ 65535 < s
    · rw [if_pos hc] at he; cases he
    · have hS : printsS D l = strOfNums (textD D l) := by unfold printsS; rw [hm, h1, if_neg hc, if_pos rfl]
      have hz : (strOfNums (textD D l)).size = s := by rw [strOfNums_size]; exact meas_text D l s p hm
      have hp := print_parseD 8 D l s p hd hm (by omega) (by omega)
      rw [hS]
      constructor
      · unfold parsesE; rw [if_neg (by omega), hp]; rfl
      · unfold parsesL; rw [if_neg (by omega), hp]; rfl

/-- the last byte of an application -/
def lastN (x : XApp) : Int := x.prio + (if x.confirm then 128 else 0)
/-- an application as an item -/
def itemI (x : XApp) : It := .mk 97 ⟨#[]⟩ [.mk 79 x.name [], .mk 80 x.label [], .mk 135 (strOfNums [lastN x]) []]
theorem itemI_deep (l : List XApp) : Deep 2 (l.map itemI) := by
  intro x hx
  obtain ⟨a, _, rfl⟩ := List.mem_map.1 hx
  intro y hy
  simp only [itemI, It.list, List.mem_cons, List.not_mem_nil, or_false] at hy
  rcases hy with rfl | rfl | rfl <;> rfl
theorem lenLen_small {n : Nat} (h : n < 128) : lenLen n = 1 := by unfold lenLen; rw [if_pos h]
theorem fits_97 : fitsB 97 0 3 = true := by decide +kernel
theorem fits_79 (n : Nat) : fitsB 79 n 0 = true := by
  have h : madeV 79 = false := by decide +kernel
  rw [fits_not h]; decide +kernel
theorem fits_80 (n : Nat) : fitsB 80 n 0 = true := by
  have h : madeV 80 = false := by decide +kernel
  rw [fits_not h]; decide +kernel
theorem fits_135 (n : Nat) : fitsB 135 n 0 = true := by
  have h : madeV 135 = false := by decide +kernel
  rw [fits_not h]; decide +kernel
/-- an application's sizes are as they must be -/
def sizedA (x : XApp) : Prop := x.name.size ≤ 16 ∧ x.label.size ≤ 64
theorem meas_in (x : XApp) (h : sizedA x) : measD 1 (itemI x).list = some (x.name.size + x.label.size + 7, 1) := by
  obtain ⟨h1, h2⟩ := h
  simp only [itemI, It.list, measD, List.foldl_cons, List.foldl_nil, step_yes, It.tag, It.text, List.length_nil, fits_79, fits_80, fits_135, if_true, Option.map_some, strOfNums_size, List.length_cons]
  rw [lenLen_small (by omega), lenLen_small (by omega), lenLen_small (by omega)]
  have e1 : tagLen (79 : Int).toNat = 1 := rfl
  have e2 : tagLen (80 : Int).toNat = 1 := rfl
  have e3 : tagLen (135 : Int).toNat = 1 := rfl
  rw [e1, e2, e3]
  congr 1
  ext <;> simp <;> omega
theorem step_app (x : XApp) (h : sizedA x) (s p : Nat) : stepM (measD 1) (some (s, p)) (itemI x) = some (s + (x.name.size + x.label.size + 9), max p 2) := by
  have hm := meas_in x h
  rw [step_yes]
  have e : fitsB (itemI x).tag (itemI x).text.size (itemI x).list.length = true := fits_97
  rw [if_pos e, hm, Option.map_some]
  obtain ⟨h1, h2⟩ := h
  have e0 : (itemI x).text.size = 0 := rfl
  have e1 : tagLen (itemI x).tag.toNat = 1 := rfl
  simp only [e0, e1]
  rw [lenLen_small (by omega)]
  congr 1
  ext <;> simp <;> omega
theorem fold_app : ∀ (l : List XApp) (s p : Nat), (∀ x ∈ l, sizedA x) → p ≤ 2 → ∃ s' p', (l.map itemI).foldl (stepM (measD 1)) (some (s, p)) = some (s', p') ∧ s' ≤ s + l.length * 89 ∧ p' ≤ 2
  | [], s, p, _, hp => ⟨s, p, rfl, by simp, hp⟩
  | x :: r, s, p, h, hp => by
    have h1 := h x (List.mem_cons_self ..)
    obtain ⟨s', p', e, hs, hp'⟩ := fold_app r (s + (x.name.size + x.label.size + 9)) (max p 2) (fun y hy => h y (List.mem_cons_of_mem _ hy)) (by omega)
    obtain ⟨a, b⟩ := h1
    refine ⟨s', p', ?_, ?_, hp'⟩
    · rw [List.map_cons, List.foldl_cons, step_app x ⟨a, b⟩]; exact e
    · rw [List.length_cons]; omega
theorem apps_sized {l : List XApp} (h : appsE l = 0) : l.length ≤ 20 ∧ ∀ x ∈ l, sizedA x ∧ 5 ≤ x.name.size ∧ 0 ≤ x.prio ∧ x.prio ≤ 15 := by
  unfold appsE at h
  split at h
  · cases h
  · rename_i hl
    cases h1 : l.any misB with
    | true => rw [h1] at h; cases h
    | false =>
      rw [h1] at h
      cases h2 : l.any prioB with
      | true => rw [h2] at h; cases h
      | false =>
        refine ⟨by omega, fun x hx => ?_⟩
        have a := List.any_eq_false.1 h1 x hx
        have b := List.any_eq_false.1 h2 x hx
        unfold misB at a
        unfold prioB at b
        simp at a b
        unfold sizedA
        omega
theorem printsE_apps {l : List XApp} (h : appsE l = 0) : printsE (measD 2 (l.map itemI)) = 0 := by
  obtain ⟨hl, hs⟩ := apps_sized h
  obtain ⟨s', p', e, h1, h2⟩ := fold_app l 0 0 (fun x hx => (hs x hx).1) (by omega)
  have e2 : measD 2 (l.map itemI) = some (s', p') := e
  rw [e2]
  show (if 8 < p' ∨ 65535 < s' then (2 : Int) else 0) = 0
  rw [if_neg (by omega)]
/-- how applications are written -/
def appsT (l : List XApp) : ByteArray := printsS 2 (l.map itemI)
theorem wt_app (x : XApp) (h : sizedA x) : wt 1 (itemI x).list ≤ 85 := by
  obtain ⟨a, b⟩ := h
  simp only [wt, itemI, It.list, List.map_cons, List.map_nil, List.sum_cons, List.sum_nil, It.text, strOfNums_size, List.length_cons, List.length_nil]
  omega
theorem wt_apps : ∀ (l : List XApp), (∀ x ∈ l, sizedA x) → wt 2 (l.map itemI) ≤ l.length * 90
  | [], _ => by simp [wt]
  | x :: r, h => by
    have h1 := wt_app x (h x (List.mem_cons_self ..))
    have h2 := wt_apps r (fun y hy => h y (List.mem_cons_of_mem _ hy))
    have e0 : (itemI x).text.size = 0 := rfl
    simp only [wt, List.map_cons, List.sum_cons, List.length_cons] at h1 h2 ⊢
    omega

/-- what is read, where f makes an application of an item -/
def readA (f : It → XApp) (s : ByteArray) : Option (List XApp) :=
  if parsesE s = 0 ∧ appsE ((parsesL s).map f) = 0 ∧ appsT ((parsesL s).map f) = s then some ((parsesL s).map f) else none
theorem readA_of {f : It → XApp} (hf : ∀ x : XApp, sizedA x → 0 ≤ x.prio → x.prio ≤ 15 → f (itemI x) = x) {l : List XApp} (h : appsE l = 0) : readA f (appsT l) = some l := by
  obtain ⟨h1, h2⟩ := printed_parses (itemI_deep l) (printsE_apps h)
  have e : ((l.map itemI).map f) = l := by
    rw [List.map_map]
    conv => rhs; rw [← List.map_id l]
    refine List.map_congr_left fun x hx => ?_
    obtain ⟨a, b, c, d⟩ := (apps_sized h).2 x hx
    exact hf x a c d
  unfold readA
  have h1' : parsesE (appsT l) = 0 := h1
  have h2' : parsesL (appsT l) = l.map itemI := h2
  rw [h1', h2', e, if_pos ⟨rfl, h, rfl⟩]
theorem readA_some {f : It → XApp} {s : ByteArray} {l : List XApp} (h : readA f s = some l) : appsE l = 0 ∧ appsT l = s := by
  unfold readA at h
  split at h
  · rename_i hc
    obtain ⟨a, b, c⟩ := hc
    cases h
    exact ⟨b, c⟩
  · cases h
/-- there is one way alone to read -/
theorem readA_same {f g : It → XApp} (hf : ∀ x : XApp, sizedA x → 0 ≤ x.prio → x.prio ≤ 15 → f (itemI x) = x) (hg : ∀ x : XApp, sizedA x → 0 ≤ x.prio → x.prio ≤ 15 → g (itemI x) = x) (s : ByteArray) : readA f s = readA g s := by
  cases h1 : readA f s with
  | some l =>
    obtain ⟨a, b⟩ := readA_some h1
    rw [← b, readA_of hg a]
  | none =>
    cases h2 : readA g s with
    | none => rfl
    | some l =>
      obtain ⟨a, b⟩ := readA_some h2
      rw [← b, readA_of hf a] at h1
      cases h1
end Go.Proofs.YtfpglpefofcdeaaDoor
namespace Go.Proofs.YtfpglpefofcdeaaDoor
open Go.RowKit
set_option linter.unusedVariables false

/-- the nine cells of an application's own items -/
def cellsI (x : XApp) : Array Value := #[.int .i64 79, .string x.name, .slice none 0 0, .int .i64 80, .string x.label, .slice none 0 0, .int .i64 135, .string (strOfNums [lastN x]), .slice none 0 0]
theorem or_128 : ∀ f : Fin 16, bits .or .u8 (f.val : Int) 128 = (f.val : Int) + 128 := by decide +kernel
theorem or_prio (p : Int) (h0 : 0 ≤ p) (h1 : p ≤ 15) : bits .or .u8 p 128 = p + 128 := by
  obtain ⟨k, rfl⟩ := Int.eq_ofNat_of_zero_le h0
  exact or_128 ⟨k, by omega⟩
theorem new_blockP (w : World) (o : Obj) (g : Nat) (hg : g = w.heap.size) : (w.alloc o).heap[g]? = some o := by
  subst hg
  exact heap_alloc_new w o
theorem one_byteP (g : Nat) (w : World) (x : Int) (hg : g = w.heap.size) :
    (convert 114 9 (.slice (some ⟨g, 0, none⟩) 1 1)).run Tryd.prog (w.alloc (.cells #[.int .u8 x] 5)) = .ok (.string (strOfNums [x])) (w.alloc (.cells #[.int .u8 x] 5)) := by
  subst hg
  exact run_convert_bytes_arg (P := Tryd.prog) _ 114 5 Tryd.underlying114 Tryd.underlying5 w.heap.size 0 1 1 [x] rfl (fun i hi => by
    obtain rfl : i = 0 := by simp at hi; omega
    rw [Nat.add_zero, cell_of_row _ _ 0 _ _ _ (heap_alloc_new w _)]; rfl) 9 Tryd.underlying9

theorem own_blockP {w : World} {base g n size : Nat} {e : TypeId} {xs : List Value} (h : w.ownsRow base e size (.slice (some ⟨g, 0, none⟩) n n) n xs) : ∃ cur : Array Value, w.heap[g]? = some (.cells cur e (0, 0)) ∧ cur.size = n * size := by
  rcases h.2 with ⟨h1, h2⟩ | ⟨g', cap, cur, h1, hB, hh, hle, hm, hsz, htk⟩
  · simp at h1
  · simp only [Value.slice.injEq, Option.some.injEq, Addr.mk.injEq, and_true, true_and] at h1
    obtain ⟨rfl, rfl⟩ := h1
    exact ⟨cur, hh, by first | exact hsz | (rw [hsz]; done) | omega⟩
/-- the first k items of a row that is being filled -/
def IPart (w : World) (g : Nat) (l : List XApp) (k : Nat) : Prop := ∃ cur : Array Value, w.heap[g]? = some (.cells cur 123 (0, 0)) ∧ cur.size = l.length * 3 ∧
  ∀ i x, i < k → l[i]? = some x → ∃ gi, cur[i * 3]? = some (.int .i64 97) ∧ cur[i * 3 + 1]? = some (.string ⟨#[]⟩) ∧ cur[i * 3 + 2]? = some (.slice (some ⟨gi, 0, none⟩) 3 3) ∧ g < gi ∧ w.heap[gi]? = some (.cells (cellsI x) 123 (0, 0))
theorem block_ltQ {w : World} {g : Nat} {o : Obj} (h : w.heap[g]? = some o) : g < w.heap.size := by
  rcases Nat.lt_or_ge g w.heap.size with h1 | h1
  · exact h1
  · rw [Array.getElem?_eq_none h1] at h; cases h
theorem IPart.lt {w : World} {g : Nat} {l : List XApp} {k : Nat} (h : IPart w g l k) : g < w.heap.size := by
  obtain ⟨cur, hh, _⟩ := h
  exact block_ltQ hh
theorem IPart.below {w w' : World} {g : Nat} {l : List XApp} {k : Nat} (h : IPart w g l k) (hb : Below w.heap.size w w') : IPart w' g l k := by
  obtain ⟨cur, hh, hs, hc⟩ := h
  refine ⟨cur, (hb.block g (block_ltQ hh)).trans hh, hs, fun i x hi hx => ?_⟩
  obtain ⟨gi, a, b, c, d, e⟩ := hc i x hi hx
  exact ⟨gi, a, b, c, d, (hb.block gi (block_ltQ e)).trans e⟩
theorem set_rowQ {w : World} {g j : Nat} {cs : Array Value} {e : TypeId} {fr : Nat × Nat} {v : Value} (h : w.heap[g]? = some (.cells cs e fr)) : (w.setCell ⟨g, j, none⟩ v).heap[g]? = some (.cells (cs.setIfInBounds j v) e fr) := by
  simp [World.setCell, Array.getElem?_modify, h]
theorem get_setS (C : Array Value) (i : Nat) (v : Value) (h : i < C.size) : (C.setIfInBounds i v)[i]? = some v := by simp [h]
theorem get_setO (C : Array Value) (i j : Nat) (v : Value) (h : i ≠ j) : (C.setIfInBounds i v)[j]? = C[j]? := by simp [h]
/-- one item more -/
theorem IPart.next {w : World} {g gi : Nat} {l : List XApp} {k : Nat} {x : XApp} (h : IPart w g l k) (hx : l[k]? = some x) (hg : g < gi) (hi : w.heap[gi]? = some (.cells (cellsI x) 123 (0, 0))) :
    IPart (((w.setCell ⟨g, k * 3, none⟩ (.int .i64 97)).setCell ⟨g, k * 3 + 1, none⟩ (.string ⟨#[]⟩)).setCell ⟨g, k * 3 + 2, none⟩ (.slice (some ⟨gi, 0, none⟩) 3 3)) g l (k + 1) := by
  obtain ⟨cur, hh, hs, hc⟩ := h
  have hk : k < l.length := by
    rcases Nat.lt_or_ge k l.length with h | h
    · exact h
    · rw [List.getElem?_eq_none h] at hx; cases hx
  have H := set_rowQ (j := k * 3 + 2) (v := .slice (some ⟨gi, 0, none⟩) 3 3) (set_rowQ (j := k * 3 + 1) (v := .string ⟨#[]⟩) (set_rowQ (j := k * 3) (v := .int .i64 97) hh))
  have keep : ∀ b, b ≠ g → (((w.setCell ⟨g, k * 3, none⟩ (.int .i64 97)).setCell ⟨g, k * 3 + 1, none⟩ (.string ⟨#[]⟩)).setCell ⟨g, k * 3 + 2, none⟩ (.slice (some ⟨gi, 0, none⟩) 3 3)).heap[b]? = w.heap[b]? := fun b hb => by
    rw [Below.heap_setCell _ _ _ _ hb, Below.heap_setCell _ _ _ _ hb, Below.heap_setCell _ _ _ _ hb]
  refine ⟨_, H, by simp only [Array.size_setIfInBounds]; exact hs, fun i y hi' hy => ?_⟩
  by_cases e : i = k
  · subst e
    obtain rfl : x = y := by rw [hx] at hy; cases hy; rfl
    refine ⟨gi, ?_, ?_, ?_, hg, (keep gi (by omega)).trans hi⟩
    · rw [get_setO _ _ _ _ (by omega), get_setO _ _ _ _ (by omega), get_setS _ _ _ (by omega)]
    · rw [get_setO _ _ _ _ (by omega), get_setS _ _ _ (by simp only [Array.size_setIfInBounds]; omega)]
    · rw [get_setS _ _ _ (by simp only [Array.size_setIfInBounds]; omega)]
  · obtain ⟨gj, a, b, c, d, f⟩ := hc i y (by omega) hy
    refine ⟨gj, ?_, ?_, ?_, d, (keep gj (by omega)).trans f⟩
    · rw [get_setO _ _ _ _ (by omega), get_setO _ _ _ _ (by omega), get_setO _ _ _ _ (by omega)]; exact a
    · rw [get_setO _ _ _ _ (by omega), get_setO _ _ _ _ (by omega), get_setO _ _ _ _ (by omega)]; exact b
    · rw [get_setO _ _ _ _ (by omega), get_setO _ _ _ _ (by omega), get_setO _ _ _ _ (by omega)]; exact c
theorem IPart.row {w : World} {g : Nat} {l : List XApp} (h : IPart w g l l.length) (hm : ∀ x ∈ l, x.name.size ≤ maxLen ∧ x.label.size ≤ maxLen) : IRow w 2 (some ⟨g, 0, none⟩) (l.map itemI) := by
  have hlt := h.lt
  obtain ⟨cur, hh, hs, hc⟩ := h
  refine .inr ⟨g, 0, rfl, hlt, fun i y hy => ?_⟩
  rw [List.getElem?_map] at hy
  cases hx : l[i]? with
  | none => rw [hx] at hy; cases hy
  | some x =>
    rw [hx] at hy
    obtain rfl : itemI x = y := Option.some.inj hy
    have hi : i < l.length := by
      rcases Nat.lt_or_ge i l.length with h | h
      · exact h
      · rw [List.getElem?_eq_none h] at hx; cases hx
    obtain ⟨gi, a, b, c, d, e⟩ := hc i x hi hx
    have hxm := hm x (List.mem_of_getElem? hx)
    refine ⟨some ⟨gi, 0, none⟩, 3, ?_, ?_, ?_, Nat.le_refl _, ?_, ?_, ?_⟩
    · rw [Nat.zero_add, cell_of_row _ _ _ _ _ _ hh]; exact a
    · rw [Nat.zero_add, cell_of_row _ _ _ _ _ _ hh]; exact b
    · rw [Nat.zero_add, cell_of_row _ _ _ _ _ _ hh]; exact c
    · refine .inr ⟨gi, 0, rfl, block_ltQ e, fun j z hz => ?_⟩
      match j, hz with
      | 0, hz =>
        obtain rfl : It.mk 79 x.name [] = z := by simpa [itemI, It.list] using hz
        exact ⟨none, 0, by rw [cell_of_row _ _ _ _ _ _ e]; rfl, by rw [cell_of_row _ _ _ _ _ _ e]; rfl, by rw [cell_of_row _ _ _ _ _ _ e]; rfl, Nat.le_refl _, rfl, by show (_ : Int) ≤ _; simp [It.tag], hxm.1⟩
      | 1, hz =>
        obtain rfl : It.mk 80 x.label [] = z := by simpa [itemI, It.list] using hz
        exact ⟨none, 0, by rw [cell_of_row _ _ _ _ _ _ e]; rfl, by rw [cell_of_row _ _ _ _ _ _ e]; rfl, by rw [cell_of_row _ _ _ _ _ _ e]; rfl, Nat.le_refl _, rfl, by show (_ : Int) ≤ _; simp [It.tag], hxm.2⟩
      | 2, hz =>
        obtain rfl : It.mk 135 (strOfNums [lastN x]) [] = z := by simpa [itemI, It.list] using hz
        exact ⟨none, 0, by rw [cell_of_row _ _ _ _ _ _ e]; rfl, by rw [cell_of_row _ _ _ _ _ _ e]; rfl, by rw [cell_of_row _ _ _ _ _ _ e]; rfl, Nat.le_refl _, rfl, by simp [It.tag], by show (strOfNums [lastN x]).size ≤ maxLen; rw [strOfNums_size]; unfold maxLen; simp⟩
      | j + 3, hz => simp [itemI, It.list] at hz
    · show (97 : Int) ≤ 9223372036854775807; decide
    · show (0 : Nat) ≤ maxLen; exact Nat.zero_le _
/-- what Print answers -/
def appsS (l : List XApp) : ByteArray := if appsE l = 0 then appsT l else ⟨#[]⟩
theorem ret_pairQ {s t : ByteArray} {a b : Int} (h1 : s = t) (h2 : a = b) : Ending.returned (.tuple #[.string s, .int .i64 a]) = .returned (.tuple #[.string t, .int .i64 b]) := by rw [h1, h2]
end Go.Proofs.YtfpglpefofcdeaaDoor
