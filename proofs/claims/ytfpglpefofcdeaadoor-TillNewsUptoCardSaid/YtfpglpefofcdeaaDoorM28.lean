/- appendItems of the program. -/
import Derived.Test.YtfpglpefofcdeaaDoorM27
import Derived.Lib.ConvBytes
namespace Go.Proofs.YtfpglpefofcdeaaDoor
open Go.RowKit
set_option linter.unusedVariables false

/-- a text's bytes as numbers -/
def strL (s : ByteArray) : List Int := s.data.toList.map fun u => (u.toNat : Int)
theorem strL_length (s : ByteArray) : (strL s).length = s.size := by simp [strL]
/-- an item written -/
def itemL (t : Nat) (body : List Int) : List Int := tagL t ++ (lenL body.length ++ body)
def bodyL (T : List It → List Int) (x : It) : List Int := if madeV x.tag = true then T x.list else strL x.text
def textD : Nat → List It → List Int
  | 0, _ => []
  | d + 1, l => l.flatMap fun x => itemL x.tag.toNat (bodyL (textD d) x)
theorem itemL_length (t : Nat) (b : List Int) : (itemL t b).length = tagLen t + lenLen b.length + b.length := by
  unfold itemL
  rw [List.length_append, List.length_append, lenL_length, bigL_length]
  omega
theorem fits_body {d : Nat} {x : It} {b1 b2 : Nat} (hf : fitsB x.tag x.text.size x.list.length = true) (hm : measD d x.list = some (b1, b2)) (ht : (textD d x.list).length = b1) : (bodyL (textD d) x).length = b1 + x.text.size := by
  unfold fitsB at hf
  unfold bodyL
  by_cases h : madeV x.tag = true
  · rw [if_pos h] at hf ⊢
    have : x.text.size = 0 := by simpa using hf
    omega
  · rw [if_neg h] at hf ⊢
    have hl : x.list = [] := by
      have : x.list.length = 0 := by
        cases hv : validB x.tag with
        | false => rw [hv] at hf; simp at hf
        | true => rw [hv] at hf; simpa using hf
      exact List.length_eq_zero_iff.1 this
    have : b1 = 0 := by
      rw [hl] at ht
      cases d <;> simp [textD] at ht <;> omega
    rw [strL_length, this]
    omega
theorem fold_text {d : Nat} (ih : ∀ l s p, measD d l = some (s, p) → (textD d l).length = s) : ∀ (l : List It) (s0 p0 s p : Nat), l.foldl (stepM (measD d)) (some (s0, p0)) = some (s, p) → s0 + (textD (d + 1) l).length = s
  | [], s0, p0, s, p, h => by simp at h; simp [textD, h.1]
  | x :: r, s0, p0, s, p, h => by
    rw [List.foldl_cons, step_yes] at h
    by_cases hf : fitsB x.tag x.text.size x.list.length = true
    · rw [if_pos hf] at h
      cases hm : measD d x.list with
      | none => rw [hm, Option.map_none, step_none] at h; cases h
      | some b =>
        obtain ⟨b1, b2⟩ := b
        rw [hm, Option.map_some] at h
        have h1 := fits_body hf hm (ih _ _ _ hm)
        have h2 := fold_text ih r _ _ s p h
        have e : textD (d + 1) (x :: r) = itemL x.tag.toNat (bodyL (textD d) x) ++ textD (d + 1) r := by simp [textD]
        rw [e, List.length_append, itemL_length, h1]
        simp only at h2
        omega
    · rw [if_neg hf, step_none] at h; cases h
theorem meas_text : ∀ (d : Nat) (l : List It) (s p : Nat), measD d l = some (s, p) → (textD d l).length = s
  | 0, l, s, p, h => by simp [measD] at h; simp [textD, h.1]
  | d + 1, l, s, p, h => by have := fold_text (meas_text d) l 0 0 s p h; omega
theorem fold_item {d : Nat} : ∀ (l : List It) (k : Nat) (x : It) (s0 p0 s p : Nat), l.foldl (stepM (measD d)) (some (s0, p0)) = some (s, p) → l[k]? = some x → fitsB x.tag x.text.size x.list.length = true ∧ ∃ b1 b2, measD d x.list = some (b1, b2)
  | [], k, x, s0, p0, s, p, h, hx => by simp at hx
  | y :: r, k, x, s0, p0, s, p, h, hx => by
    rw [List.foldl_cons, step_yes] at h
    by_cases hf : fitsB y.tag y.text.size y.list.length = true
    · rw [if_pos hf] at h
      cases hm : measD d y.list with
      | none => rw [hm, Option.map_none, step_none] at h; cases h
      | some b =>
        obtain ⟨b1, b2⟩ := b
        rw [hm, Option.map_some] at h
        cases k with
        | zero => simp at hx; subst hx; exact ⟨hf, b1, b2, hm⟩
        | succ k => exact fold_item r k x _ _ s p h (by simpa using hx)
    · rw [if_neg hf, step_none] at h; cases h
theorem text_take {d : Nat} {l : List It} {k : Nat} {x : It} (hx : l[k]? = some x) : textD (d + 1) (l.take (k + 1)) = textD (d + 1) (l.take k) ++ itemL x.tag.toNat (bodyL (textD d) x) := by
  have hk : k < l.length := by
    rcases Nat.lt_or_ge k l.length with h | h
    · exact h
    · rw [List.getElem?_eq_none h] at hx; cases hx
  rw [List.getElem?_eq_getElem hk] at hx
  rw [List.take_succ_eq_append_getElem hk, Option.some.inj hx]
  simp [textD]
theorem text_take_le {d : Nat} (l : List It) (k : Nat) : (textD (d + 1) (l.take k)).length ≤ (textD (d + 1) l).length := by
  have e : textD (d + 1) l = textD (d + 1) (l.take k) ++ textD (d + 1) (l.drop k) := by
    unfold textD
    rw [← List.flatMap_append, List.take_append_drop]
  rw [e, List.length_append]
  omega
theorem strCells_eq (s : ByteArray) : Lib.strCells s = (strL s).map (Value.int .u8) := by
  simp [Lib.strCells, strL]

def Bytes (l : List Int) : Prop := ∀ n ∈ l, 0 ≤ n ∧ n < 256
theorem lenL_bytes (n : Nat) (h : n < 65536) : Bytes (lenL n) := by
  unfold lenL Bytes
  intro m hm
  split at hm
  · simp at hm; omega
  · split at hm
    · simp at hm; omega
    · simp at hm; omega
theorem strL_bytes (s : ByteArray) : Bytes (strL s) := by
  intro n hn
  obtain ⟨u, _, rfl⟩ := List.mem_map.1 hn
  have := u.toNat_lt
  omega
theorem tagL_bytes (t : Nat) : Bytes (tagL t) := by
  intro n hn
  exact bigL_bytes _ _ n hn
theorem text_bytes : ∀ (d : Nat) (l : List It) (s p : Nat), measD d l = some (s, p) → s ≤ 65535 → Bytes (textD d l)
  | 0, l, s, p, _, _ => by intro n hn; simp [textD] at hn
  | d + 1, l, s, p, hm, hs => by
    intro n hn
    unfold textD at hn
    obtain ⟨x, hx, hn⟩ := List.mem_flatMap.1 hn
    obtain ⟨k, hk, rfl⟩ := List.mem_iff_getElem.1 hx
    have hxk : l[k]? = some l[k] := List.getElem?_eq_getElem hk
    obtain ⟨hf, b1, b2, hmx⟩ := fold_item l k l[k] 0 0 s p hm hxk
    have htx := meas_text d _ _ _ hmx
    have hbody := fits_body hf hmx htx
    have htl := meas_text (d + 1) l s p hm
    have hpre := text_take_le (d := d) l (k + 1)
    rw [text_take hxk, List.length_append, itemL_length, htl] at hpre
    unfold itemL at hn
    rcases List.mem_append.1 hn with h | h
    · exact tagL_bytes _ n h
    · rcases List.mem_append.1 h with h | h
      · exact lenL_bytes _ (by omega) n h
      · unfold bodyL at h
        split at h
        · exact text_bytes d _ b1 b2 hmx (by omega) n h
        · exact strL_bytes _ n h
theorem strL_nums {ns : List Int} (h : Bytes ns) : strL (strOfNums ns) = ns := by
  have e : (strOfNums ns).data.toList = ns.map fun n => UInt8.ofNat n.toNat := by simp [strOfNums]
  unfold strL
  rw [e, List.map_map]
  conv => rhs; rw [← List.map_id ns]
  refine List.map_congr_left fun n hn => ?_
  have := h n hn
  simp only [Function.comp, id, UInt8.toNat_ofNat']
  omega
theorem owns_keep {w w' : World} {base : Nat} {e : TypeId} {size : Nat} {v : Value} {n : Nat} {xs : List Value} (h : w.ownsRow base e size v n xs) (hb : Below w.heap.size w w') : w'.ownsRow base e size v n xs := by
  refine ⟨h.1, ?_⟩
  rcases h.2 with h0 | ⟨g, cap, cur, e1, e2, e3, e4⟩
  · exact .inl h0
  · refine .inr ⟨g, cap, cur, e1, e2, ?_, e4⟩
    have hg : g < w.heap.size := by
      rcases Nat.lt_or_ge g w.heap.size with h | h
      · exact h
      · rw [Array.getElem?_eq_none h] at e3; cases e3
    rw [hb.block g hg]; exact e3

theorem text_ge {d : Nat} : ∀ l : List It, l.length ≤ (textD (d + 1) l).length
  | [] => by simp
  | x :: r => by
    have := text_ge (d := d) r
    have e : textD (d + 1) (x :: r) = itemL x.tag.toNat (bodyL (textD d) x) ++ textD (d + 1) r := by simp [textD]
    have h1 := tagLen_le x.tag.toNat
    rw [e, List.length_append, itemL_length, List.length_cons]
    omega
theorem row_text {w : World} {d : Nat} {ao : Option Addr} {l : List It} (h : IRow w d ao l) : l.length ≤ (textD d l).length := by
  cases d with
  | zero => rw [show l = [] from h]; simp
  | succ d => exact text_ge l
theorem own_item {w : World} {base m t : Nat} {v : Value} {pre nx bd : List Int} {s : ByteArray} (hnx : nx = pre ++ itemL t bd) (hbd : bd = strL s) (hm : m = s.size)
    (h : w.ownsRow base 5 1 v (pre.length + tagLen t + lenLen m + s.size) (pre.map (Value.int .u8) ++ ((tagL t).map (Value.int .u8) ++ ((lenL m).map (Value.int .u8) ++ Lib.strCells s)))) : w.ownsRow base 5 1 v nx.length (nx.map (Value.int .u8)) := by
  subst hm
  have e1 : nx.length = pre.length + tagLen t + lenLen s.size + s.size := by
    rw [hnx, List.length_append, itemL_length, hbd, strL_length]; omega
  have e2 : nx.map (Value.int .u8) = pre.map (Value.int .u8) ++ ((tagL t).map (Value.int .u8) ++ ((lenL s.size).map (Value.int .u8) ++ Lib.strCells s)) := by
    rw [hnx, hbd, strCells_eq]
    unfold itemL
    rw [strL_length]
    simp
  rw [e1, e2]
  exact h

set_option maxRecDepth 1000000 in
set_option maxHeartbeats 8000000 in
theorem appendItems_any : ∀ (d : Nat) (l : List It) (ao : Option Addr) (cap : Nat) (w : World) (s p : Nat), IRow w d ao l → measD d l = some (s, p) → s ≤ 65535 → (l.length : Int) ≤ 2097152 →
    Calls Tryd.prog 79 #[.slice none 0 0, .slice ao l.length cap] w fun e w' => ∃ v, e = .returned v ∧ w'.ownsRow w.heap.size 5 1 v (textD d l).length ((textD d l).map (Value.int .u8)) ∧ Below w.heap.size w w'
  | 0, l, ao, cap, w, s, p, hr, hm, hs, hlm => by
    have hl : l = [] := hr
    subst hl
    clear hr hm hs hlm
    go_enter Tryd.func79, Tryd.ntmps79
    go_wp2
    go_loopw [0, 10] (fun v i wr => v = .slice none 0 0 ∧ i = .int .i64 0 ∧ Below w.heap.size w wr) (fun _ _ _ => 0)
    case atStart => exact ⟨rfl, rfl, Below.refl _ _⟩
    case round =>
      obtain ⟨rfl, rfl, hbw⟩ := hrel
      go_wp2
      go_ret
      exact ⟨_, rfl, World.ownsRow_nil _ _ _ _, hbw⟩
  | d + 1, l, ao, cap, w, s, p, hr, hm, hs, hlm => by
    obtain ⟨i0, hi, hz0, hz1, hz2⟩ := info_parts infoByte
    have IH := hide (appendItems_any d)
    have htl := meas_text (d + 1) l s p hm
    have HM := hide hm; have HT := hide htl; have HS := hide hs
    clear hm htl hs
    go_enter Tryd.func79, Tryd.ntmps79
    go_wp2
    go_loopw [0, 10] (fun v i wr => ∃ k : Nat, k ≤ l.length ∧ i = .int .i64 k ∧ wr.ownsRow w.heap.size 5 1 v (textD (d + 1) (l.take k)).length ((textD (d + 1) (l.take k)).map (Value.int .u8)) ∧ Below w.heap.size w wr) (fun _ i _ => l.length - (intOf i).toNat)
    case atStart => exact ⟨0, Nat.zero_le _, rfl, World.ownsRow_nil _ _ _ _, Below.refl _ _⟩
    case round =>
      rename World => wo
      obtain ⟨k, hk, rfl, hown, hbw⟩ := hrel
      by_cases hlt : k < l.length
      · rcases hr with hnil | ⟨b, off, rfl, hb, hc⟩
        · rw [hnil] at hlt; simp at hlt
        obtain ⟨x, hx⟩ : ∃ x, l[k]? = some x := ⟨_, List.getElem?_eq_getElem hlt⟩
        obtain ⟨co, cc, c0, c1, c2, hcc, hsub, htag, htxt⟩ := hc k x hx
        obtain ⟨hf, b1, b2, hmx⟩ := fold_item l k x 0 0 s p (unhide HM) hx
        have hbody := fits_body hf hmx (meas_text d _ _ _ hmx)
        have hnx := text_take (d := d) hx
        have hpre := text_take_le (d := d) l (k + 1)
        have hpre0 := text_take_le (d := d) l k
        rw [unhide HT] at hpre hpre0
        have hil := itemL_length x.tag.toNat (bodyL (textD d) x)
        have hss := unhide HS
        rw [hnx, List.length_append, hil] at hpre
        have hb1 : b1 ≤ 65535 := by omega
        have d0 : wo.cell? ⟨b, off + k * 3, none⟩ = _ := (hbw.cell (p := ⟨b, off + k * 3, none⟩) hb).trans c0
        have d1 : wo.cell? ⟨b, off + k * 3 + 1, none⟩ = _ := (hbw.cell (p := ⟨b, off + k * 3 + 1, none⟩) hb).trans c1
        have d2 : wo.cell? ⟨b, off + k * 3 + 2, none⟩ = _ := (hbw.cell (p := ⟨b, off + k * 3 + 2, none⟩) hb).trans c2
        have hbk : b < wo.heap.size := World.block_lt_of_cell? _ _ d0
        have n1 := fun w => madeV_any x.tag w htag
        have hvt : validB x.tag = true := by
          unfold fitsB at hf
          split at hf
          · rename_i hm; unfold madeV at hm; simp at hm; exact hm.1
          · simp at hf; exact hf.1
        have hxlen := hsub.length_le
        have hxl2 : (x.list.length : Int) ≤ 65535 := by
          have := row_text hsub
          rw [meas_text d _ _ _ hmx] at this
          omega
        obtain ⟨hv1, hv2⟩ := validB_lt hvt
        have N2 := hide (fun (w2 : World) (h : Below w.heap.size w w2) => unhide IH x.list co cc w2 b1 b2 (IRow.below h d hsub) hmx hb1 (by omega))
        have hbt := text_bytes d _ _ _ hmx hb1
        have hbd : bodyL (textD d) x = if madeV x.tag = true then textD d x.list else strL x.text := rfl
        generalize x.tag = xt at *
        generalize x.text = xs at *
        generalize x.list.length = xn at *
        generalize textD d x.list = xtx at *
        obtain ⟨tn, rfl⟩ := Int.eq_ofNat_of_zero_le (show 0 ≤ xt by omega)
        rw [Int.toNat_natCast] at hnx hpre hil
        have htn : tn < 16777216 := by omega
        have HTN := hide htn
        clear c0 c1 c2 hc hsub hx hf hmx hxlen hvt hv1 hv2 htn
        cases hm : madeV (tn : Int) with
        | true =>
          rw [hm] at n1 hbd
          simp only [if_true] at hbd
          have N1 := hide n1; have HX := hide hnx; have HP := hide hpre; have HBD := hide hbd; have HBT := hide hbt; have HP0 := hide hpre0
          clear n1 hnx hpre hbd hm hbody hil hbt hpre0 hss hb1
          go_wp2_with fail
          refine (unhide N1 _).mono ?_
          rintro e w2 ⟨rfl, hw2⟩
          subst hw2
          have hblk1 := heap_alloc_new wo (.cells #[.int .i64 (tn : Int), .string xs, .slice co xn cc] 123)
          have hbo1 : Below wo.heap.size wo (wo.alloc (.cells #[.int .i64 (tn : Int), .string xs, .slice co xn cc] 123)) := (Below.refl _ _).alloc (Nat.le_refl _) _
          have hsz1 : wo.heap.size < (wo.alloc (.cells #[.int .i64 (tn : Int), .string xs, .slice co xn cc] 123)).heap.size := by simp
          go_wp2_with fail
          refine (unhide N2 _ (below_more hbw hbw.size hbo1)).mono ?_
          rintro e w3 ⟨v3, rfl, own3, hb3⟩
          have hbo3 : Below wo.heap.size wo w3 := below_more hbo1 hbo1.size hb3
          have hbW : Below w.heap.size w w3 := below_more hbw hbw.size hbo3
          have ownW := owns_keep hown hbo3
          have z0 : w3.cell? ⟨wo.heap.size, 0, none⟩ = some (.int .i64 (tn : Int)) := cell_of_row _ _ 0 _ _ _ ((hb3.block _ hsz1).trans hblk1)
          have hsx : (strOfNums xtx).size < 65536 := by rw [strOfNums_size]; have hS := unhide HS; have := unhide HP; rw [unhide HBD] at this; omega
          have HSX := hide hsx
          have hbs : bodyL (textD d) x = strL (strOfNums xtx) := by rw [unhide HBD, strL_nums (unhide HBT)]
          have HBS := hide hbs
          clear hsx hbs
          rcases owned_cells own3 with ⟨hv, hn⟩ | ⟨g3, cap3, hv, _, hcl⟩
          · have hcv := run_convert_bytes_nil (P := Tryd.prog) w3 114 5 Tryd.underlying114 Tryd.underlying5 0 0 9 Tryd.underlying9
            subst hv
            have HNX := hide hn
            clear own3 hn hbo3 hbo1 hblk1 hsz1 hb3 N2 N1
            go_wp2_with fail
            refine (appendHead_any tn (⟨#[]⟩ : ByteArray).size w.heap.size _ _ _ w3 (unhide HTN) ((by decide)) ownW (by have hS := unhide HS; have := unhide HP0; omega) (by have := hbW.size; omega)).mono ?_
            rintro e w4 ⟨g, cp, rfl, own4, grow4, hg4⟩
            have hb4 : Below w.heap.size w w4 := hbW.grown grow4 (by have := hbW.size; omega) (fun q hq => (ownW.lt q hq).1)
            go_wp2_with (at_builtin; refine Lib.wpList_append_own_string _ rfl _ _ 114 9 rfl w.heap.size 5 i0 Tryd.underlying114 Tryd.underlying9 hi hz0 hz1 hz2 _ _ _ rfl own4 (⟨#[]⟩ : ByteArray) rfl ?c3 ?c4 ?c5 ?_)
            case c3 => have hS := unhide HS; have := unhide HP0; have : (⟨#[]⟩ : ByteArray).size < 65536 := (by decide); have := tagLen_le tn; have := lenLen_le (⟨#[]⟩ : ByteArray).size; unfold maxLen; omega
            case c4 => have hS := unhide HS; have := unhide HP0; have : (⟨#[]⟩ : ByteArray).size < 65536 := (by decide); have := tagLen_le tn; have := lenLen_le (⟨#[]⟩ : ByteArray).size; omega
            case c5 => exact hb4.size
            intro v' w5 own5 grow5 _
            have hb5 : Below w.heap.size w w5 := hb4.grown grow5 hb4.size (fun q hq => (own4.lt q hq).1)
            have own6 := own_item (m := 0) (s := ⟨#[]⟩) (unhide HX) (show bodyL (textD d) x = strL ⟨#[]⟩ by rw [unhide HBD, unhide HNX]; rfl) rfl own5
            clear own5 grow5 own4 grow4 hown hbw
            go_wp2
            go_roundw
            case rel => exact ⟨k + 1, by omega, by go_num, own6, hb5⟩
            case measure => simp [intOf]; omega
          · have hcv := run_convert_bytes_arg (P := Tryd.prog) w3 114 5 Tryd.underlying114 Tryd.underlying5 g3 0 xtx.length cap3 _ rfl hcl 9 Tryd.underlying9
            subst hv
            clear own3 hcl hbo3 hbo1 hblk1 hsz1 hb3 N2 N1
            go_wp2_with fail
            refine (appendHead_any tn (strOfNums xtx).size w.heap.size _ _ _ w3 (unhide HTN) (unhide HSX) ownW (by have hS := unhide HS; have := unhide HP0; omega) (by have := hbW.size; omega)).mono ?_
            rintro e w4 ⟨g, cp, rfl, own4, grow4, hg4⟩
            have hb4 : Below w.heap.size w w4 := hbW.grown grow4 (by have := hbW.size; omega) (fun q hq => (ownW.lt q hq).1)
            go_wp2_with (at_builtin; refine Lib.wpList_append_own_string _ rfl _ _ 114 9 rfl w.heap.size 5 i0 Tryd.underlying114 Tryd.underlying9 hi hz0 hz1 hz2 _ _ _ rfl own4 (strOfNums xtx) rfl ?c3 ?c4 ?c5 ?_)
            case c3 => have hS := unhide HS; have := unhide HP0; have : (strOfNums xtx).size < 65536 := unhide HSX; have := tagLen_le tn; have := lenLen_le (strOfNums xtx).size; unfold maxLen; omega
            case c4 => have hS := unhide HS; have := unhide HP0; have : (strOfNums xtx).size < 65536 := unhide HSX; have := tagLen_le tn; have := lenLen_le (strOfNums xtx).size; omega
            case c5 => exact hb4.size
            intro v' w5 own5 grow5 _
            have hb5 : Below w.heap.size w w5 := hb4.grown grow5 hb4.size (fun q hq => (own4.lt q hq).1)
            have own6 := own_item (unhide HX) (unhide HBS) rfl own5
            clear own5 grow5 own4 grow4 hown hbw
            go_wp2
            go_roundw
            case rel => exact ⟨k + 1, by omega, by go_num, own6, hb5⟩
            case measure => simp [intOf]; omega
        | false =>
          rw [hm] at n1 hbd
          simp only [Bool.false_eq_true, if_false] at hbd
          have N1 := hide n1; have HX := hide hnx; have HP := hide hpre; have HBD := hide hbd; have HP0 := hide hpre0
          clear n1 hnx hpre hbd hm hbody hil hbt hpre0 N2 hss hb1
          go_wp2_with fail
          refine (unhide N1 _).mono ?_
          rintro e w2 ⟨rfl, hw2⟩
          subst hw2
          go_wp2_with fail
          have hsx : xs.size < 65536 := by have hS := unhide HS; have := unhide HP; rw [unhide HBD, strL_length] at this; omega
          have HSX := hide hsx
          have hbW := hbw.alloc hbw.size (.cells #[.int .i64 (tn : Int), .string xs, .slice co xn cc] 123)
          have ownW := hown.alloc (.cells #[.int .i64 (tn : Int), .string xs, .slice co xn cc] 123)
          clear hsx
          generalize wo.alloc (.cells #[.int .i64 (tn : Int), .string xs, .slice co xn cc] 123) = wi at *
          refine (appendHead_any tn xs.size w.heap.size _ _ _ wi (unhide HTN) (unhide HSX) ownW (by have hS := unhide HS; have := unhide HP0; omega) (by have := hbW.size; omega)).mono ?_
          rintro e w4 ⟨g, cp, rfl, own4, grow4, hg4⟩
          have hb4 : Below w.heap.size w w4 := hbW.grown grow4 (by have := hbW.size; omega) (fun q hq => (ownW.lt q hq).1)
          go_wp2_with (at_builtin; refine Lib.wpList_append_own_string _ rfl _ _ 114 9 rfl w.heap.size 5 i0 Tryd.underlying114 Tryd.underlying9 hi hz0 hz1 hz2 _ _ _ rfl own4 xs rfl ?c3 ?c4 ?c5 ?_)
          case c3 => have hS := unhide HS; have := unhide HP0; have : xs.size < 65536 := unhide HSX; have := tagLen_le tn; have := lenLen_le xs.size; unfold maxLen; omega
          case c4 => have hS := unhide HS; have := unhide HP0; have : xs.size < 65536 := unhide HSX; have := tagLen_le tn; have := lenLen_le xs.size; omega
          case c5 => exact hb4.size
          intro v' w5 own5 grow5 _
          have hb5 : Below w.heap.size w w5 := hb4.grown grow5 hb4.size (fun q hq => (own4.lt q hq).1)
          have own6 := own_item (unhide HX) (unhide HBD) rfl own5
          clear own5 grow5 own4 grow4 hown hbw
          go_wp2
          go_roundw
          case rel => exact ⟨k + 1, by omega, by go_num, own6, hb5⟩
          case measure => simp [intOf]; omega
      · have hke : k = l.length := by omega
        subst hke
        rw [List.take_length] at hown
        go_wp2
        go_ret
        exact ⟨_, rfl, hown, hbw⟩
end Go.Proofs.YtfpglpefofcdeaaDoor
