/- Items as applications: appOf and Parse of the program. -/
import Derived.Test.YtfpglpefofcdeaaDoorM30
import Derived.Test.YtfpglpefofcdeaaDoorM08
import Derived.Deep.QuietTactic
import Derived.BigQuiet
import Derived.Deep.DeepCutAuto
import Derived.Deep.CutBlock
namespace Go.Proofs.YtfpglpefofcdeaaDoor
open Go.RowKit
set_option linter.unusedVariables false

/-- the text of a tag within an item, as the program finds it -/
def gotT (n : Int) (d : Nat) (l : List It) : ByteArray := (findD n d l).getD ⟨#[]⟩
/-- the application of an item, as the program reads it -/
def appP (d : Nat) (x : It) : XApp := ⟨gotT 79 d x.list, gotT 80 d x.list, bits .andNot .i64 (readV (gotT 135 d x.list)) 128, (bits .and .i64 (readV (gotT 135 d x.list)) 128 != 0)⟩
theorem find_size (n : Int) : ∀ (d : Nat) (l : List It) (t : ByteArray), findD n d l = some t → t.size ≤ wt d l
  | 0, l, t, h => by cases h
  | d + 1, [], t, h => by cases h
  | d + 1, x :: r, t, h => by
    have e : findD n (d + 1) (x :: r) = match stepF n (findD n d) x with | some u => some u | none => findD n (d + 1) r := by
      show List.findSome? _ (x :: r) = _
      rw [List.findSome?_cons]
      cases stepF n (findD n d) x <;> rfl
    rw [e] at h
    have hw : wt (d + 1) (x :: r) = 1 + x.text.size + wt d x.list + wt (d + 1) r := by simp [wt]
    cases hs : stepF n (findD n d) x with
    | none =>
      rw [hs] at h
      have := find_size n (d + 1) r t h
      omega
    | some u =>
      rw [hs] at h
      obtain rfl : u = t := Option.some.inj h
      unfold stepF at hs
      split at hs
      · have := find_size n d x.list u hs
        omega
      · split at hs
        · obtain rfl := Option.some.inj hs
          omega
        · cases hs
theorem got_size (n : Int) (d : Nat) (l : List It) : (gotT n d l).size ≤ wt d l := by
  unfold gotT
  cases h : findD n d l with
  | none => exact Nat.zero_le _
  | some t => exact find_size n d l t h
theorem bits_bound (op : BinOp) (x y : Int) : -9223372036854775808 ≤ bits op .i64 x y ∧ bits op .i64 x y ≤ 9223372036854775807 := by
  unfold bits
  simp only
  rw [IntKind.wrap_i64]
  generalize (_ : Int) = z
  omega
theorem last_bits : ∀ (f : Fin 16) (c : Bool), bits .andNot .i64 ((f.val : Int) + (if c then 128 else 0)) 128 = f.val ∧ (bits .and .i64 ((f.val : Int) + (if c then 128 else 0)) 128 != 0) = c := by decide +kernel
theorem read_one (n : Int) (h0 : 0 ≤ n) (h1 : n < 256) : readV (strOfNums [n]) = n := by
  have hs : (strOfNums [n]).size = 1 := by rw [strOfNums_size]; rfl
  have hd : (strOfNums [n]).data.toList = [UInt8.ofNat n.toNat] := by simp [strOfNums]
  have hv : valN [UInt8.ofNat n.toNat] = n.toNat := by
    have : (UInt8.ofNat n.toNat).toNat = n.toNat := by rw [UInt8.toNat_ofNat']; omega
    simp [valN, this]
  unfold readV
  rw [hs, if_neg (by omega), hd, hv, if_neg (by omega)]
  omega
theorem find_leaf {n t : Int} {d : Nat} {s : ByteArray} {r : List It} (hm : madeV t = false) : findD n (d + 1) (.mk t s [] :: r) = if t = n then some s else findD n (d + 1) r := by
  show List.findSome? _ (_ :: r) = _
  rw [List.findSome?_cons]
  have e : stepF n (findD n d) (.mk t s []) = if t = n then some s else none := by
    unfold stepF
    rw [show (It.mk t s []).tag = t from rfl, hm]
    rfl
  rw [e]
  by_cases h : t = n
  · rw [if_pos h, if_pos h]
  · rw [if_neg h, if_neg h]; rfl
theorem made_79 : madeV 79 = false := by decide +kernel
theorem made_80 : madeV 80 = false := by decide +kernel
theorem made_135 : madeV 135 = false := by decide +kernel
theorem appP_item (x : XApp) (hs : sizedA x) (h0 : 0 ≤ x.prio) (h1 : x.prio ≤ 15) : appP 7 (itemI x) = x := by
  have e1 : gotT 79 7 (itemI x).list = x.name := by
    show (findD 79 (6 + 1) (.mk 79 x.name [] :: _)).getD _ = _
    rw [find_leaf made_79, if_pos rfl]; rfl
  have e2 : gotT 80 7 (itemI x).list = x.label := by
    show (findD 80 (6 + 1) (.mk 79 x.name [] :: .mk 80 x.label [] :: _)).getD _ = _
    rw [find_leaf made_79, if_neg (by decide), find_leaf made_80, if_pos rfl]; rfl
  have e3 : gotT 135 7 (itemI x).list = strOfNums [lastN x] := by
    show (findD 135 (6 + 1) (.mk 79 x.name [] :: .mk 80 x.label [] :: .mk 135 (strOfNums [lastN x]) [] :: [])).getD _ = _
    rw [find_leaf made_79, if_neg (by decide), find_leaf made_80, if_neg (by decide), find_leaf made_135, if_pos rfl]; rfl
  obtain ⟨p, hp⟩ := Int.eq_ofNat_of_zero_le h0
  have hl : lastN x = (p : Int) + (if x.confirm then 128 else 0) := by unfold lastN; rw [hp]
  have e4 : readV (gotT 135 7 (itemI x).list) = (p : Int) + (if x.confirm then 128 else 0) := by
    rw [e3, hl]
    refine read_one _ ?_ ?_
    · split <;> omega
    · split <;> omega
  obtain ⟨b1, b2⟩ := last_bits ⟨p, by omega⟩ x.confirm
  unfold appP
  rw [e4, e1, e2]
  simp only at b1 b2
  rw [b1, b2, ← hp]

theorem two_newP (w : World) (A B : Obj) : ((w.alloc A).alloc B).heap[w.heap.size]? = some A ∧ ((w.alloc A).alloc B).heap[w.heap.size + 1]? = some B := by
  constructor
  · have h := ((Below.refl (w.alloc A).heap.size (w.alloc A)).alloc (Nat.le_refl _) B).block w.heap.size (by simp)
    rw [h]; exact heap_alloc_new w A
  · exact new_blockP _ _ _ (by simp)

theorem infoAppP : (Tryd.prog.info? 169).map (fun i => (i.zero, i.size, i.bytes)) = some (some (.agg #[.string ⟨#[]⟩, .string ⟨#[]⟩, .int .i64 0, .bool false]), 4, 48) := by kernel_rfl
/-- the first k applications of a row that is being filled -/
def APart (w : World) (g : Nat) (l : List XApp) (k : Nat) : Prop := ∃ cur : Array Value, w.heap[g]? = some (.cells cur 169 (0, 0)) ∧ cur.size = l.length * 4 ∧
  ∀ i x, i < k → l[i]? = some x → cur[i * 4]? = some (.string x.name) ∧ cur[i * 4 + 1]? = some (.string x.label) ∧ cur[i * 4 + 2]? = some (.int .i64 x.prio) ∧ cur[i * 4 + 3]? = some (.bool x.confirm)
theorem APart.lt {w : World} {g : Nat} {l : List XApp} {k : Nat} (h : APart w g l k) : g < w.heap.size := by
  obtain ⟨cur, hh, _⟩ := h
  exact block_ltQ hh
theorem APart.below {w w' : World} {g : Nat} {l : List XApp} {k : Nat} (h : APart w g l k) (hb : Below w.heap.size w w') : APart w' g l k := by
  obtain ⟨cur, hh, hs, hc⟩ := h
  exact ⟨cur, (hb.block g (block_ltQ hh)).trans hh, hs, hc⟩
theorem APart.next {w : World} {g : Nat} {l : List XApp} {k : Nat} {x : XApp} (h : APart w g l k) (hx : l[k]? = some x) :
    APart ((((w.setCell ⟨g, k * 4, none⟩ (.string x.name)).setCell ⟨g, k * 4 + 1, none⟩ (.string x.label)).setCell ⟨g, k * 4 + 2, none⟩ (.int .i64 x.prio)).setCell ⟨g, k * 4 + 3, none⟩ (.bool x.confirm)) g l (k + 1) := by
  obtain ⟨cur, hh, hs, hc⟩ := h
  have hk : k < l.length := by
    rcases Nat.lt_or_ge k l.length with h | h
    · exact h
    · rw [List.getElem?_eq_none h] at hx; cases hx
  have H := set_rowQ (j := k * 4 + 3) (v := .bool x.confirm) (set_rowQ (j := k * 4 + 2) (v := .int .i64 x.prio) (set_rowQ (j := k * 4 + 1) (v := .string x.label) (set_rowQ (j := k * 4) (v := .string x.name) hh)))
  refine ⟨_, H, by simp only [Array.size_setIfInBounds]; exact hs, fun i y hi' hy => ?_⟩
  by_cases e : i = k
  · subst e
    obtain rfl : x = y := by rw [hx] at hy; cases hy; rfl
    refine ⟨?_, ?_, ?_, ?_⟩ <;> (repeat (first | rw [get_setO _ _ _ _ (by omega)] | rw [get_setS _ _ _ (by first | omega | (simp only [Array.size_setIfInBounds]; omega))]))
  · obtain ⟨a, b, c, d⟩ := hc i y (by omega) hy
    refine ⟨?_, ?_, ?_, ?_⟩ <;> ((repeat rw [get_setO _ _ _ _ (by omega)]); assumption)
theorem APart.row {w : World} {g : Nat} {l : List XApp} (h : APart w g l l.length) (ho : ∀ x ∈ l, okApp w x) (hm : l.length ≤ maxLen) : RowApp w (some ⟨g, 0, none⟩) l := by
  have hlt := h.lt
  obtain ⟨cur, hh, hs, hc⟩ := h
  refine ⟨.inr ⟨g, 0, rfl, hlt, fun i x hx => ?_⟩, ho, hm⟩
  have hi : i < l.length := by
    rcases Nat.lt_or_ge i l.length with h | h
    · exact h
    · rw [List.getElem?_eq_none h] at hx; cases hx
  obtain ⟨a, b, c, d⟩ := hc i x hi hx
  rw [Nat.zero_add]
  exact ⟨by rw [cell_of_row _ _ _ _ _ _ hh]; exact a, by rw [cell_of_row _ _ _ _ _ _ hh]; exact b, by rw [cell_of_row _ _ _ _ _ _ hh]; exact c, by rw [cell_of_row _ _ _ _ _ _ hh]; exact d⟩
theorem appP_ok (d : Nat) (x : It) (W : World) (h : wt d x.list ≤ 1048576) : okApp W (appP d x) := by
  have h1 := got_size 79 d x.list
  have h2 := got_size 80 d x.list
  refine ⟨?_, ?_, ?_⟩
  rotate_left 2
  · exact bits_bound .andNot (readV (gotT 135 d x.list)) 128
  · show (gotT 79 d x.list).size ≤ maxLen
    unfold maxLen; omega
  · show (gotT 80 d x.list).size ≤ maxLen
    unfold maxLen; omega
/-- what is read -/
def readsL (s : ByteArray) : List XApp := (readA (appP 7) s).getD []
def readsE (s : ByteArray) : Int := if (readA (appP 7) s).isSome then 0 else 1
theorem parses_ne {s : ByteArray} (h : parsesE s ≠ 0) : readsL s = [] ∧ readsE s = 1 := by
  have : readA (appP 7) s = none := by unfold readA; rw [if_neg (fun hc => h hc.1)]
  unfold readsL readsE
  rw [this]
  exact ⟨rfl, rfl⟩
theorem ret_rowQ {ao : Option Addr} {n m c : Nat} {a b : Int} (h1 : n = m) (h2 : a = b) : Ending.returned (.tuple #[.slice ao n c, .int .i64 a]) = .returned (.tuple #[.slice ao m c, .int .i64 b]) := by rw [h1, h2]
theorem rowApp_nil (W : World) (ao : Option Addr) : RowApp W ao [] := ⟨.inl rfl, by simp, by simp⟩
theorem toList_neQ {x y : ByteArray} (h : x ≠ y) : (x.toList == y.toList) = false := by
  rw [beq_eq_false_iff_ne]
  intro e
  apply h
  rw [Lib.toList_data, Lib.toList_data] at e
  apply ByteArray.ext
  exact Array.toList_inj.1 e
end Go.Proofs.YtfpglpefofcdeaaDoor
namespace Go.Proofs.YtfpglpefofcdeaaDoor
open Go.RowKit
set_option linter.unusedVariables false

theorem dupTo_mono (ns : List (List UInt8)) (k n : Nat) (h : dupTo ns k = true) (hkn : k ≤ n) : dupTo ns n = true := by
  induction n with
  | zero => rw [show k = 0 by omega] at h; exact h
  | succ n ih =>
    by_cases hk : k = n + 1
    · rw [← hk]; exact h
    · rw [dupTo, ih (by omega), Bool.true_or]

end Go.Proofs.YtfpglpefofcdeaaDoor
