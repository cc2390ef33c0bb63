/- Items as applications: appOf and Parse of the program. -/
import Derived.Test.YtfpglpefofcdeaaGreatDoorM07
namespace Go.Proofs.YtfpglpefofcdeaaGreatDoor
open Go.RowKit
set_option linter.unusedVariables false

/-- the text of a tag within an item, as the program finds it -/
def gotT (n : Int) (d : Nat) (l : List It) : ByteArray := (findD n d l).getD ⟨#[]⟩
/-- the application of an item, as the program reads it -/
def appP (d : Nat) (x : It) : XApp := ⟨gotT 79 d x.list, gotT 80 d x.list, bits .andNot .i64 (readV (gotT 135 d x.list)) 128, (bits .and .i64 (readV (gotT 135 d x.list)) 128 != 0)⟩
theorem find_size (n : Int) : ∀ (d : Nat) (l : List It) (t : ByteArray), findD n d l = some t → t.size ≤ wt d l
  | 0, l, t, h => by cases h
  | d + 1, [], t, h => by cases h
  | d + 1, x :: r, t, h => by
    have e : findD n (d + 1) (x :: r) = match stepF n (findD n d) x with | some u => some u | none => findD n (d + 1) r := by
      show List.findSome? _ (x :: r) = _
      rw [List.findSome?_cons]
      cases stepF n (findD n d) x <;> rfl
    rw [e] at h
    have hw : wt (d + 1) (x :: r) = 1 + x.text.size + wt d x.list + wt (d + 1) r := by simp [wt]
    cases hs : stepF n (findD n d) x with
    | none =>
      rw [hs] at h
      have := find_size n (d + 1) r t h
      omega
    | some u =>
      rw [hs] at h
      obtain rfl : u = t := Option.some.inj h
      unfold stepF at hs
      split at hs
      · have := find_size n d x.list u hs
        omega
      · split at hs
        · obtain rfl := Option.some.inj hs
          omega
        · cases hs
theorem got_size (n : Int) (d : Nat) (l : List It) : (gotT n d l).size ≤ wt d l := by
  unfold gotT
  cases h : findD n d l with
  | none => exact Nat.zero_le _
  | some t => exact find_size n d l t h
theorem bits_bound (op : BinOp) (x y : Int) : -9223372036854775808 ≤ bits op .i64 x y ∧ bits op .i64 x y ≤ 9223372036854775807 := by
  unfold bits
  simp only
  rw [IntKind.wrap_i64]
  generalize (_ : Int) = z
  omega
theorem last_bits : ∀ (f : Fin 16) (c : Bool), bits .andNot .i64 ((f.val : Int) + (if c then 128 else 0)) 128 = f.val ∧ (bits .and .i64 ((f.val : Int) + (if c then 128 else 0)) 128 != 0) = c := by decide +kernel
theorem read_one (n : Int) (h0 : 0 ≤ n) (h1 : n < 256) : readV (strOfNums [n]) = n := by
  have hs : (strOfNums [n]).size = 1 := by rw [strOfNums_size]; rfl
  have hd : (strOfNums [n]).data.toList = [UInt8.ofNat n.toNat] := by simp [strOfNums]
  have hv : valN [UInt8.ofNat n.toNat] = n.toNat := by
    have : (UInt8.ofNat n.toNat).toNat = n.toNat := by rw [UInt8.toNat_ofNat']; omega
    simp [valN, this]
  unfold readV
  rw [hs, if_neg (by omega), hd, hv, if_neg (by omega)]
  omega
theorem find_leaf {n t : Int} {d : Nat} {s : ByteArray} {r : List It} (hm : madeV t = false) : findD n (d + 1) (.mk t s [] :: r) = if t = n then some s else findD n (d + 1) r := by
  show List.findSome? _ (_ :: r) = _
  rw [List.findSome?_cons]
  have e : stepF n (findD n d) (.mk t s []) = if t = n then some s else none := by
    unfold stepF
    rw [show (It.mk t s []).tag = t from rfl, hm]
    rfl
  rw [e]
  by_cases h : t = n
  · rw [if_pos h, if_pos h]
  · rw [if_neg h, if_neg h]; rfl
theorem made_79 : madeV 79 = false := by decide +kernel
theorem made_80 : madeV 80 = false := by decide +kernel
theorem made_135 : madeV 135 = false := by decide +kernel
theorem appP_item (x : XApp) (hs : sizedA x) (h0 : 0 ≤ x.prio) (h1 : x.prio ≤ 15) : appP 7 (itemI x) = x := by
  have e1 : gotT 79 7 (itemI x).list = x.name := by
    show (findD 79 (6 + 1) (.mk 79 x.name [] :: _)).getD _ = _
    rw [find_leaf made_79, if_pos rfl]; rfl
  have e2 : gotT 80 7 (itemI x).list = x.label := by
    show (findD 80 (6 + 1) (.mk 79 x.name [] :: .mk 80 x.label [] :: _)).getD _ = _
    rw [find_leaf made_79, if_neg (by decide), find_leaf made_80, if_pos rfl]; rfl
  have e3 : gotT 135 7 (itemI x).list = strOfNums [lastN x] := by
    show (findD 135 (6 + 1) (.mk 79 x.name [] :: .mk 80 x.label [] :: .mk 135 (strOfNums [lastN x]) [] :: [])).getD _ = _
    rw [find_leaf made_79, if_neg (by decide), find_leaf made_80, if_neg (by decide), find_leaf made_135, if_pos rfl]; rfl
  obtain ⟨p, hp⟩ := Int.eq_ofNat_of_zero_le h0
  have hl : lastN x = (p : Int) + (if x.confirm then 128 else 0) := by unfold lastN; rw [hp]
  have e4 : readV (gotT 135 7 (itemI x).list) = (p : Int) + (if x.confirm then 128 else 0) := by
    rw [e3, hl]
    refine read_one _ ?_ ?_
    · split <;> omega
    · split <;> omega
  obtain ⟨b1, b2⟩ := last_bits ⟨p, by omega⟩ x.confirm
  unfold appP
  rw [e4, e1, e2]
  simp only at b1 b2
  rw [b1, b2, ← hp]

theorem two_newP (w : World) (A B : Obj) : ((w.alloc A).alloc B).heap[w.heap.size]? = some A ∧ ((w.alloc A).alloc B).heap[w.heap.size + 1]? = some B := by
  constructor
  · have h := ((Below.refl (w.alloc A).heap.size (w.alloc A)).alloc (Nat.le_refl _) B).block w.heap.size (by simp)
    rw [h]; exact heap_alloc_new w A
  · exact new_blockP _ _ _ (by simp)
set_option maxRecDepth 100000 in
set_option maxHeartbeats 2000000 in
theorem appOf_any (d : Nat) (x : It) (co : Option Addr) (cc : Nat) (w : World) (hr : IRow w d co x.list) (hw : wt d x.list ≤ 1048576) :
    Calls Tryz.prog 122 #[.agg #[.int .i64 x.tag, .string x.text, .slice co x.list.length cc]] w fun e w' => e = .returned (valApp (appP d x)) ∧ Below w.heap.size w w' := by
  have hgs := got_size 135 d x.list
  have n4 := fun w' => read_all (gotT 135 d x.list) w' (by unfold maxLen; omega)
  have n1 := fun w' (hb : Below w.heap.size w w') => find_any 79 d x.list co cc w' (IRow.below hb d hr) hw
  have n2 := fun w' (hb : Below w.heap.size w w') => find_any 80 d x.list co cc w' (IRow.below hb d hr) hw
  have n3 := fun w' (hb : Below w.heap.size w w') => find_any 135 d x.list co cc w' (IRow.below hb d hr) hw
  have HP : Hid (valApp (appP d x) = .agg #[.string (gotT 79 d x.list), .string (gotT 80 d x.list), .int .i64 (bits .andNot .i64 (readV (gotT 135 d x.list)) 128), .bool (bits .and .i64 (readV (gotT 135 d x.list)) 128 != 0)]) := hide rfl
  have g1 : ∀ n, foundV (findD n d x.list) = .tuple #[.string (gotT n d x.list), .bool (findD n d x.list).isSome] := fun n => rfl
  simp only [g1] at n1 n2 n3
  generalize gotT 79 d x.list = s1 at *
  generalize gotT 80 d x.list = s2 at *
  generalize gotT 135 d x.list = s3 at *
  generalize (findD 79 d x.list).isSome = b1 at *
  generalize (findD 80 d x.list).isSome = b2 at *
  generalize (findD 135 d x.list).isSome = b3 at *
  generalize readV s3 = rv at *
  generalize readE s3 = re at *
  generalize valApp (appP d x) = V at *
  generalize x.tag = tg
  generalize x.text = tx
  generalize x.list.length = xl at *
  have N1 := hide n1; have N2 := hide n2; have N3 := hide n3; have N4 := hide n4
  have HB := hide ((((Below.refl w.heap.size w).alloc (Nat.le_refl _) (.cells #[.int .i64 tg, .string tx, .slice co xl cc] 101)).alloc (by simp) (.cells #[.string ⟨#[]⟩, .string ⟨#[]⟩, .int .i64 0, .bool false] 90)))
  clear n1 n2 n3 n4 g1 hr hw hgs
  go_enter Tryz.func122, Tryz.ntmps122
  go_wp2_with fail
  refine (unhide N1 _ (unhide HB)).mono ?_
  rintro e w1 ⟨rfl, hb1⟩
  obtain ⟨k1, k2⟩ := two_newP w (.cells #[.int .i64 tg, .string tx, .slice co xl cc] 101) (.cells #[.string ⟨#[]⟩, .string ⟨#[]⟩, .int .i64 0, .bool false] 90)
  have j1 := (hb1.block _ (block_ltQ k1)).trans k1
  have j2 := (hb1.block _ (block_ltQ k2)).trans k2
  have hbw := (unhide HB).trans (hb1.mono (unhide HB).size)
  clear k1 k2 hb1 HB
  have z2 : w1.cell? ⟨w.heap.size, 2, none⟩ = some (.slice co xl cc) := cell_of_row _ _ 2 _ _ _ j1
  have J1 := hide j1; have J2 := hide j2; have HBW := hide hbw
  clear j1 j2 hbw
  go_wp2_with fail
  refine (unhide N2 _ (unhide HBW)).mono ?_
  rintro e w2 ⟨rfl, hb2⟩
  have j1 := (hb2.block _ (block_ltQ (unhide J1))).trans (unhide J1)
  have j2 := (hb2.block _ (block_ltQ (unhide J2))).trans (unhide J2)
  have hbw2 := (unhide HBW).trans (hb2.mono (unhide HBW).size)
  clear z2 hb2 J1 J2 HBW
  have z2 : w2.cell? ⟨w.heap.size, 2, none⟩ = some (.slice co xl cc) := cell_of_row _ _ 2 _ _ _ j1
  have J1 := hide j1; have J2 := hide j2; have HBW := hide hbw2
  clear j1 j2 hbw2
  go_wp2_with fail
  refine (unhide N3 _ (unhide HBW)).mono ?_
  rintro e w3 ⟨rfl, hb3⟩
  have j2 := (hb3.block _ (block_ltQ (unhide J2))).trans (unhide J2)
  have hbw3 := (unhide HBW).trans (hb3.mono (unhide HBW).size)
  clear z2 hb3 J1 J2 HBW
  have HBW := hide hbw3
  clear hbw3
  have y0 : w3.cell? ⟨w.heap.size + 1, 0, none⟩ = some (.string ⟨#[]⟩) := cell_of_row _ _ 0 _ _ _ j2
  have y1 : w3.cell? ⟨w.heap.size + 1, 1, none⟩ = some (.string ⟨#[]⟩) := cell_of_row _ _ 1 _ _ _ j2
  have y2 : w3.cell? ⟨w.heap.size + 1, 2, none⟩ = some (.int .i64 0) := cell_of_row _ _ 2 _ _ _ j2
  have y3 : w3.cell? ⟨w.heap.size + 1, 3, none⟩ = some (.bool false) := cell_of_row _ _ 3 _ _ _ j2
  have yf : ∀ o, w3.frozen? ⟨w.heap.size + 1, o, none⟩ = false := fun o => frozen_of_row _ _ o _ _ j2
  clear j2
  go_wp2_with fail
  refine (unhide N4 _).mono ?_
  rintro e w4 ⟨rfl, rfl⟩
  go_wp2
  refine bodyPost_ret (v := V) (by rw [unhide HP]; simp [results, Tryz.results122, go_sem, y0, y1, y2, y3]) rfl ?_
  exact ⟨rfl, ((((unhide HBW).setCell (Nat.le_succ _) _).setCell (Nat.le_succ _) _).setCell (Nat.le_succ _) _).setCell (Nat.le_succ _) _⟩

theorem infoAppP : (Tryz.prog.info? 90).map (fun i => (i.zero, i.size, i.bytes)) = some (some (.agg #[.string ⟨#[]⟩, .string ⟨#[]⟩, .int .i64 0, .bool false]), 4, 48) := by kernel_rfl
/-- the first k applications of a row that is being filled -/
def APart (w : World) (g : Nat) (l : List XApp) (k : Nat) : Prop := ∃ cur : Array Value, w.heap[g]? = some (.cells cur 90 (0, 0)) ∧ cur.size = l.length * 4 ∧
  ∀ i x, i < k → l[i]? = some x → cur[i * 4]? = some (.string x.name) ∧ cur[i * 4 + 1]? = some (.string x.label) ∧ cur[i * 4 + 2]? = some (.int .i64 x.prio) ∧ cur[i * 4 + 3]? = some (.bool x.confirm)
theorem APart.lt {w : World} {g : Nat} {l : List XApp} {k : Nat} (h : APart w g l k) : g < w.heap.size := by
  obtain ⟨cur, hh, _⟩ := h
  exact block_ltQ hh
theorem APart.below {w w' : World} {g : Nat} {l : List XApp} {k : Nat} (h : APart w g l k) (hb : Below w.heap.size w w') : APart w' g l k := by
  obtain ⟨cur, hh, hs, hc⟩ := h
  exact ⟨cur, (hb.block g (block_ltQ hh)).trans hh, hs, hc⟩
theorem APart.next {w : World} {g : Nat} {l : List XApp} {k : Nat} {x : XApp} (h : APart w g l k) (hx : l[k]? = some x) :
    APart ((((w.setCell ⟨g, k * 4, none⟩ (.string x.name)).setCell ⟨g, k * 4 + 1, none⟩ (.string x.label)).setCell ⟨g, k * 4 + 2, none⟩ (.int .i64 x.prio)).setCell ⟨g, k * 4 + 3, none⟩ (.bool x.confirm)) g l (k + 1) := by
  obtain ⟨cur, hh, hs, hc⟩ := h
  have hk : k < l.length := by
    rcases Nat.lt_or_ge k l.length with h | h
    · exact h
    · rw [List.getElem?_eq_none h] at hx; cases hx
  have H := set_rowQ (j := k * 4 + 3) (v := .bool x.confirm) (set_rowQ (j := k * 4 + 2) (v := .int .i64 x.prio) (set_rowQ (j := k * 4 + 1) (v := .string x.label) (set_rowQ (j := k * 4) (v := .string x.name) hh)))
  refine ⟨_, H, by simp only [Array.size_setIfInBounds]; exact hs, fun i y hi' hy => ?_⟩
  by_cases e : i = k
  · subst e
    obtain rfl : x = y := by rw [hx] at hy; cases hy; rfl
    refine ⟨?_, ?_, ?_, ?_⟩ <;> (repeat (first | rw [get_setO _ _ _ _ (by omega)] | rw [get_setS _ _ _ (by first | omega | (simp only [Array.size_setIfInBounds]; omega))]))
  · obtain ⟨a, b, c, d⟩ := hc i y (by omega) hy
    refine ⟨?_, ?_, ?_, ?_⟩ <;> ((repeat rw [get_setO _ _ _ _ (by omega)]); assumption)
theorem APart.row {w : World} {g : Nat} {l : List XApp} (h : APart w g l l.length) (ho : ∀ x ∈ l, okApp w x) (hm : l.length ≤ maxLen) : RowApp w (some ⟨g, 0, none⟩) l := by
  have hlt := h.lt
  obtain ⟨cur, hh, hs, hc⟩ := h
  refine ⟨.inr ⟨g, 0, rfl, hlt, fun i x hx => ?_⟩, ho, hm⟩
  have hi : i < l.length := by
    rcases Nat.lt_or_ge i l.length with h | h
    · exact h
    · rw [List.getElem?_eq_none h] at hx; cases hx
  obtain ⟨a, b, c, d⟩ := hc i x hi hx
  rw [Nat.zero_add]
  exact ⟨by rw [cell_of_row _ _ _ _ _ _ hh]; exact a, by rw [cell_of_row _ _ _ _ _ _ hh]; exact b, by rw [cell_of_row _ _ _ _ _ _ hh]; exact c, by rw [cell_of_row _ _ _ _ _ _ hh]; exact d⟩
theorem appP_ok (d : Nat) (x : It) (W : World) (h : wt d x.list ≤ 1048576) : okApp W (appP d x) := by
  have h1 := got_size 79 d x.list
  have h2 := got_size 80 d x.list
  refine ⟨?_, ?_, ?_⟩
  rotate_left 2
  · exact bits_bound .andNot (readV (gotT 135 d x.list)) 128
  · show (gotT 79 d x.list).size ≤ maxLen
    unfold maxLen; omega
  · show (gotT 80 d x.list).size ≤ maxLen
    unfold maxLen; omega
/-- what is read -/
def readsL (s : ByteArray) : List XApp := (readA (appP 7) s).getD []
def readsE (s : ByteArray) : Int := if (readA (appP 7) s).isSome then 0 else 1
theorem parses_ne {s : ByteArray} (h : parsesE s ≠ 0) : readsL s = [] ∧ readsE s = 1 := by
  have : readA (appP 7) s = none := by unfold readA; rw [if_neg (fun hc => h hc.1)]
  unfold readsL readsE
  rw [this]
  exact ⟨rfl, rfl⟩
theorem ret_rowQ {ao : Option Addr} {n m c : Nat} {a b : Int} (h1 : n = m) (h2 : a = b) : Ending.returned (.tuple #[.slice ao n c, .int .i64 a]) = .returned (.tuple #[.slice ao m c, .int .i64 b]) := by rw [h1, h2]
theorem rowApp_nil (W : World) (ao : Option Addr) : RowApp W ao [] := ⟨.inl rfl, by simp, by simp⟩
theorem toList_neQ {x y : ByteArray} (h : x ≠ y) : (x.toList == y.toList) = false := by
  rw [beq_eq_false_iff_ne]
  intro e
  apply h
  rw [Lib.toList_data, Lib.toList_data] at e
  apply ByteArray.ext
  exact Array.toList_inj.1 e
end Go.Proofs.YtfpglpefofcdeaaGreatDoor
