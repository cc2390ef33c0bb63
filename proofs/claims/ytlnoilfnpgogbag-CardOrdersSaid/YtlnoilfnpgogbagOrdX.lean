/- The text of orders: writeOrders, orderKey, Orders of the program. -/
import Derived.Test.YtlnoilfnpgogbagOrdB
import Derived.Test.YtlnoilfnpgogbagMillS
import Derived.Test.YtlnoilfnpgogbagMillH3
import Derived.Deep.RegionHeld3
namespace Go.Proofs.Ytlnoilfnpgogbag
open Go.RowKit Go.Shelf
set_option linter.unusedVariables false

/-- an order, as it is written -/
def ordS (x : XOrder) : ByteArray := oneS x.what ++ numS x.n 8 ++ oneS x.text.size ++ x.text
def ordL : List XOrder → List UInt8
  | [] => []
  | x :: r => (ordS x).data.toList ++ ordL r
def ordT (l : List XOrder) : ByteArray := ⟨(ordL l).toArray⟩
theorem ordL_append (a b : List XOrder) : ordL (a ++ b) = ordL a ++ ordL b := by
  induction a with
  | nil => rfl
  | cons x r ih => simp [ordL, ih]
theorem ordL_take (l : List XOrder) (k : Nat) (x : XOrder) (h : l[k]? = some x) : ordL (l.take (k + 1)) = ordL (l.take k) ++ (ordS x).data.toList := by
  rw [List.take_add_one, h, ordL_append]
  simp [ordL]
theorem ordS_size (x : XOrder) : (ordS x).size ≤ 10 + x.text.size := by
  rw [ordS, ByteArray.size_append, ByteArray.size_append, ByteArray.size_append, oneS_size, oneS_size]
  have := numS_size x.n 8
  omega
theorem ordL_length (l : List XOrder) (h : ∀ x ∈ l, x.text.size ≤ 16) : (ordL l).length ≤ 26 * l.length := by
  induction l with
  | nil => simp [ordL]
  | cons x r ih =>
    have h1 := ih fun y hy => h y (List.mem_cons_of_mem _ hy)
    have h2 := ordS_size x
    have h3 := h x (List.mem_cons_self ..)
    have h4 : (ordS x).data.toList.length = (ordS x).size := by simp
    simp only [ordL, List.length_append, List.length_cons]
    omega
theorem ordT_size (l : List XOrder) (h : ∀ x ∈ l, x.text.size ≤ 16) (h8 : l.length ≤ 8) : (ordT l).size ≤ 208 := by
  have h1 := ordL_length l h
  have h2 : (ordT l).size = (ordL l).length := by simp [ordT, ByteArray.size]
  omega
theorem strCells_data (s : ByteArray) : Lib.byteCells s.data.toList = Lib.strCells s := rfl
theorem ordCells (l : List UInt8) (s : ByteArray) : Lib.byteCells (l ++ s.data.toList) = Lib.byteCells l ++ Lib.strCells s := byteCells_append _ _
theorem ownsRow_belowO {w w' : World} {base : Nat} {e : TypeId} {size : Nat} {v : Value} {n : Nat} {xs : List Value} (h : w.ownsRow base e size v n xs) (hb : Below w.heap.size w w') : w'.ownsRow base e size v n xs := by
  refine ⟨h.1, ?_⟩
  rcases h.2 with h0 | ⟨g, cap, cur, e1, e2, e3, e4⟩
  · exact .inl h0
  · refine .inr ⟨g, cap, cur, e1, e2, ?_, e4⟩
    have hg : g < w.heap.size := by
      rcases Nat.lt_or_ge g w.heap.size with h | h
      · exact h
      · rw [Array.getElem?_eq_none h] at e3; cases e3
    rw [hb.block g hg]; exact e3
theorem builderAt_below {T e : TypeId} {B b : Nat} {p : Value} {bs : List Value} {w w' : World} (h : Lib.BuilderAt T e B b p bs w) (hb : Below w.heap.size w w') : Lib.BuilderAt T e B b p bs w' := by
  obtain ⟨hB, v, hbk, hown, hne⟩ := h
  have hlt : b < w.heap.size := by
    rcases Nat.lt_or_ge b w.heap.size with h' | h'
    · exact h'
    · simp [Array.getElem?_eq_none h'] at hbk
  exact ⟨hB, v, (hb.block b hlt).trans hbk, ownsRow_belowO hown hb, hne⟩
theorem isBuilder_below {T e : TypeId} {B b : Nat} {bs : List Value} {w w' : World} (h : Lib.IsBuilder T e B b bs w) (hb : Below w.heap.size w w') : Lib.IsBuilder T e B b bs w' := by
  rcases h with h | h
  · exact .inl (builderAt_below h hb)
  · exact .inr (builderAt_below h hb)
/-- the block in which a Builder's bytes lie -/
theorem isBuilder_own {T e : TypeId} {B b : Nat} {bs : List Value} {w : World} (h : Lib.IsBuilder T e B b bs w) : b < w.heap.size ∧ ∃ v, w.cell? ⟨b, 1, none⟩ = some v ∧ ∀ g, v.ownBlock = some g → g < w.heap.size := by
  have aux : ∀ p, Lib.BuilderAt T e B b p bs w → b < w.heap.size ∧ ∃ v, w.cell? ⟨b, 1, none⟩ = some v ∧ ∀ g, v.ownBlock = some g → g < w.heap.size := by
    rintro p ⟨hB, v, hbk, hown, hne⟩
    have hlt : b < w.heap.size := by
      rcases Nat.lt_or_ge b w.heap.size with h' | h'
      · exact h'
      · simp [Array.getElem?_eq_none h'] at hbk
    exact ⟨hlt, v, by rw [Lib.cell_of_heap hbk]; rfl, fun g hg => (hown.lt g hg).2⟩
  rcases h with h | h
  · exact aux _ h
  · exact aux _ h
theorem cell_heapO {w w' : World} {a : Addr} {v : Value} (h : w.cell? a = some v) (hh : w'.heap[a.block]? = w.heap[a.block]?) : w'.cell? a = some v := by
  unfold World.cell? at *
  rw [hh]
  exact h

set_option maxHeartbeats 4000000 in
set_option maxRecDepth 100000 in
theorem writeOrders_any (l : List XOrder) (ao : Option Addr) (cap : Nat) (w : World) (hr : RowOrder w ao l) (h8 : l.length ≤ 8) (ht : ∀ x ∈ l, x.text.size ≤ 16) :
    Calls Try.prog 42 #[.slice ao l.length cap] w fun e w' => e = .returned (.string (ordT l)) ∧ Below w.heap.size w w' := by
  obtain ⟨hr, hok, hm⟩ := hr
  have HR := hide hr; have HOK := hide hok; have HT := hide ht
  clear hr hok hm ht
  go_enter Try.func42, Try.ntmps42
  go_wp2
  have hfr := Lib.fresh_isBuilder 99 5 w
  obtain ⟨hbel, q0, hsz⟩ : Below w.heap.size w (w.alloc (.cells #[.pointer none, .slice none 0 0] 99)) ∧ True ∧ (w.alloc (.cells #[.pointer none, .slice none 0 0] 99)).heap.size = w.heap.size + 1 := ⟨(Below.refl _ _).alloc (Nat.le_refl _) _, trivial, by simp⟩
  generalize w.alloc _ = W0 at hfr hbel hsz ⊢
  go_loopw [8] (fun i wr => ∃ k : Nat, k ≤ l.length ∧ i = .int .i64 k ∧ Lib.IsBuilder 99 5 w.heap.size w.heap.size (Lib.byteCells (ordL (l.take k))) wr ∧ w.heap.size < wr.heap.size ∧ Below w.heap.size w wr) (fun i _ => l.length - (intOf i).toNat)
  case atStart => exact ⟨0, Nat.zero_le _, rfl, hfr, by omega, hbel⟩
  case round =>
    obtain ⟨k, hk, rfl, hB, hlt0, hbel⟩ := hrel
    by_cases hlt : k < l.length
    · obtain ⟨y, hy⟩ : ∃ y, l[k]? = some y := ⟨_, List.getElem?_eq_getElem hlt⟩
      rcases (unhide HR) with hnil | ⟨b, off, rfl, hb, hc⟩
      · rw [hnil] at hlt; simp at hlt
      obtain ⟨c0, c1, c2⟩ := hc k y hy
      have d0 : wr.cell? ⟨b, off + k * 3, none⟩ = _ := (hbel.cell (p := ⟨b, off + k * 3, none⟩) hb).trans c0
      have d1 : wr.cell? ⟨b, off + k * 3 + 1, none⟩ = _ := (hbel.cell (p := ⟨b, off + k * 3 + 1, none⟩) hb).trans c1
      have d2 : wr.cell? ⟨b, off + k * 3 + 2, none⟩ = _ := (hbel.cell (p := ⟨b, off + k * 3 + 2, none⟩) hb).trans c2
      have hst := ordL_take l k y hy
      have hty := unhide HT y (List.mem_of_getElem? hy)
      obtain ⟨⟨_, _⟩, ⟨_, hn63⟩, _⟩ := unhide HOK y (List.mem_of_getElem? hy)
      have hlen : (ordL (l.take k)).length ≤ 26 * 8 := by
        have h1 := ordL_length (l.take k) (fun x hx => unhide HT x (List.mem_of_mem_take hx))
        have h2 := List.length_take_le k l
        omega
      obtain ⟨wh, n, tx⟩ := y
      simp only at d0 d1 d2 hty hn63 hst
      have e3 : ordS ⟨wh, n, tx⟩ = oneS wh ++ numS n 8 ++ oneS tx.size ++ tx := rfl
      rw [e3] at hst
      have n1 := fun w => one_any wh w
      have n2 := fun w => cnumber_any n 8 hn63 w
      have n3 := fun w => one_any tx.size w
      have z1 := oneS_size wh
      have z2 := numS_size n 8
      have z3 := oneS_size tx.size
      clear hc c0 c1 c2 hy hfr e3
      generalize oneS wh = a1 at *
      generalize numS n 8 = a2 at *
      generalize oneS tx.size = a3 at *
      generalize ordL (l.take k) = RL at *
      have hbc := ordCells RL (a1 ++ a2 ++ a3 ++ tx)
      rw [← hst] at hbc
      have s12 : (a1 ++ a2).size ≤ 9 := by rw [ByteArray.size_append]; omega
      have s123 : (a1 ++ a2 ++ a3).size ≤ 10 := by rw [ByteArray.size_append]; omega
      have s1234 : (a1 ++ a2 ++ a3 ++ tx).size ≤ 26 := by rw [ByteArray.size_append]; omega
      have ha1 := fun w' => run_string_add_sum (P := Try.prog) w' a1 a2 (by omega)
      have ha2 := fun w' => run_string_add_sum (P := Try.prog) w' (a1 ++ a2) a3 (by omega)
      have ha3 := fun w' => run_string_add_sum (P := Try.prog) w' (a1 ++ a2 ++ a3) tx (by omega)
      obtain ⟨W, hW⟩ : ∃ W, W = wr.alloc (.cells #[.int .i64 wh, .int .i64 n, .string tx] 71) := ⟨_, rfl⟩
      have hWs : W.heap.size = wr.heap.size + 1 := by rw [hW]; simp
      have hbx : Below wr.heap.size wr W := by rw [hW]; exact (Below.refl _ _).alloc (Nat.le_refl _) _
      have hS : ∀ w', Below W.heap.size W w' → w'.cell? ⟨wr.heap.size, 0, none⟩ = some (.int .i64 wh) ∧ w'.cell? ⟨wr.heap.size, 1, none⟩ = some (.int .i64 n) ∧ w'.cell? ⟨wr.heap.size, 2, none⟩ = some (.string tx) := fun w' hb => by
        refine ⟨?_, ?_, ?_⟩ <;> (refine (hb.cell (by rw [hWs]; simp)).trans ?_; rw [hW, World.cell?_alloc_at _ _ _ _ (by simp)]; rfl)
      have hNW : ∀ w', Below W.heap.size W w' → Calls Try.prog 70 #[.pointer (some ⟨w.heap.size, 0, none⟩), .string (a1 ++ a2 ++ a3 ++ tx)] w' fun e w2 => e = .returned (.tuple #[.int .i64 (a1 ++ a2 ++ a3 ++ tx).size, .nilIface]) ∧ Lib.BuilderAt 99 5 w.heap.size w.heap.size (.pointer (some ⟨w.heap.size, 0, none⟩)) (Lib.byteCells (ordL (l.take (k + 1)))) w2 ∧ Below w.heap.size w w2 ∧ w.heap.size < w2.heap.size ∧ (w2.cell? ⟨wr.heap.size, 0, none⟩ = some (.int .i64 wh) ∧ w2.cell? ⟨wr.heap.size, 1, none⟩ = some (.int .i64 n) ∧ w2.cell? ⟨wr.heap.size, 2, none⟩ = some (.string tx)) := fun w' hb => by
        have hb' : Below wr.heap.size wr w' := hbx.trans (hb.mono hbx.size)
        have hI := isBuilder_below hB hb'
        obtain ⟨hbl, v, hv, hvo⟩ := isBuilder_own hB
        have hsz' := hb.size
        refine (writeX_any w.heap.size w.heap.size _ (a1 ++ a2 ++ a3 ++ tx) w' hI (by rw [Lib.byteCells_length]; omega) (by omega)).mono ?_
        rintro e w2 ⟨he, ⟨h1, h2⟩, h3, h4⟩
        rw [← hbc] at h1
        have hblk := h4 wr.heap.size (by omega) (by omega) (fun v' hv' => by
          have e1 : w'.cell? ⟨w.heap.size, 1, none⟩ = some v := (hb'.cell (p := ⟨w.heap.size, 1, none⟩) hbl).trans hv
          rw [hv'] at e1
          obtain rfl : v' = v := by simpa using e1
          exact fun e => absurd (hvo _ e) (Nat.lt_irrefl _))
        obtain ⟨q0, q1, q2⟩ := hS w' hb
        exact ⟨he, h1, hbel.trans (hb'.mono hbel.size |>.trans h2), by omega, cell_heapO q0 hblk, cell_heapO q1 hblk, cell_heapO q2 hblk⟩
      have HNW := hide hNW; have HSS := hide hS
      have N1 := hide n1; have N2 := hide n2; have N3 := hide n3
      have HW := hide hW
      have hq := (Below.refl W.heap.size W).drew
      clear hNW n1 n2 n3 hW hbc hst hB hbel s12 s123 s1234 hlen z1 z2 z3
      go_wp2_with fail
      rw [← unhide HW]
      clear d0 d1 d2
      go_region_held3 (fun w' => w'.cell? ⟨wr.heap.size, 0, none⟩ = some (.int .i64 wh) ∧ w'.cell? ⟨wr.heap.size, 1, none⟩ = some (.int .i64 n) ∧ w'.cell? ⟨wr.heap.size, 2, none⟩ = some (.string tx))
        (first
          | exact hs5
          | exact hs4
          | exact hs3
          | exact hs2
          | exact hS _ hq)
        ((first
          | (go_at_call 70; refine (unhide HNW _ hq4).mono ?_; rintro e y5 ⟨rfl, hB5, hb5, hz5, hs5⟩)
          | (go_at_call_of 22 (Value.int .i64 (tx.size : Int)); refine (unhide N3 _).mono ?_; rintro e y4 ⟨rfl, hy4⟩; have hq4 := hq3.trans (hy4.mono hq3.size); have hs4 := hS _ hq4)
          | (go_at_call 21; refine (unhide N2 _).mono ?_; rintro e y3 ⟨rfl, hy3⟩; have hq3 := hq2.trans (hy3.mono hq2.size); have hs3 := hS _ hq3)
          | (go_at_call_of 22 (Value.int .i64 wh); refine (unhide N1 _).mono ?_; rintro e y2 ⟨rfl, hy2⟩; have hq2 := hq.trans (hy2.mono hq.size); have hs2 := hS _ hq2)))
      go_wp2
      go_roundw
      case rel => exact ⟨k + 1, by omega, by go_num, .inr hB5, hz5, hb5⟩
      case measure => simp [intOf]; omega
    · rw [List.take_of_length_le (by omega)] at hB
      have H3 := hide (builderS_any w.heap.size w.heap.size (ordL l) wr hB (Nat.le_of_lt hlt0))
      have HW := hide hbel
      clear hB hbel hfr
      go_wp2_with fail
      refine (unhide H3).mono ?_
      rintro e w1 ⟨rfl, b1⟩
      go_wp2
      go_ret
      exact ⟨rfl, (unhide HW).trans b1⟩
end Go.Proofs.Ytlnoilfnpgogbag
