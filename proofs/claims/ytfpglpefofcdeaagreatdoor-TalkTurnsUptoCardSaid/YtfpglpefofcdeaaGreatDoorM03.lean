/- A file's text: ways. -/
import Derived.Test.YtfpglpefofcdeaaGreatDoorM00
import Derived.Test.YtfpglpefofcdeaaGreatDoorM02
import Derived.Test.YtfpglpefofcdeaaGreatDoorRows
namespace Go.Proofs.YtfpglpefofcdeaaGreatDoor
open Go.RowKit
set_option linter.unusedVariables false
set_option linter.unusedSimpArgs false
set_option maxRecDepth 100000

/-- how a way is written -/
def wayN (x : XWay) : List Int := [x.code, x.when, if x.next then 1 else 0]
def wayL : List XWay → List Int
  | [] => []
  | x :: r => wayN x ++ wayL r
theorem wayL_append (l m : List XWay) : wayL (l ++ m) = wayL l ++ wayL m := by
  induction l with
  | nil => rfl
  | cons x l ih => simp [wayL, ih]
theorem wayL_take {l : List XWay} {k : Nat} {x : XWay} (h : l[k]? = some x) : wayL (l.take (k + 1)) = wayL (l.take k) ++ wayN x := by
  obtain ⟨h1, h2⟩ := List.getElem?_eq_some_iff.1 h
  rw [List.take_succ_eq_append_getElem h1, h2, wayL_append]
  simp [wayL]
theorem wayL_len (l : List XWay) : (wayL l).length = 3 * l.length := by
  induction l with
  | nil => rfl
  | cons x l ih => simp only [wayL, List.length_append, ih, List.length_cons]; unfold wayN; simp; omega
/-- ways, written -/
def wayT (v : XWays) : ByteArray := numS v.x 8 ++ numS v.y 8 ++ strOfNums (wayL v.list)
theorem sCells_nums (xs : List Int) (h : ∀ x ∈ xs, 0 ≤ x ∧ x ≤ 255) : sCells (strOfNums xs) = xs.map (Value.int .u8) := by
  unfold sCells strOfNums
  simp only [List.map_map]
  apply List.map_congr_left
  intro x hx
  have := h x hx
  simp only [Function.comp]
  congr 1
  have h2 : x.toNat < 256 := by omega
  rw [UInt8.toNat_ofNat', Nat.mod_eq_of_lt h2]
  omega
theorem wayN_byte {x : XWay} (h : inBw x = true) : ∀ n ∈ wayN x, 0 ≤ n ∧ n ≤ 255 := by
  have h1 : (0 ≤ x.code ∧ x.code ≤ 63) ∧ (0 ≤ x.when ∧ x.when ≤ 7) := of_decide_eq_true h
  intro n hn
  unfold wayN at hn
  simp only [List.mem_cons, List.not_mem_nil, or_false] at hn
  rcases hn with rfl | rfl | rfl
  · omega
  · omega
  · split <;> omega
theorem wayL_byte {l : List XWay} (h : ∀ x ∈ l, inBw x = true) : ∀ n ∈ wayL l, 0 ≤ n ∧ n ≤ 255 := by
  induction l with
  | nil => intro n hn; cases hn
  | cons x l ih =>
    intro n hn
    rcases List.mem_append.1 (show n ∈ wayN x ++ wayL l from hn) with h1 | h1
    · exact wayN_byte (h x (by simp)) n h1
    · exact ih (fun y hy => h y (by simp [hy])) n h1
theorem ways_in {v : XWays} (h : waysE v = 0) : ∀ x ∈ v.list, inBw x = true := by
  have := (waysE_zero h).2.2
  intro x hx
  cases hb : inBw x with
  | true => rfl
  | false => rw [List.any_eq_true.2 ⟨x, hx, by rw [hb]; rfl⟩] at this; cases this
set_option maxHeartbeats 4000000 in
theorem waysText_any (v : XWays) (w : World) (hr : RowWay w v.listo v.list) (he : waysE v = 0) :
    Calls Tryz.prog 38 #[valWays v] w fun e w' => e = .returned (.string (wayT v)) ∧ Below w.heap.size w w' := by
  obtain ⟨hl, ⟨hx, hy⟩, _⟩ := waysE_zero he
  have hin := ways_in he
  have N1 := hide (fun W => number_all v.x 8 W (by omega))
  have N2 := hide (fun W => number_all v.y 8 W (by omega))
  have z1 := numS_size v.x 8
  have z2 := numS_size v.y 8
  have HIN := hide hin; have HR := hide hr; have HLL := hide hl
  have HT : Hid (wayT v = numS v.x 8 ++ numS v.y 8 ++ strOfNums (wayL v.list)) := hide rfl
  generalize wayT v = T at *
  generalize numS v.x 8 = s1 at *
  generalize numS v.y 8 = s2 at *
  generalize numE v.x 8 = e1 at *
  generalize numE v.y 8 = e2 at *
  have ha1 := fun w' => run_string_add_sum (P := Tryz.prog) w' s1 s2 (by omega)
  have hcv := fun w' => Lib.run_convert_string_bytes (P := Tryz.prog) w' 9 104 5 (s1 ++ s2) Tryz.underlying9 Tryz.underlying104 Tryz.underlying5
  have hsz : (s1 ++ s2).size ≤ 16 := by rw [ByteArray.size_append]; omega
  obtain ⟨vx, vy, vo, vl, vc⟩ := v
  obtain ⟨W1, hW1⟩ : ∃ W1, W1 = w.alloc (.cells #[.int .i64 vx, .int .i64 vy, .slice vo vl.length vc] 28) := ⟨_, rfl⟩
  have hB1 : Below w.heap.size w W1 := by rw [hW1]; exact (Below.refl _ _).alloc (Nat.le_refl _) _
  have hX1 : W1.heap[w.heap.size]? = some (.cells #[.int .i64 vx, .int .i64 vy, .slice vo vl.length vc] 28) := by rw [hW1]; exact heap_alloc_new _ _
  have hC : ∀ wx, Below W1.heap.size W1 wx → wx.cell? ⟨w.heap.size, 1, none⟩ = some (.int .i64 vy) ∧ wx.cell? ⟨w.heap.size, 2, none⟩ = some (.slice vo vl.length vc) := fun wx hb => by
    have x1 := (hb.block _ (Array.getElem?_eq_some_iff.1 hX1).1).trans hX1
    refine ⟨?_, ?_⟩ <;> simp [World.cell?, x1]
  have c0 : W1.cell? ⟨w.heap.size, 0, none⟩ = some (.int .i64 vx) := by simp [World.cell?, hX1]
  unfold valWays
  dsimp only at *
  have HC := hide hC; have HB1 := hide hB1; have HW1 := hide hW1; have HSZ := hide hsz
  have hll : (vl.length : Int) ≤ 20 := by omega
  clear hr he hl hx hy hin z1 z2 hW1 hB1 hX1 hC hsz
  go_enter Tryz.func38, Tryz.ntmps38
  go_upto_region 1 with fail
  rw [← unhide HW1]
  go_wp2_with fail
  refine (unhide N1 _).mono ?_
  rintro e y1 ⟨rfl, k1⟩
  obtain ⟨d1, d2⟩ := unhide HC y1 k1
  have HK1 := hide k1
  clear k1
  go_wp2_with fail
  refine (unhide N2 _).mono ?_
  rintro e y2 ⟨rfl, k2⟩
  have k3 := (unhide HK1).trans (k2.mono (unhide HK1).size)
  have hb0 := brow_new y2 (s1 ++ s2) (by have := unhide HSZ; unfold maxLen; omega)
  have hbw0 : Below y2.heap.size y2 (Lib.bytesWorld y2 5 (s1 ++ s2)) := ⟨rfl, rfl, rfl, by rw [Lib.bytesWorld_size]; omega, fun k hk => Lib.bytesWorld_at_old _ _ _ _ hk⟩
  have k4 := k3.trans (hbw0.mono k3.size)
  obtain ⟨d3, d4⟩ := unhide HC _ k4
  have h5 := hb0
  obtain ⟨W3, hW3⟩ : ∃ W3, W3 = Lib.bytesWorld y2 5 (s1 ++ s2) := ⟨_, rfl⟩
  obtain ⟨cp, hcp⟩ : ∃ cp, cp = grownCap y2 (s1 ++ s2).size 0 5 := ⟨_, rfl⟩
  have hcv2 := hcv y2
  rw [← hW3, ← hcp] at hcv2 hb0
  rw [← hW3] at d4 k4
  have hb1 : BRow W3 w.heap.size (.slice (some ⟨y2.heap.size, 0, none⟩) (s1 ++ s2).size cp) (sCells (s1 ++ s2 ++ strOfNums (wayL ([] : List XWay)))) := by
    obtain ⟨g, cap, cur, fr, e1, e2, e3⟩ := hb0
    have : s1 ++ s2 ++ strOfNums (wayL ([] : List XWay)) = s1 ++ s2 := by apply ByteArray.ext; simp [wayL, strOfNums]
    rw [this]
    exact ⟨g, cap, cur, fr, e1, Nat.le_trans ((unhide HB1).trans (k3.mono (unhide HB1).size)).size e2, e3⟩
  rw [ByteArray.size_append] at hb1
  have HBR := hide hb1; have HK4 := hide k4
  clear hb0 hb1 hbw0 h5 k2 k3 k4 hcv d1 d2 d3 hW3 hcp c0
  go_wp2
  have hBW : Below w.heap.size w W3 := (unhide HB1).trans ((unhide HK4).mono (unhide HB1).size)
  have HBW := hide hBW
  clear hBW d4 hcv2
  go_loopw [7, 30] (fun bv iv wx => ∃ i : Nat, i ≤ vl.length ∧ iv = .int .i64 (i : Int) ∧ BRow wx w.heap.size bv (sCells (s1 ++ s2 ++ strOfNums (wayL (vl.take i)))) ∧ Below w.heap.size w wx) (fun _ iv _ => vl.length - (intOf iv).toNat)
  case atStart => exact ⟨0, Nat.zero_le _, rfl, unhide HBR, unhide HBW⟩
  case round =>
    obtain ⟨i, hi, rfl, hbr, hbw⟩ := hrel
    by_cases hlt : i < vl.length
    · obtain ⟨x, hx⟩ : ∃ x, vl[i]? = some x := ⟨_, List.getElem?_eq_getElem hlt⟩
      have hxin := unhide HIN x (List.mem_of_getElem? hx)
      rcases (unhide HR).1 with hn | ⟨gb, go, rfl, hgl, hcell⟩
      · rw [hn] at hlt; simp at hlt
      obtain ⟨p0, p1, p2⟩ := hcell i x hx
      replace p0 := (hbw.cell (p := ⟨gb, go + i * 3, none⟩) hgl).trans p0
      replace p1 := (hbw.cell (p := ⟨gb, go + i * 3 + 1, none⟩) hgl).trans p1
      replace p2 := (hbw.cell (p := ⟨gb, go + i * 3 + 2, none⟩) hgl).trans p2
      have hki : (i : Int) < (vl.length : Int) := by omega
      have hwt := wayL_take hx
      have hby := wayN_byte hxin
      have hb2 : (0 ≤ x.code ∧ x.code ≤ 63) ∧ (0 ≤ x.when ∧ x.when ≤ 7) := of_decide_eq_true hxin
      obtain ⟨xc, xw, xn⟩ := x
      dsimp only at p0 p1 p2 hb2
      have u1 : IntKind.u8.wrap xc = xc := by unfold IntKind.wrap; simp [IntKind.signed, IntKind.bits]; omega
      have u2 : IntKind.u8.wrap xw = xw := by unfold IntKind.wrap; simp [IntKind.signed, IntKind.bits]; omega
      have hlen3 : (sCells (s1 ++ s2 ++ strOfNums (wayL (vl.take i)))).length + 3 ≤ 1000000 := by
        rw [sCells_len, ByteArray.size_append, strOfNums_size, wayL_len, List.length_take]
        have := unhide HSZ; have := unhide HLL; omega
      have hfin : ∀ nx : Int, nx = (if xn then 1 else 0) → ∃ v' w', (Builtin.append_ #[104, 104] 104 #[u7, .slice (some ⟨wr.heap.size + 1, 0, none⟩) 3 3]).run Tryz.prog ((wr.alloc (.cells #[.int .i64 xc, .int .i64 xw, .bool xn] 86)).alloc (.cells #[.int .u8 xc, .int .u8 xw, .int .u8 nx] 5)) = .ok v' w' ∧ BRow w' w.heap.size v' (sCells (s1 ++ s2 ++ strOfNums (wayL (vl.take (i + 1))))) ∧ Below w.heap.size w w' := by
        intro nx hnx
        have hb5 : Below wr.heap.size wr ((wr.alloc (.cells #[.int .i64 xc, .int .i64 xw, .bool xn] 86)).alloc (.cells #[.int .u8 xc, .int .u8 xw, .int .u8 nx] 5)) := ((Below.refl _ _).alloc (Nat.le_refl _) _).alloc (by simp) _
        have hnb : ((wr.alloc (.cells #[.int .i64 xc, .int .i64 xw, .bool xn] 86)).alloc (.cells #[.int .u8 xc, .int .u8 xw, .int .u8 nx] 5)).heap[wr.heap.size + 1]? = some (.cells #[.int .u8 xc, .int .u8 xw, .int .u8 nx] 5) := by
          have := heap_alloc_new (wr.alloc (.cells #[.int .i64 xc, .int .i64 xw, .bool xn] 86)) (.cells #[.int .u8 xc, .int .u8 xw, .int .u8 nx] 5)
          rwa [show (wr.alloc (.cells #[.int .i64 xc, .int .i64 xw, .bool xn] 86)).heap.size = wr.heap.size + 1 by simp] at this
        obtain ⟨v', w', hrun, hbr', hbl'⟩ := run_append3 (hbr.below hb5) (Nat.le_trans hbw.size hb5.size) hlen3 (wr.heap.size + 1) xc xw nx hnb
        refine ⟨v', w', hrun, ?_, (hbw.trans (hb5.mono hbw.size)).trans hbl'⟩
        have e : s1 ++ s2 ++ strOfNums (wayL (vl.take (i + 1))) = s1 ++ s2 ++ strOfNums (wayL (vl.take i)) ++ strOfNums (wayN ⟨xc, xw, xn⟩) := by
          rw [hwt]
          apply ByteArray.ext
          simp [strOfNums]
        rw [e, sCells_append, sCells_nums _ hby]
        unfold wayN
        dsimp only
        rw [← hnx]
        exact hbr'
      have HFIN := hide hfin
      clear hx hcell hgl hwt hby hb2 hlen3 hfin hbr hbw hxin
      cases xn with
      | true =>
        obtain ⟨v', w', hrun, hbr', hbl'⟩ := unhide HFIN 1 rfl
        have HB' := hide hbr'; have HL' := hide hbl'
        have HRUN := hide hrun
        clear hbr' hbl' hrun
        go_wp2_with (at_builtin; refine wpList_append_run rfl _ _ 104 rfl rfl _ _ v' w' rfl rfl (unhide HRUN) ?_)
        go_roundw
        case rel => exact ⟨i + 1, by omega, by go_num, unhide HB', unhide HL'⟩
        case measure => simp [intOf]; omega
      | false =>
        obtain ⟨v', w', hrun, hbr', hbl'⟩ := unhide HFIN 0 rfl
        have HB' := hide hbr'; have HL' := hide hbl'
        have HRUN := hide hrun
        clear hbr' hbl' hrun
        go_wp2_with (at_builtin; refine wpList_append_run rfl _ _ 104 rfl rfl _ _ v' w' rfl rfl (unhide HRUN) ?_)
        go_roundw
        case rel => exact ⟨i + 1, by omega, by go_num, unhide HB', unhide HL'⟩
        case measure => simp [intOf]; omega
    · have hki : ¬ (i : Int) < (vl.length : Int) := by omega
      rw [List.take_of_length_le (by omega), ← unhide HT] at hbr
      have hcv3 := brow_conv hbr
      have HB := hide hbw
      clear hbr hbw
      go_wp2
      go_ret
      exact ⟨rfl, unhide HB⟩
end Go.Proofs.YtfpglpefofcdeaaGreatDoor
namespace Go.Proofs.YtfpglpefofcdeaaGreatDoor
open Go.ChangeShapes Go.WideShapes Go.ChangeAt Go.RowKit Go.Deep
set_option linter.unusedVariables false
set_option maxRecDepth 100000

structure XDeal where
  shop : Int
  trace : Int
  amount : Int
  cash : Bool
  day : Int
  bits : Int
  nonce : ByteArray
deriving Inhabited
def valDeal (x : XDeal) : Value := .agg #[.int .i64 x.shop, .int .i64 x.trace, .int .i64 x.amount, .bool x.cash, .int .i64 x.day, .int .i64 x.bits, .string x.nonce]
def okDeal (W : World) (x : XDeal) : Prop := (-9223372036854775808 ≤ x.shop ∧ x.shop ≤ 9223372036854775807) ∧ (-9223372036854775808 ≤ x.trace ∧ x.trace ≤ 9223372036854775807) ∧ (-9223372036854775808 ≤ x.amount ∧ x.amount ≤ 9223372036854775807) ∧ (-9223372036854775808 ≤ x.day ∧ x.day ≤ 9223372036854775807) ∧ (-9223372036854775808 ≤ x.bits ∧ x.bits ≤ 9223372036854775807) ∧ x.nonce.size ≤ maxLen
theorem cellsOfDeal : Tryz.prog.cellsOf 46 = 7 := by kernel_rfl
theorem okDeal.below {W W' : World} {x : XDeal} (h : okDeal W x) (hb : Below W.heap.size W W') : okDeal W' x := by
  obtain ⟨h0, h1, h2, h3, h4, h5⟩ := h
  exact ⟨h0, h1, h2, h3, h4, h5⟩
theorem opencDeal {H : Type} {enc : TypeId × Value → H} {W : World} {k : Nat} {cs : List Value} {y : DataW H × List MemPlace}
    (h : DataW.trod enc Tryz.prog W 0 (fun _ => true) true k 46 cs = some y) :
    ∃ x : XDeal, cs = [.int .i64 x.shop, .int .i64 x.trace, .int .i64 x.amount, .bool x.cash, .int .i64 x.day, .int .i64 x.bits, .string x.nonce] ∧ okDeal W x := by
  obtain ⟨xs, k', _, _, hsz, hlen, hq⟩ := DataW.trod_struct Tryz.underlying46 h
  rw [cellsOfDeal] at hsz
  match cs, hsz with
  | [c0, c1, c2, c3, c4, c5, c6], _ =>
    match xs, hlen with
    | [y0, y1, y2, y3, y4, y5, y6], _ =>
      have h0 : DataW.trod enc Tryz.prog W 0 (fun _ => true) true k' 3 [c0] = some y0 := by simpa [cellsOfBool, cellsOfInt, cellsOfString] using hq 0 _ rfl
      obtain ⟨z0, e0, g0, w0⟩ := DataW.trod_int Tryz.underlying3 h0
      have h1 : DataW.trod enc Tryz.prog W 0 (fun _ => true) true k' 3 [c1] = some y1 := by simpa [cellsOfBool, cellsOfInt, cellsOfString] using hq 1 _ rfl
      obtain ⟨z1, e1, g1, w1⟩ := DataW.trod_int Tryz.underlying3 h1
      have h2 : DataW.trod enc Tryz.prog W 0 (fun _ => true) true k' 3 [c2] = some y2 := by simpa [cellsOfBool, cellsOfInt, cellsOfString] using hq 2 _ rfl
      obtain ⟨z2, e2, g2, w2⟩ := DataW.trod_int Tryz.underlying3 h2
      have h3 : DataW.trod enc Tryz.prog W 0 (fun _ => true) true k' 4 [c3] = some y3 := by simpa [cellsOfBool, cellsOfInt, cellsOfString] using hq 3 _ rfl
      obtain ⟨z3, e3, g3⟩ := DataW.trod_bool Tryz.underlying4 h3
      have h4 : DataW.trod enc Tryz.prog W 0 (fun _ => true) true k' 3 [c4] = some y4 := by simpa [cellsOfBool, cellsOfInt, cellsOfString] using hq 4 _ rfl
      obtain ⟨z4, e4, g4, w4⟩ := DataW.trod_int Tryz.underlying3 h4
      have h5 : DataW.trod enc Tryz.prog W 0 (fun _ => true) true k' 3 [c5] = some y5 := by simpa [cellsOfBool, cellsOfInt, cellsOfString] using hq 5 _ rfl
      obtain ⟨z5, e5, g5, w5⟩ := DataW.trod_int Tryz.underlying3 h5
      have h6 : DataW.trod enc Tryz.prog W 0 (fun _ => true) true k' 9 [c6] = some y6 := by simpa [cellsOfBool, cellsOfInt, cellsOfString] using hq 6 _ rfl
      obtain ⟨z6, e6, g6, w6⟩ := DataW.trod_string Tryz.underlying9 h6
      simp at e0 e1 e2 e3 e4 e5 e6
      subst e0
      subst e1
      subst e2
      subst e3
      subst e4
      subst e5
      subst e6
      exact ⟨⟨z0, z1, z2, z3, z4, z5, z6⟩, rfl, ⟨bounds_i64 w0, bounds_i64 w1, bounds_i64 w2, bounds_i64 w4, bounds_i64 w5, w6⟩⟩
theorem openDeal {H : Type} {enc : TypeId × Value → H} {W : World} {b0 : Nat} {r : Reach} {v : Value} {d : DataW H} {p : List MemPlace}
    (hv : Value.okWide Tryz.prog W r b0 46 v) (h : DataW.Trod enc Tryz.prog W 0 (fun _ => true) true 46 v d p) : ∃ x : XDeal, v = valDeal x ∧ okDeal W x := by
  obtain ⟨cs, rfl, hsz⟩ := okWide_struct Tryz.underlying46 hv
  obtain ⟨fuel, hf⟩ := h
  obtain ⟨x, hx, ho⟩ := opencDeal hf
  obtain ⟨l⟩ := cs
  simp only [Value.cells] at hx
  subst hx
  exact ⟨x, rfl, ho⟩
def bulkDeal (x : XDeal) : Nat := x.nonce.size
theorem opencbDeal {H : Type} {enc : TypeId × Value → H} {W : World} {k : Nat} {cs : List Value} {y : DataW H × List MemPlace}
    (h : DataW.trod enc Tryz.prog W 0 (fun _ => true) true k 46 cs = some y) :
    ∃ x : XDeal, cs = [.int .i64 x.shop, .int .i64 x.trace, .int .i64 x.amount, .bool x.cash, .int .i64 x.day, .int .i64 x.bits, .string x.nonce] ∧ okDeal W x ∧ bulkDeal x ≤ Rows.uptoBulk y.1 := by
  obtain ⟨xs, k', _, hagg, hsz, hlen, hq⟩ := DataW.trod_struct Tryz.underlying46 h
  rw [cellsOfDeal] at hsz
  match cs, hsz with
  | [c0, c1, c2, c3, c4, c5, c6], _ =>
    match xs, hlen, hagg with
    | [y0, y1, y2, y3, y4, y5, y6], _, hagg =>
      have hbk := congrArg Rows.uptoBulk (Prod.ext_iff.1 hagg).1
      have h0 : DataW.trod enc Tryz.prog W 0 (fun _ => true) true k' 3 [c0] = some y0 := by simpa [cellsOfBool, cellsOfInt, cellsOfString] using hq 0 _ rfl
      obtain ⟨z0, e0, g0, w0⟩ := DataW.trod_int Tryz.underlying3 h0
      subst g0
      have h1 : DataW.trod enc Tryz.prog W 0 (fun _ => true) true k' 3 [c1] = some y1 := by simpa [cellsOfBool, cellsOfInt, cellsOfString] using hq 1 _ rfl
      obtain ⟨z1, e1, g1, w1⟩ := DataW.trod_int Tryz.underlying3 h1
      subst g1
      have h2 : DataW.trod enc Tryz.prog W 0 (fun _ => true) true k' 3 [c2] = some y2 := by simpa [cellsOfBool, cellsOfInt, cellsOfString] using hq 2 _ rfl
      obtain ⟨z2, e2, g2, w2⟩ := DataW.trod_int Tryz.underlying3 h2
      subst g2
      have h3 : DataW.trod enc Tryz.prog W 0 (fun _ => true) true k' 4 [c3] = some y3 := by simpa [cellsOfBool, cellsOfInt, cellsOfString] using hq 3 _ rfl
      obtain ⟨z3, e3, g3⟩ := DataW.trod_bool Tryz.underlying4 h3
      subst g3
      have h4 : DataW.trod enc Tryz.prog W 0 (fun _ => true) true k' 3 [c4] = some y4 := by simpa [cellsOfBool, cellsOfInt, cellsOfString] using hq 4 _ rfl
      obtain ⟨z4, e4, g4, w4⟩ := DataW.trod_int Tryz.underlying3 h4
      subst g4
      have h5 : DataW.trod enc Tryz.prog W 0 (fun _ => true) true k' 3 [c5] = some y5 := by simpa [cellsOfBool, cellsOfInt, cellsOfString] using hq 5 _ rfl
      obtain ⟨z5, e5, g5, w5⟩ := DataW.trod_int Tryz.underlying3 h5
      subst g5
      have h6 : DataW.trod enc Tryz.prog W 0 (fun _ => true) true k' 9 [c6] = some y6 := by simpa [cellsOfBool, cellsOfInt, cellsOfString] using hq 6 _ rfl
      obtain ⟨z6, e6, g6, w6⟩ := DataW.trod_string Tryz.underlying9 h6
      have l6 : z6.data.toList.length = z6.size := by simp
      subst g6
      simp at e0 e1 e2 e3 e4 e5 e6
      subst e0
      subst e1
      subst e2
      subst e3
      subst e4
      subst e5
      subst e6
      refine ⟨⟨z0, z1, z2, z3, z4, z5, z6⟩, rfl, ⟨bounds_i64 w0, bounds_i64 w1, bounds_i64 w2, bounds_i64 w4, bounds_i64 w5, w6⟩, ?_⟩
      simp only [List.map_cons, List.map_nil, Rows.uptoBulk, Rows.uptoBulkAll] at hbk
      rw [hbk]
      unfold bulkDeal
      dsimp only
      omega
theorem openbDeal {H : Type} {enc : TypeId × Value → H} {W : World} {b0 : Nat} {r : Reach} {v : Value} {d : DataW H} {p : List MemPlace}
    (hv : Value.okWide Tryz.prog W r b0 46 v) (h : DataW.Trod enc Tryz.prog W 0 (fun _ => true) true 46 v d p) : ∃ x : XDeal, v = valDeal x ∧ okDeal W x ∧ bulkDeal x ≤ Rows.uptoBulk d := by
  obtain ⟨cs, rfl, hsz⟩ := okWide_struct Tryz.underlying46 hv
  obtain ⟨fuel, hf⟩ := h
  obtain ⟨x, hx, ho, hb⟩ := opencbDeal hf
  obtain ⟨l⟩ := cs
  simp only [Value.cells] at hx
  subst hx
  exact ⟨x, rfl, ho, hb⟩
structure XCommand where
  dO : Int
  name : ByteArray
  digits : ByteArray
  want : Int
  deal : XDeal
  extra : ByteArray
  answer : ByteArray
  orders : ByteArray
deriving Inhabited
def valCommand (x : XCommand) : Value := .agg #[.int .i64 x.dO, .string x.name, .string x.digits, .int .i64 x.want, .int .i64 x.deal.shop, .int .i64 x.deal.trace, .int .i64 x.deal.amount, .bool x.deal.cash, .int .i64 x.deal.day, .int .i64 x.deal.bits, .string x.deal.nonce, .string x.extra, .string x.answer, .string x.orders]
def okCommand (W : World) (x : XCommand) : Prop := (-9223372036854775808 ≤ x.dO ∧ x.dO ≤ 9223372036854775807) ∧ x.name.size ≤ maxLen ∧ x.digits.size ≤ maxLen ∧ (-9223372036854775808 ≤ x.want ∧ x.want ≤ 9223372036854775807) ∧ okDeal W x.deal ∧ x.extra.size ≤ maxLen ∧ x.answer.size ≤ maxLen ∧ x.orders.size ≤ maxLen
theorem cellsOfCommand : Tryz.prog.cellsOf 48 = 14 := by kernel_rfl
theorem okCommand.below {W W' : World} {x : XCommand} (h : okCommand W x) (hb : Below W.heap.size W W') : okCommand W' x := by
  obtain ⟨h0, h1, h2, h3, h4, h5, h6, h7⟩ := h
  exact ⟨h0, h1, h2, h3, h4.below hb, h5, h6, h7⟩
theorem opencCommand {H : Type} {enc : TypeId × Value → H} {W : World} {k : Nat} {cs : List Value} {y : DataW H × List MemPlace}
    (h : DataW.trod enc Tryz.prog W 0 (fun _ => true) true k 48 cs = some y) :
    ∃ x : XCommand, cs = [.int .i64 x.dO, .string x.name, .string x.digits, .int .i64 x.want, .int .i64 x.deal.shop, .int .i64 x.deal.trace, .int .i64 x.deal.amount, .bool x.deal.cash, .int .i64 x.deal.day, .int .i64 x.deal.bits, .string x.deal.nonce, .string x.extra, .string x.answer, .string x.orders] ∧ okCommand W x := by
  obtain ⟨xs, k', _, _, hsz, hlen, hq⟩ := DataW.trod_struct Tryz.underlying48 h
  rw [cellsOfCommand] at hsz
  match cs, hsz with
  | [c0, c1, c2, c3, c4, c5, c6, c7, c8, c9, c10, c11, c12, c13], _ =>
    match xs, hlen with
    | [y0, y1, y2, y3, y4, y5, y6, y7], _ =>
      have h0 : DataW.trod enc Tryz.prog W 0 (fun _ => true) true k' 3 [c0] = some y0 := by simpa [cellsOfBool, cellsOfDeal, cellsOfInt, cellsOfString] using hq 0 _ rfl
      obtain ⟨z0, e0, g0, w0⟩ := DataW.trod_int Tryz.underlying3 h0
      have h1 : DataW.trod enc Tryz.prog W 0 (fun _ => true) true k' 9 [c1] = some y1 := by simpa [cellsOfBool, cellsOfDeal, cellsOfInt, cellsOfString] using hq 1 _ rfl
      obtain ⟨z1, e1, g1, w1⟩ := DataW.trod_string Tryz.underlying9 h1
      have h2 : DataW.trod enc Tryz.prog W 0 (fun _ => true) true k' 9 [c2] = some y2 := by simpa [cellsOfBool, cellsOfDeal, cellsOfInt, cellsOfString] using hq 2 _ rfl
      obtain ⟨z2, e2, g2, w2⟩ := DataW.trod_string Tryz.underlying9 h2
      have h3 : DataW.trod enc Tryz.prog W 0 (fun _ => true) true k' 3 [c3] = some y3 := by simpa [cellsOfBool, cellsOfDeal, cellsOfInt, cellsOfString] using hq 3 _ rfl
      obtain ⟨z3, e3, g3, w3⟩ := DataW.trod_int Tryz.underlying3 h3
      have h4 : DataW.trod enc Tryz.prog W 0 (fun _ => true) true k' 46 [c4, c5, c6, c7, c8, c9, c10] = some y4 := by simpa [cellsOfBool, cellsOfDeal, cellsOfInt, cellsOfString] using hq 4 _ rfl
      obtain ⟨z4, e4, w4⟩ := opencDeal h4
      have h5 : DataW.trod enc Tryz.prog W 0 (fun _ => true) true k' 9 [c11] = some y5 := by simpa [cellsOfBool, cellsOfDeal, cellsOfInt, cellsOfString] using hq 5 _ rfl
      obtain ⟨z5, e5, g5, w5⟩ := DataW.trod_string Tryz.underlying9 h5
      have h6 : DataW.trod enc Tryz.prog W 0 (fun _ => true) true k' 9 [c12] = some y6 := by simpa [cellsOfBool, cellsOfDeal, cellsOfInt, cellsOfString] using hq 6 _ rfl
      obtain ⟨z6, e6, g6, w6⟩ := DataW.trod_string Tryz.underlying9 h6
      have h7 : DataW.trod enc Tryz.prog W 0 (fun _ => true) true k' 9 [c13] = some y7 := by simpa [cellsOfBool, cellsOfDeal, cellsOfInt, cellsOfString] using hq 7 _ rfl
      obtain ⟨z7, e7, g7, w7⟩ := DataW.trod_string Tryz.underlying9 h7
      simp at e0 e1 e2 e3 e4 e5 e6 e7
      subst e0
      subst e1
      subst e2
      subst e3
      obtain ⟨rfl, rfl, rfl, rfl, rfl, rfl, rfl⟩ := e4
      subst e5
      subst e6
      subst e7
      exact ⟨⟨z0, z1, z2, z3, z4, z5, z6, z7⟩, rfl, ⟨bounds_i64 w0, w1, w2, bounds_i64 w3, w4, w5, w6, w7⟩⟩
theorem openCommand {H : Type} {enc : TypeId × Value → H} {W : World} {b0 : Nat} {r : Reach} {v : Value} {d : DataW H} {p : List MemPlace}
    (hv : Value.okWide Tryz.prog W r b0 48 v) (h : DataW.Trod enc Tryz.prog W 0 (fun _ => true) true 48 v d p) : ∃ x : XCommand, v = valCommand x ∧ okCommand W x := by
  obtain ⟨cs, rfl, hsz⟩ := okWide_struct Tryz.underlying48 hv
  obtain ⟨fuel, hf⟩ := h
  obtain ⟨x, hx, ho⟩ := opencCommand hf
  obtain ⟨l⟩ := cs
  simp only [Value.cells] at hx
  subst hx
  exact ⟨x, rfl, ho⟩
def bulkCommand (x : XCommand) : Nat := x.name.size + x.digits.size + bulkDeal x.deal + x.extra.size + x.answer.size + x.orders.size
theorem opencbCommand {H : Type} {enc : TypeId × Value → H} {W : World} {k : Nat} {cs : List Value} {y : DataW H × List MemPlace}
    (h : DataW.trod enc Tryz.prog W 0 (fun _ => true) true k 48 cs = some y) :
    ∃ x : XCommand, cs = [.int .i64 x.dO, .string x.name, .string x.digits, .int .i64 x.want, .int .i64 x.deal.shop, .int .i64 x.deal.trace, .int .i64 x.deal.amount, .bool x.deal.cash, .int .i64 x.deal.day, .int .i64 x.deal.bits, .string x.deal.nonce, .string x.extra, .string x.answer, .string x.orders] ∧ okCommand W x ∧ bulkCommand x ≤ Rows.uptoBulk y.1 := by
  obtain ⟨xs, k', _, hagg, hsz, hlen, hq⟩ := DataW.trod_struct Tryz.underlying48 h
  rw [cellsOfCommand] at hsz
  match cs, hsz with
  | [c0, c1, c2, c3, c4, c5, c6, c7, c8, c9, c10, c11, c12, c13], _ =>
    match xs, hlen, hagg with
    | [y0, y1, y2, y3, y4, y5, y6, y7], _, hagg =>
      have hbk := congrArg Rows.uptoBulk (Prod.ext_iff.1 hagg).1
      have h0 : DataW.trod enc Tryz.prog W 0 (fun _ => true) true k' 3 [c0] = some y0 := by simpa [cellsOfBool, cellsOfDeal, cellsOfInt, cellsOfString] using hq 0 _ rfl
      obtain ⟨z0, e0, g0, w0⟩ := DataW.trod_int Tryz.underlying3 h0
      subst g0
      have h1 : DataW.trod enc Tryz.prog W 0 (fun _ => true) true k' 9 [c1] = some y1 := by simpa [cellsOfBool, cellsOfDeal, cellsOfInt, cellsOfString] using hq 1 _ rfl
      obtain ⟨z1, e1, g1, w1⟩ := DataW.trod_string Tryz.underlying9 h1
      have l1 : z1.data.toList.length = z1.size := by simp
      subst g1
      have h2 : DataW.trod enc Tryz.prog W 0 (fun _ => true) true k' 9 [c2] = some y2 := by simpa [cellsOfBool, cellsOfDeal, cellsOfInt, cellsOfString] using hq 2 _ rfl
      obtain ⟨z2, e2, g2, w2⟩ := DataW.trod_string Tryz.underlying9 h2
      have l2 : z2.data.toList.length = z2.size := by simp
      subst g2
      have h3 : DataW.trod enc Tryz.prog W 0 (fun _ => true) true k' 3 [c3] = some y3 := by simpa [cellsOfBool, cellsOfDeal, cellsOfInt, cellsOfString] using hq 3 _ rfl
      obtain ⟨z3, e3, g3, w3⟩ := DataW.trod_int Tryz.underlying3 h3
      subst g3
      have h4 : DataW.trod enc Tryz.prog W 0 (fun _ => true) true k' 46 [c4, c5, c6, c7, c8, c9, c10] = some y4 := by simpa [cellsOfBool, cellsOfDeal, cellsOfInt, cellsOfString] using hq 4 _ rfl
      obtain ⟨z4, e4, w4, b4⟩ := opencbDeal h4
      have h5 : DataW.trod enc Tryz.prog W 0 (fun _ => true) true k' 9 [c11] = some y5 := by simpa [cellsOfBool, cellsOfDeal, cellsOfInt, cellsOfString] using hq 5 _ rfl
      obtain ⟨z5, e5, g5, w5⟩ := DataW.trod_string Tryz.underlying9 h5
      have l5 : z5.data.toList.length = z5.size := by simp
      subst g5
      have h6 : DataW.trod enc Tryz.prog W 0 (fun _ => true) true k' 9 [c12] = some y6 := by simpa [cellsOfBool, cellsOfDeal, cellsOfInt, cellsOfString] using hq 6 _ rfl
      obtain ⟨z6, e6, g6, w6⟩ := DataW.trod_string Tryz.underlying9 h6
      have l6 : z6.data.toList.length = z6.size := by simp
      subst g6
      have h7 : DataW.trod enc Tryz.prog W 0 (fun _ => true) true k' 9 [c13] = some y7 := by simpa [cellsOfBool, cellsOfDeal, cellsOfInt, cellsOfString] using hq 7 _ rfl
      obtain ⟨z7, e7, g7, w7⟩ := DataW.trod_string Tryz.underlying9 h7
      have l7 : z7.data.toList.length = z7.size := by simp
      subst g7
      simp at e0 e1 e2 e3 e4 e5 e6 e7
      subst e0
      subst e1
      subst e2
      subst e3
      obtain ⟨rfl, rfl, rfl, rfl, rfl, rfl, rfl⟩ := e4
      subst e5
      subst e6
      subst e7
      refine ⟨⟨z0, z1, z2, z3, z4, z5, z6, z7⟩, rfl, ⟨bounds_i64 w0, w1, w2, bounds_i64 w3, w4, w5, w6, w7⟩, ?_⟩
      simp only [List.map_cons, List.map_nil, Rows.uptoBulk, Rows.uptoBulkAll] at hbk
      rw [hbk]
      unfold bulkCommand
      dsimp only
      omega
theorem openbCommand {H : Type} {enc : TypeId × Value → H} {W : World} {b0 : Nat} {r : Reach} {v : Value} {d : DataW H} {p : List MemPlace}
    (hv : Value.okWide Tryz.prog W r b0 48 v) (h : DataW.Trod enc Tryz.prog W 0 (fun _ => true) true 48 v d p) : ∃ x : XCommand, v = valCommand x ∧ okCommand W x ∧ bulkCommand x ≤ Rows.uptoBulk d := by
  obtain ⟨cs, rfl, hsz⟩ := okWide_struct Tryz.underlying48 hv
  obtain ⟨fuel, hf⟩ := h
  obtain ⟨x, hx, ho, hb⟩ := opencbCommand hf
  obtain ⟨l⟩ := cs
  simp only [Value.cells] at hx
  subst hx
  exact ⟨x, rfl, ho, hb⟩
end Go.Proofs.YtfpglpefofcdeaaGreatDoor
