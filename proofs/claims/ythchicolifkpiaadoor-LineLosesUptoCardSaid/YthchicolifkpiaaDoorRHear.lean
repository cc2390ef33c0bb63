/- The reference's end: Hear. -/
import Derived.Test.YthchicolifkpiaaDoorRGive
import Derived.Deep.RegionLaw
namespace Go.Proofs.YthchicolifkpiaaDoor
open Go.RowKit
set_option linter.unusedVariables false

/-- a block that was taken -/
structure TB where
  t : Int
  n : Int
  m : Bool
  h : Bool
  b : ByteArray
def cellsB (K : List TB) : List Value := K.flatMap fun x => [.int .i64 x.t, .int .i64 x.n, .bool x.m, .bool x.h, .string x.b]
theorem cellsB_append (a b : List TB) : cellsB (a ++ b) = cellsB a ++ cellsB b := by simp [cellsB]
theorem cellsB_length (K : List TB) : (cellsB K).length = K.length * 5 := by
  induction K with
  | nil => rfl
  | cons x K ih => simp [cellsB] at ih ⊢; omega
theorem cellsB_one (K : List TB) : ∀ u ∈ cellsB K, u.oneCell' = true := fun u hu => by
  simp [cellsB] at hu
  obtain ⟨x, _, hx⟩ := hu
  rcases hx with rfl | rfl | rfl | rfl | rfl <;> rfl
/-- the row of what was taken -/
def KRow (w : World) (ko : Option Addr) (kc : Nat) (K : List TB) : Prop :=
  (K = [] ∧ ko = none ∧ kc = 0) ∨ (0 < K.length ∧ ∃ b, ko = some ⟨b, 0, none⟩ ∧ b < w.heap.size ∧ ∀ j u, (cellsB K)[j]? = some u → w.cell? ((⟨b, 0, none⟩ : Addr).add j) = some u)
theorem KRow.below {w w' : World} {ko : Option Addr} {kc : Nat} {K : List TB} (h : KRow w ko kc K) (hb : Below w.heap.size w w') : KRow w' ko kc K := by
  rcases h with h | ⟨h0, b, e, hlt, hc⟩
  · exact .inl h
  · exact .inr ⟨h0, b, e, Nat.lt_of_lt_of_le hlt hb.size, fun j u hj => (hb.cell (by rw [addr_add_block]; exact hlt)).trans (hc j u hj)⟩
theorem KRow.of_own {w : World} {base : Nat} {g n cap : Nat} {K : List TB} (h0 : 0 < K.length) (h : w.ownsRow base 59 5 (.slice (some ⟨g, 0, none⟩) n cap) n (cellsB K)) : KRow w (some ⟨g, 0, none⟩) cap K :=
  .inr ⟨h0, g, rfl, (h.lt g rfl).2, h.cells rfl⟩

/-- what becomes of the document's end -/
def hitB (G : List ByteArray) (A : Nat) (s : ByteArray) : Bool := decide (A < (piecesL G).length) && decide (uN s ≠ ((A % 2 : Nat) : Int))
def hearA (G : List ByteArray) (A : Nat) (s : ByteArray) : Nat := if hitB G A s then A + 1 else A
def hearG (G : List ByteArray) (A : Nat) (ago : Int) (s : ByteArray) : Int := if hitB G A s then -1 else ago
def takes (kn : Nat) (s : ByteArray) : Bool := uH s && decide (uT s = ((kn % 2 : Nat) : Int))

theorem bl_alloc {W x : World} (h : Below W.heap.size W x) (o : Obj) : Below W.heap.size W (x.alloc o) := h.alloc h.size o
theorem heap_at_new {w : World} {o : Obj} {g : Nat} (h : g = w.heap.size) : (w.alloc o).heap[g]? = some o := h ▸ heap_alloc_new w o
theorem heap_at_old {w : World} {o o' : Obj} {g : Nat} (h : w.heap[g]? = some o') : (w.alloc o).heap[g]? = some o' := by
  have hlt : g < w.heap.size := by
    rcases Nat.lt_or_ge g w.heap.size with hx | hx
    · exact hx
    · rw [Array.getElem?_eq_none hx] at h; cases h
  exact (Below.heap_alloc _ _ _ hlt).trans h
theorem heap_at_drew {w : World} {o : Obj} {g : Nat} (h : w.heap[g]? = some o) : w.drew.heap[g]? = some o := h
theorem heap_at_grown {w w' : World} {o : Obj} {g : Nat} {row : Option Nat} (hg : w.grownBy w' row) (h2 : some g ≠ row) (h : w.heap[g]? = some o) : w'.heap[g]? = some o := by
  have hlt : g < w.heap.size := by
    rcases Nat.lt_or_ge g w.heap.size with hx | hx
    · exact hx
    · rw [Array.getElem?_eq_none hx] at h; cases h
  exact (hg.block g hlt h2).trans h
theorem own_made1 {w : World} {base g : Nat} {e : TypeId} {size : Nat} (hg : g = w.heap.size) (hb : base ≤ w.heap.size) : (w.alloc (.cells #[] e)).ownsRow base e size (.slice (some ⟨g, 0, none⟩) 0 0) 0 [] := hg ▸ own_made0 w base e size hb
theorem own_allocR {w : World} {base : Nat} {e : TypeId} {size : Nat} {v : Value} {n : Nat} {xs : List Value} (h : w.ownsRow base e size v n xs) (o : Obj) : (w.alloc o).ownsRow base e size v n xs := h.alloc o
theorem step_append_none {P : Program} {w : World} {ops : Array Oper} {o : Oper} {a : Act} {K : Act → World → Prop} {Q : Exit → Act → World → Prop} {E : Prop} (hgd : o.guard = none) (s x : Operand) (t : TypeId)
    (ho : o.op = .call { callee := .builtin .append, args := #[s, x], argTypes := #[t, t] })
    (base : Nat) (e : TypeId) (i : TypeInfo) (size : Nat) (ht : P.underlying t = some (.slice e)) (hi : P.info? e = some i)
    (v : Value) (n : Nat) (xs : List Value) (hs : a.eval s = v) (hown : w.ownsRow base e size v n xs) (hx : a.eval x = .slice none 0 0)
    (h : K (a.put o.dst v) w) : if Region.wanted o (yielded ops a.tmps) = true then Oper.wp P o a w K Q else E := by
  have hw : Region.wanted o (yielded ops a.tmps) = true := by simp [Region.wanted, hgd]
  rw [if_pos hw]
  have hrun := run_append_owned_none (P := P) (w := w) base t o.type e i size ht hi v n xs hown
  unfold Oper.wp
  simp [execOp, ho, resolve, invoke, builtin, hs, hx, hrun, Result.andThen]
  exact h
theorem own_mono {w : World} {base base' : Nat} {e : TypeId} {size : Nat} {v : Value} {n : Nat} {xs : List Value} (h : w.ownsRow base e size v n xs) (hb : base' ≤ base) : w.ownsRow base' e size v n xs := by
  rcases h with ⟨h1, h2⟩
  refine ⟨h1, ?_⟩
  rcases h2 with h2 | ⟨g, cap, cur, h3, h4, h5⟩
  · exact .inl h2
  · exact .inr ⟨g, cap, cur, h3, Nat.le_trans hb h4, h5⟩
theorem rend_agg (go : Option Addr) (gn gc : Nat) (A ago : Int) (ko : Option Addr) (kn kc : Nat) (o : Bool) (told : Int) : rend go gn gc A ago ko kn kc o told = .agg #[.slice go gn gc, .int .i64 A, .int .i64 ago, .slice ko kn kc, .bool o, .int .i64 told] := rfl
set_option maxRecDepth 20000 in
set_option maxHeartbeats 4000000 in
theorem rhear_any (G T : List ByteArray) (A k : Nat) (K : List TB) (go : Option Addr) (gc : Nat) (ago : Int) (ko : Option Addr) (kc : Nat) (o : Bool) (told : Int) (s : ByteArray) (w : World) (hr : SRow w go G) (hk : KRow w ko kc K) (hs : ∀ s ∈ G, s.size ≤ 4096) (hl : (G.length : Int) ≤ 1048576) (hkl : (K.length : Int) ≤ 1048576) (hrel : OutRel G A T k) (hz : s.size ≤ maxLen) :
    Calls Tryd.prog 9 #[rend go G.length gc A ago ko K.length kc o told, .string s] w fun e w' => Below w.heap.size w w' ∧ ((unfE s ≠ 0 ∧ e = .returned (.tuple #[rend go G.length gc A ago ko K.length kc o told, .int .i64 (unfE s)])) ∨
      (unfE s = 0 ∧ ((takes K.length s = false ∧ e = .returned (.tuple #[rend go G.length gc (hearA G A s) (hearG G A ago s) ko K.length kc (o || uH s) told, .int .i64 0])) ∨
        (takes K.length s = true ∧ ∃ g cap, e = .returned (.tuple #[rend go G.length gc (hearA G A s) (hearG G A ago s) (some ⟨g, 0, none⟩) (K.length + 1) cap (o || uH s) told, .int .i64 0]) ∧ w'.ownsRow w.heap.size 59 5 (.slice (some ⟨g, 0, none⟩) (K.length + 1) cap) (K.length + 1) (cellsB (K ++ [⟨uT s, uN s, uM s, uH s, uB s⟩])))))) := by
  have N1 := hide (fun w' => runframe_all s w' hz)
  have N2 := hide (fun w' (hb : Below w.heap.size w w') => pieces_any G go gc w' (hr.below hb) hs hl)
  have hle := out_le hrel
  have hpl := piecesL_length_le G hs
  have hp : ((piecesL G).length : Int) ≤ 134217728 := by omega
  have hA : (A : Int) ≤ 134217728 := by omega
  have HK := hide hk
  clear hs hrel hr hz hk hpl hle
  have HA := hide (show hearA G A s = if hitB G A s then A + 1 else A from rfl)
  have HG := hide (show hearG G A ago s = if hitB G A s then -1 else ago from rfl)
  have HH := hide (show hitB G A s = (decide (A < (piecesL G).length) && decide (uN s ≠ ((A % 2 : Nat) : Int))) from rfl)
  have HT := hide (show takes K.length s = (uH s && decide (uT s = ((K.length % 2 : Nat) : Int))) from rfl)
  generalize takes K.length s = tk at *
  generalize hearA G A s = A' at *
  generalize hearG G A ago s = ago' at *
  generalize hitB G A s = hit at *
  generalize uT s = t at *
  generalize uN s = n at *
  generalize uM s = m at *
  generalize uH s = h at *
  generalize uB s = bb at *
  generalize unfE s = f at *
  by_cases hf : f = 0
  case neg =>
    have hf' : (f != 0) = true := by simpa using hf
    go_enter Tryd.func9, Tryd.ntmps9
    go_wp2_with fail
    refine (unhide N1 _).mono ?_
    rintro e w1 ⟨rfl, hb1⟩
    have hw1 : Below w.heap.size w w1 := (two_below w _ _).trans (hb1.mono (two_below w _ _).size)
    obtain ⟨q1, q2⟩ := two_kept hb1
    have hz : w.heap.size + 1 < w1.heap.size := by have := hb1.size; simp at this; omega
    have hB : w.heap.size ≤ w.heap.size + 1 := by omega
    have hwa : ∀ x, Below w.heap.size w (w1.alloc x) := fun x => hw1.alloc hw1.size x
    have p1 := fun x => (Below.heap_alloc w1 x w.heap.size (by omega)).trans q1
    have p2 := fun x => (Below.heap_alloc w1 x (w.heap.size + 1) (by omega)).trans q2
    obtain ⟨W1, hW1⟩ : ∃ W1, W1 = w1.alloc (.cells #[.int .i64 t, .int .i64 n, .bool m, .bool h, .string bb] 59) := ⟨_, rfl⟩
    have hB1 := hwa (.cells #[.int .i64 t, .int .i64 n, .bool m, .bool h, .string bb] 59)
    have p1' := p1 (.cells #[.int .i64 t, .int .i64 n, .bool m, .bool h, .string bb] 59)
    have p2' := p2 (.cells #[.int .i64 t, .int .i64 n, .bool m, .bool h, .string bb] 59)
    rw [← hW1] at hB1 p1' p2'
    obtain ⟨⟨c0, c1, c2, c3, c4, c5⟩, e0, e1, e2, e3, e4, e5⟩ := six_cells p1'
    obtain ⟨⟨z0, z1, z2, z3, z4, z5⟩, f0, f1, f2, f3, f4, f5⟩ := six_cells p2'
    have HW1 := hide hW1
    clear hb1 q1 q2 p1 p2 p1' p2' hwa hW1
    go_upto_if 16 with fail
    rw [← unhide HW1]
    go_wp2
    refine bodyPost_ret (v := .tuple #[rend go G.length gc A ago ko K.length kc o told, .int .i64 f]) (by simp [results, Tryd.results9, go_sem, z0, z1, z2, z3, z4, z5]) rfl ⟨?_, .inl ⟨hf, rfl⟩⟩
    exact ((((((hB1.setCell hB _).setCell hB _).setCell hB _).setCell hB _).setCell hB _).setCell hB _)
  case pos =>
    subst hf
    go_enter Tryd.func9, Tryd.ntmps9
    go_wp2_with fail
    refine (unhide N1 _).mono ?_
    rintro e w1 ⟨rfl, hb1⟩
    have hw1 : Below w.heap.size w w1 := (two_below w _ _).trans (hb1.mono (two_below w _ _).size)
    obtain ⟨q1, q2⟩ := two_kept hb1
    have hz : w.heap.size + 1 < w1.heap.size := by have := hb1.size; simp at this; omega
    have hB : w.heap.size ≤ w.heap.size + 1 := by omega
    obtain ⟨W1, hW1⟩ : ∃ W1, W1 = w1.alloc (.cells #[.int .i64 t, .int .i64 n, .bool m, .bool h, .string bb] 59) := ⟨_, rfl⟩
    have hB1 : Below w.heap.size w W1 := by rw [hW1]; exact hw1.alloc hw1.size _
    have p1 := (Below.heap_alloc w1 (.cells #[.int .i64 t, .int .i64 n, .bool m, .bool h, .string bb] 59) w.heap.size (by omega)).trans q1
    have p2 := (Below.heap_alloc w1 (.cells #[.int .i64 t, .int .i64 n, .bool m, .bool h, .string bb] 59) (w.heap.size + 1) (by omega)).trans q2
    have p3 := heap_alloc_new w1 (.cells #[.int .i64 t, .int .i64 n, .bool m, .bool h, .string bb] 59)
    rw [← hW1] at p1 p2 p3
    have hs1 : W1.heap.size = w1.heap.size + 1 := by rw [hW1]; simp
    obtain ⟨⟨c0, c1, c2, c3, c4, c5⟩, e0, e1, e2, e3, e4, e5⟩ := six_cells p1
    have HW1 := hide hW1
    clear hb1 q1 q2 hW1
    go_upto_if 16 with fail
    rw [← unhide HW1]
    go_wp2_with fail
    refine (unhide N2 _ hB1).mono ?_
    rintro e w2 ⟨v, u, rfl, hv, hu, hb2⟩
    have hw2 : Below w.heap.size w w2 := hB1.trans (hb2.mono hB1.size)
    have r1 : w2.heap[w.heap.size]? = _ := (hb2.block _ (by omega)).trans p1
    have r2 : w2.heap[w.heap.size + 1]? = _ := (hb2.block _ (by omega)).trans p2
    have r3 : w2.heap[w1.heap.size]? = _ := (hb2.block _ (by omega)).trans p3
    have hsz2 : w1.heap.size < w2.heap.size := by have := hb2.size; omega
    clear c0 c1 c2 c3 c4 c5 e0 e1 e2 e3 e4 e5 p1 p2 p3 hb2 hB1 hs1
    obtain ⟨vo, vc, rfl⟩ : ∃ vo vc, v = .slice vo (piecesL G).length vc := by
      rcases hv.2 with ⟨h1, h2⟩ | ⟨g, cap, cur, h1, _⟩
      · exact ⟨none, 0, by rw [h1, h2]⟩
      · exact ⟨_, cap, h1⟩
    clear hv hu
    have HH2 := hide (unhide HH)
    generalize (piecesL G).length = pn at *
    obtain ⟨⟨c0, c1, c2, c3, c4, c5⟩, e0, e1, e2, e3, e4, e5⟩ := six_cells r1
    obtain ⟨⟨b0, b1, b2, b3, b4⟩, g0, g1, g2, g3, g4⟩ := five_cells r3
    have hpar : ((A : Int).tmod 2) = ((A % 2 : Nat) : Int) := by rw [Int.tmod_eq_emod_of_nonneg (by omega)]; omega
    go_upto_region 5 with fail
    go_cut [37] (fun c wx => c = .bool hit ∧ wx = w2)
    case first =>
      by_cases h1 : A < pn
      · have h1' : (A : Int) < (pn : Int) := by omega
        by_cases h2 : n = ((A % 2 : Nat) : Int)
        · have hh : hit = false := by rw [unhide HH, decide_eq_true h1]; simp [h2]
          have HHH := hide hh
          clear hh
          go_wp2_with fail
          go_meet
          exact ⟨by rw [unhide HHH], rfl⟩
        · have hh : hit = true := by rw [unhide HH, decide_eq_true h1]; simpa using h2
          have h3 : (n != ((A % 2 : Nat) : Int)) = true := by simpa using h2
          have HHH := hide hh
          clear hh
          go_wp2_with fail
          go_meet
          exact ⟨by rw [unhide HHH]; simpa using h3, rfl⟩
      · have h1' : ¬ (A : Int) < (pn : Int) := by omega
        have hh : hit = false := by rw [unhide HH, decide_eq_false h1]; rfl
        have HHH := hide hh
        clear hh
        go_wp2_with fail
        go_meet
        exact ⟨by rw [unhide HHH], rfl⟩
    case rest =>
    obtain ⟨rfl, rfl⟩ := hcut
    have hA1 : (A : Int) + 1 ≤ 134217729 := by omega
    clear HH HH2
    go_upto_if 37 with fail
    go_cut [] (fun wx => wx.heap[w.heap.size]? = some (.cells #[.slice go G.length gc, .int .i64 (A' : Int), .int .i64 ago', .slice ko K.length kc, .bool o, .int .i64 told] 28) ∧ wx.heap[w.heap.size + 1]? = some (.cells #[.slice none 0 0, .int .i64 0, .int .i64 0, .slice none 0 0, .bool false, .int .i64 0] 28) ∧ wx.heap[w1.heap.size]? = some (.cells #[.int .i64 t, .int .i64 n, .bool m, .bool h, .string bb] 59) ∧ wx.heap.size = wc.heap.size ∧ Below w.heap.size w wx)
    case first =>
      cases hit with
      | false =>
        have HA2 := hide (show A' = A from unhide HA)
        have HG2 := hide (show ago' = ago from unhide HG)
        clear HA HG
        go_wp2_with fail
        go_meet
        exact ⟨by rw [unhide HA2, unhide HG2]; exact r1, r2, r3, rfl, hw2⟩
      | true =>
        have HA2 := hide (show A' = A + 1 from unhide HA)
        have HG2 := hide (show ago' = -1 from unhide HG)
        clear HA HG
        go_wp2_with fail
        go_meet
        refine ⟨?_, ?_, ?_, ?_, ?_⟩
        · rw [unhide HA2, unhide HG2]
          exact (set_row (set_row r1)).trans rfl
        · rw [set_other (by omega), set_other (by omega)]; exact r2
        · rw [set_other (by omega), set_other (by omega)]; exact r3
        · simp
        · exact (hw2.setCell (Nat.le_refl _) _).setCell (Nat.le_refl _) _
    case rest =>
    obtain ⟨s1, s2, s3, hsz3, hw3⟩ := hcut
    clear r1 r2 r3 c0 c1 c2 c3 c4 c5 e0 e1 e2 e3 e4 e5 b0 b1 b2 b3 b4 g0 g1 g2 g3 g4 HA HG
    have hz : (0 : Nat) ≤ 1 := by omega
    obtain ⟨⟨c0, c1, c2, c3, c4, c5⟩, e0, e1, e2, e3, e4, e5⟩ := six_cells s1
    obtain ⟨⟨z0, z1, z2, z3, z4, z5⟩, f0, f1, f2, f3, f4, f5⟩ := six_cells s2
    obtain ⟨⟨b0, b1, b2, b3, b4⟩, g0, g1, g2, g3, g4⟩ := five_cells s3
    have hkp : ((K.length : Int).tmod 2) = ((K.length % 2 : Nat) : Int) := by rw [Int.tmod_eq_emod_of_nonneg (by omega)]; omega
    generalize ((K.length % 2 : Nat) : Int) = kp at *
    cases h with
    | false =>
      have HT2 := hide (show tk = false by rw [unhide HT]; rfl)
      clear HT HK s1 s2 s3
      go_wp2
      refine bodyPost_ret (v := .tuple #[rend go G.length gc A' ago' ko K.length kc o told, .int .i64 0]) (by simp [results, Tryd.results9, go_sem, z0, z1, z2, z3, z4, z5]) rfl ⟨?_, .inr ⟨(by first | rfl | trivial), .inl ⟨unhide HT2, by rw [Bool.or_false]⟩⟩⟩
      exact ((((((hw3.setCell hB _).setCell hB _).setCell hB _).setCell hB _).setCell hB _).setCell hB _)
    | true =>
      by_cases hte : t = kp
      case neg =>
        have HT2 := hide (show tk = false by rw [unhide HT, decide_eq_false hte]; rfl)
        have hte' : (t == kp) = false := by simpa using hte
        clear HT HK hte s1 s2 s3
        go_wp2
        refine bodyPost_ret (v := .tuple #[rend go G.length gc A' ago' ko K.length kc true told, .int .i64 0]) (by simp [results, Tryd.results9, go_sem, z0, z1, z2, z3, z4, z5]) rfl ⟨?_, .inr ⟨(by first | rfl | trivial), .inl ⟨unhide HT2, by rw [Bool.or_true]⟩⟩⟩
        exact ((((((hw3.setCell (Nat.le_refl _) _).setCell hB _).setCell hB _).setCell hB _).setCell hB _).setCell hB _).setCell hB _
      case pos =>
        have HT2 := hide (show tk = true by rw [unhide HT, decide_eq_true hte]; rfl)
        have hte' : (t == kp) = true := by simpa using hte
        clear hte
        obtain ⟨wd, hwd⟩ : ∃ wd, wd = wc.setCell ⟨w.heap.size, 4, none⟩ (.bool true) := ⟨_, rfl⟩
        have hwd1 : Below w.heap.size w wd := by rw [hwd]; exact hw3.setCell (Nat.le_refl _) _
        have y1 := set_row (v := .bool true) (j := 4) s1
        have y2 := (set_other (w := wc) (b := w.heap.size) (j := 4) (v := .bool true) (show w.heap.size + 1 ≠ w.heap.size by omega)).trans s2
        have y3 := (set_other (w := wc) (b := w.heap.size) (j := 4) (v := .bool true) (show w1.heap.size ≠ w.heap.size by omega)).trans s3
        have y4 : wd.heap.size = wc.heap.size := by rw [hwd]; simp
        rw [← hwd] at y1 y2 y3
        have HWD := hide hwd
        have hk2 := (unhide HK).below hwd1
        clear HT HK s1 s2 s3 hwd
        go_upto_region 11 with fail
        rw [← unhide HWD]
        obtain ⟨⟨d0, d1, d2, d3, d4, d5⟩, k0, k1, k2, k3, k4, k5⟩ := six_cells y1
        obtain ⟨⟨m0, m1, m2, m3, m4⟩, n0, n1, n2, n3, n4⟩ := five_cells y3
        clear c0 c1 c2 c3 c4 c5 e0 e1 e2 e3 e4 e5 z0 z1 z2 z3 z4 z5 f0 f1 f2 f3 f4 f5 b0 b1 b2 b3 b4 g0 g1 g2 g3 g4
        obtain ⟨i0, hi, hz0, hz1, hz2⟩ := info_parts' infoBlk
        have MK := hide (show ∀ wx, Below wd.heap.size wd wx → (Below wd.heap.size wd wx ∧ wx.cell? ⟨w.heap.size, 3, none⟩ = some (.slice ko K.length kc) ∧ wx.cell? ⟨w1.heap.size, 0, none⟩ = some (.int .i64 t) ∧ wx.cell? ⟨w1.heap.size, 1, none⟩ = some (.int .i64 n) ∧ wx.cell? ⟨w1.heap.size, 2, none⟩ = some (.bool m) ∧ wx.cell? ⟨w1.heap.size, 3, none⟩ = some (.bool true) ∧ wx.cell? ⟨w1.heap.size, 4, none⟩ = some (.string bb) ∧ wx.frozen? ⟨w.heap.size, 3, none⟩ = false) from fun wx hx =>
          ⟨hx, (hx.cell (p := ⟨w.heap.size, 3, none⟩) (by show w.heap.size < _; omega)).trans d3, (hx.cell (p := ⟨w1.heap.size, 0, none⟩) (by show w1.heap.size < _; omega)).trans m0, (hx.cell (p := ⟨w1.heap.size, 1, none⟩) (by show w1.heap.size < _; omega)).trans m1, (hx.cell (p := ⟨w1.heap.size, 2, none⟩) (by show w1.heap.size < _; omega)).trans m2, (hx.cell (p := ⟨w1.heap.size, 3, none⟩) (by show w1.heap.size < _; omega)).trans m3, (hx.cell (p := ⟨w1.heap.size, 4, none⟩) (by show w1.heap.size < _; omega)).trans m4, (World.frozen?_of_block (hx.block w.heap.size (by omega))).trans k3⟩)
        have hb0 : Below wd.heap.size wd wd := Below.refl _ _
        have Y1 := hide y1; have Y2 := hide y2
        have HZ1 := hide (show w1.heap.size < wd.heap.size by omega)
        have HZ0 := hide (show w.heap.size < wd.heap.size by omega)
        have hzb : w1.heap.size < wd.heap.size := by omega
        have hza : w.heap.size < wd.heap.size := by omega
        have HI := hide hi; have Z0 := hide hz0; have Z1 := hide hz1; have Z2 := hide hz2
        have HD := hide hwd1
        have HM3 := hide (show K.length + 1 ≤ maxLen by unfold maxLen; omega)
        have HM4 := hide (show (K.length + 1) * 40 ≤ 140737488355328 by omega)
        clear hi hz0 hz1 hz2 y1 y2 y3 y4 hsz3 hwd1 d0 d1 d2 d4 d5 k0 k1 k2 k4 k5 n0 n1 n2 n3 n4
        go_cut [] (fun wx => ∃ g cap w4, wx = w4.setCell ⟨w.heap.size, 3, none⟩ (.slice (some ⟨g, 0, none⟩) (K.length + 1) cap) ∧ Below wd.heap.size wd w4 ∧ w4.ownsRow wd.heap.size 59 5 (.slice (some ⟨g, 0, none⟩) (K.length + 1) cap) (K.length + 1) (cellsB K ++ [.int .i64 t, .int .i64 n, .bool m, .bool true, .string bb]))
        case first =>
          rcases hk2 with ⟨hnil, hko, hkc0⟩ | ⟨hln, kb, rfl, hkb, hkc⟩
          · subst hnil hko hkc0
            have d3' : wd.cell? ⟨w.heap.size, 3, none⟩ = some (.slice none 0 0) := d3
            clear d3
            go_region_law ((first
              | (have hq := hq1; refine step_append_lies _ (by rfl) _ _ _ (by rfl) wd.heap.size 59 i0 (.agg #[.int .i64 0, .int .i64 0, .bool false, .bool false, .string ⟨#[]⟩]) 5 40 Tryd.underlying26 (unhide HI) (unhide Z0) (unhide Z1) (unhide Z2) rfl (by decide) (.slice (some ⟨_, 0, none⟩) 0 0) 0 [] (by rfl) ?_ ⟨_, 0, none⟩ 1 1 [.int .i64 t, .int .i64 n, .bool m, .bool true, .string bb] (by rfl) (by rfl) (World.news_of_block (cs := #[.int .i64 t, .int .i64 n, .bool m, .bool true, .string bb]) (t := 59) (fr := (0, 0)) ?_) (by simp [Value.oneCell']) (by decide) (unhide HM3) (unhide HM4) ?_ _ rfl ?_; (focus (repeat (first | ((with_reducible refine own_made1 ?_ ?_); (focus (first | rfl | (simp; done))); (focus (refine Below.size (B := wd.heap.size) (w := wd) ?_; (repeat (first | (with_reducible assumption) | (with_reducible refine Below.drew ?_) | (with_reducible refine bl_alloc ?_ _)))))) | (with_reducible refine World.ownsRow.drew ?_) | (with_reducible refine own_allocR ?_ _)))); (focus (repeat (first | ((with_reducible refine heap_at_new ?_); (focus (first | rfl | (simp; done)))) | (with_reducible refine heap_at_drew ?_) | ((with_reducible refine heap_at_grown hgrow1 ?_ ?_); (focus (intro hh; have hh2 := Option.some.inj hh; first | (simp at hh2; done) | omega | (simp at hh2; omega)))) | (with_reducible refine heap_at_old ?_)))); (focus (refine Below.size (B := wd.heap.size) (w := wd) ?_; (repeat (first | (with_reducible assumption) | (with_reducible refine Below.drew ?_) | (with_reducible refine bl_alloc ?_ _))))); intro g2 cap2 w4 own2 hgrow2 hat2 hlt2; have hb4 : Below wd.heap.size wd w4 := (by refine Below.grown ?_ hgrow2 ?_ ?_; (focus (repeat (first | (with_reducible assumption) | (with_reducible refine Below.drew ?_) | (with_reducible refine bl_alloc ?_ _)))); (focus (refine Below.size (B := wd.heap.size) (w := wd) ?_; (repeat (first | (with_reducible assumption) | (with_reducible refine Below.drew ?_) | (with_reducible refine bl_alloc ?_ _))))); (focus (intro q hq; have hq2 := Option.some.inj hq; first | omega | (simp at hq2; omega)))); obtain ⟨_, yy3, yy0, yy1, yy2, yy4, yy5, yyf⟩ := unhide MK _ hb4)
              | (refine step_append_none (by rfl) _ _ _ (by rfl) wd.heap.size 59 i0 5 Tryd.underlying26 (unhide HI) (.slice (some ⟨_, 0, none⟩) 0 0) 0 [] (by rfl) ?_ (by rfl) ?_; (focus (repeat (first | ((with_reducible refine own_made1 ?_ ?_); (focus (first | rfl | (simp; done))); (focus (refine Below.size (B := wd.heap.size) (w := wd) ?_; (repeat (first | (with_reducible assumption) | (with_reducible refine Below.drew ?_) | (with_reducible refine bl_alloc ?_ _)))))) | (with_reducible refine World.ownsRow.drew ?_) | (with_reducible refine own_allocR ?_ _)))); have hq1 := hb0)))
            all_goals
              go_wp2_with fail
              go_meet
              exact ⟨g2, cap2, w4, rfl, hb4, own2⟩
          · have HKC := hide (show ∀ wx, Below wd.heap.size wd wx → ∀ j u, (cellsB K)[j]? = some u → wx.cell? ((⟨kb, 0, none⟩ : Addr).add j) = some u from fun wx hx j u hj => (hx.cell (by rw [addr_add_block]; exact hkb)).trans (hkc j u hj))
            have HM1 := hide (show 0 + K.length ≤ maxLen by unfold maxLen; omega)
            have HM2 := hide (show (0 + K.length) * 40 ≤ 140737488355328 by omega)
            have HLN := hide hln
            clear hkc hln
            go_region_law ((first
              | (have hq := own1; refine step_append_lies _ (by rfl) _ _ _ (by rfl) wd.heap.size 59 i0 (.agg #[.int .i64 0, .int .i64 0, .bool false, .bool false, .string ⟨#[]⟩]) 5 40 Tryd.underlying26 (unhide HI) (unhide Z0) (unhide Z1) (unhide Z2) rfl (by decide) (.slice (some ⟨g1, 0, none⟩) K.length cap1) K.length (cellsB K) (by rfl) ?_ ⟨_, 0, none⟩ 1 1 [.int .i64 t, .int .i64 n, .bool m, .bool true, .string bb] (by rfl) (by rfl) (World.news_of_block (cs := #[.int .i64 t, .int .i64 n, .bool m, .bool true, .string bb]) (t := 59) (fr := (0, 0)) ?_) (by simp [Value.oneCell']) (by decide) (unhide HM3) (unhide HM4) ?_ _ rfl ?_; (focus (repeat (first | (with_reducible exact own1) | (with_reducible refine World.ownsRow.drew ?_) | (with_reducible refine own_allocR ?_ _)))); (focus (repeat (first | ((with_reducible refine heap_at_new ?_); (focus (first | rfl | (simp; done)))) | (with_reducible refine heap_at_drew ?_) | ((with_reducible refine heap_at_grown hgrow1 ?_ ?_); (focus (intro hh; have hh2 := Option.some.inj hh; first | (simp at hh2; done) | omega | (simp at hh2; omega)))) | (with_reducible refine heap_at_old ?_)))); (focus (refine Below.size (B := wd.heap.size) (w := wd) ?_; (repeat (first | (with_reducible assumption) | (with_reducible refine Below.drew ?_) | (with_reducible refine bl_alloc ?_ _))))); intro g2 cap2 w4 own2 hgrow2 hat2 hlt2; have hb4 : Below wd.heap.size wd w4 := (by refine Below.grown ?_ hgrow2 ?_ ?_; (focus (repeat (first | (with_reducible assumption) | (with_reducible refine Below.drew ?_) | (with_reducible refine bl_alloc ?_ _)))); (focus (refine Below.size (B := wd.heap.size) (w := wd) ?_; (repeat (first | (with_reducible assumption) | (with_reducible refine Below.drew ?_) | (with_reducible refine bl_alloc ?_ _))))); (focus (intro q hq; exact (own1.lt q hq).1))); obtain ⟨_, yy3, yy0, yy1, yy2, yy4, yy5, yyf⟩ := unhide MK _ hb4)
              | (refine step_append_lies _ (by rfl) _ _ _ (by rfl) wd.heap.size 59 i0 (.agg #[.int .i64 0, .int .i64 0, .bool false, .bool false, .string ⟨#[]⟩]) 5 40 Tryd.underlying26 (unhide HI) (unhide Z0) (unhide Z1) (unhide Z2) rfl (by decide) (.slice (some ⟨_, 0, none⟩) 0 0) 0 [] (by rfl) ?_ ⟨kb, 0, none⟩ K.length kc (cellsB K) (by rfl) (cellsB_length K) (unhide HKC _ ?_) (cellsB_one K) (unhide HLN) (unhide HM1) (unhide HM2) ?_ _ rfl ?_; (focus (repeat (first | ((with_reducible refine own_made1 ?_ ?_); (focus (first | rfl | (simp; done))); (focus (refine Below.size (B := wd.heap.size) (w := wd) ?_; (repeat (first | (with_reducible assumption) | (with_reducible refine Below.drew ?_) | (with_reducible refine bl_alloc ?_ _)))))) | (with_reducible refine World.ownsRow.drew ?_) | (with_reducible refine own_allocR ?_ _)))); (focus (repeat (first | (with_reducible assumption) | (with_reducible refine Below.drew ?_) | (with_reducible refine bl_alloc ?_ _)))); (focus (refine Below.size (B := wd.heap.size) (w := wd) ?_; (repeat (first | (with_reducible assumption) | (with_reducible refine Below.drew ?_) | (with_reducible refine bl_alloc ?_ _))))); intro g1 cap1 w3 own1 hgrow1 hat1 hlt1; simp only [Nat.zero_add, List.nil_append] at own1; have hb3 : Below wd.heap.size wd w3 := (by refine Below.grown ?_ hgrow1 ?_ ?_; (focus (repeat (first | (with_reducible assumption) | (with_reducible refine Below.drew ?_) | (with_reducible refine bl_alloc ?_ _)))); (focus (refine Below.size (B := wd.heap.size) (w := wd) ?_; (repeat (first | (with_reducible assumption) | (with_reducible refine Below.drew ?_) | (with_reducible refine bl_alloc ?_ _))))); (focus (intro q hq; have hq2 := Option.some.inj hq; first | omega | (simp at hq2; omega)))); obtain ⟨_, x3, x0, x1, x2, x4, x5, xf⟩ := unhide MK _ hb3; have hzz : w1.heap.size < w3.heap.size := Nat.lt_of_lt_of_le (unhide HZ1) hb3.size; have hzy : w.heap.size < w3.heap.size := Nat.lt_of_lt_of_le (unhide HZ0) hb3.size)))
            all_goals
              go_wp2_with fail
              go_meet
              exact ⟨g2, cap2, w4, rfl, hb4, own2⟩
        case rest =>
        obtain ⟨g, cap, w4, rfl, hb4, own4⟩ := hcut
        have x1 : w4.heap[w.heap.size]? = _ := (hb4.block _ (unhide HZ0)).trans (unhide Y1)
        have x2 : w4.heap[w.heap.size + 1]? = _ := (hb4.block _ (by have := unhide HZ1; omega)).trans (unhide Y2)
        have hgb : w.heap.size + 1 < g := by have := (own4.lt g rfl).1; have := unhide HZ1; omega
        have hw4 : Below w.heap.size w w4 := (unhide HD).trans (hb4.mono (unhide HD).size)
        have OW := hide (own_mono own4 (unhide HD).size)
        obtain ⟨⟨c0, c1, c2, c3, c4, c5⟩, e0, e1, e2, e3, e4, e5⟩ := six_cells x1
        obtain ⟨⟨z0, z1, z2, z3, z4, z5⟩, f0, f1, f2, f3, f4, f5⟩ := six_cells x2
        clear x1 x2 hb4 own4 hza hzb m0 m1 m2 m3 m4 d3 k3
        go_wp2
        refine bodyPost_ret (v := .tuple #[rend go G.length gc A' ago' (some ⟨g, 0, none⟩) (K.length + 1) cap true told, .int .i64 0]) (by simp [results, Tryd.results9, go_sem, z0, z1, z2, z3, z4, z5]) rfl ⟨?_, .inr ⟨(by first | rfl | trivial), .inr ⟨unhide HT2, g, cap, by rw [Bool.or_true], ?_⟩⟩⟩
        · exact ((((((hw4.setCell (Nat.le_refl _) _).setCell hB _).setCell hB _).setCell hB _).setCell hB _).setCell hB _).setCell hB _
        · rw [cellsB_append]
          refine slot_kept (unhide OW) fun q hq => ?_
          have hqg : g = q := Option.some.inj hq
          have h1 : q ≠ w.heap.size := by omega
          have h2 : q ≠ w.heap.size + 1 := by omega
          simp only [set_other h1, set_other h2]
end Go.Proofs.YthchicolifkpiaaDoor
