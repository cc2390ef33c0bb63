/- A book is opened. -/
import Derived.Test.YtbiipeapcclbkaaBkZ3
import Derived.Test.YtbiipeapcclbkaaBkN
namespace Go.Proofs.Ytbiipeapcclbkaa
open Go.RowKit Go.Shelf
set_option linter.unusedVariables false
set_option linter.unusedSimpArgs false
set_option maxRecDepth 100000

theorem ent_find (args : Array Value) (w : World) : (callFunc 15 args).run Try.prog w = .ok (.enter 15 args) w := by kernel_rfl
theorem ent_next (args : Array Value) (w : World) : (callFunc 16 args).run Try.prog w = .ok (.enter 16 args) w := by kernel_rfl
theorem plZFrozen {w : World} {g : Nat} (h : w.heap[g]? = some plZ) : w.frozen? ⟨g, 0, none⟩ = false ∧ w.frozen? ⟨g, 1, none⟩ = false ∧ w.frozen? ⟨g, 2, none⟩ = false ∧ w.frozen? ⟨g, 3, none⟩ = false ∧ w.frozen? ⟨g, 4, none⟩ = false := by
  unfold plZ at h
  refine ⟨?_, ?_, ?_, ?_, ?_⟩ <;> simp [World.frozen?, h]
theorem plFrozen {w : World} {g a d : Nat} {e : En} (h : w.heap[g]? = some (plO a e d)) : w.frozen? ⟨g, 0, none⟩ = false ∧ w.frozen? ⟨g, 1, none⟩ = false ∧ w.frozen? ⟨g, 2, none⟩ = false ∧ w.frozen? ⟨g, 3, none⟩ = false ∧ w.frozen? ⟨g, 4, none⟩ = false := by
  unfold plO at h
  refine ⟨?_, ?_, ?_, ?_, ?_⟩ <;> simp [World.frozen?, h]
/-- what is found at the i-th place -/
def fdX (L : List En) (i : Nat) : Nat × En × Nat := match L[i]? with
  | some e => (i + 1, e, posL (L.take i))
  | none => (0, en0, 0)
def fdB (L : List En) (i : Nat) : Bool := decide (i < L.length)
section
variable {w w' : World} {B bb mb : Nat} {v pl : Value} {M : Mm} {L : List En}
theorem find_at (h : StoAt w B bb mb v M pl) (ho : M.off = false) (hl : Laid M.C L) (i : Nat) (hi : i ≤ L.length) :
    Calls Try.prog 15 #[.pointer (some ⟨bb, 0, none⟩), plV (i + 1) en0 (posL (L.take i))] w fun r w' => r = .returned (.tuple #[plV (fdX L i).1 (fdX L i).2.1 (fdX L i).2.2, .bool (fdB L i)]) ∧ Below w.heap.size w w' := by
  unfold fdB
  by_cases hlt : i < L.length
  · obtain ⟨e, he⟩ : ∃ e, L[i]? = some e := ⟨_, List.getElem?_eq_getElem hlt⟩
    have hx : fdX L i = (i + 1, e, posL (L.take i)) := by unfold fdX; rw [he]
    rw [hx, decide_eq_true hlt]
    have hp := posL_take_succ he
    have ht := posL_take L (i + 1)
    have := hl.lt
    exact find_yes h ho (i + 1) (posL (L.take i)) e (hl.ok e (List.mem_of_getElem? he)) (hl.each i e he) (by omega) hl.sz
  · have hn : L[i]? = none := List.getElem?_eq_none (by omega)
    have hx : fdX L i = (0, en0, 0) := by unfold fdX; rw [hn]
    rw [hx, decide_eq_false hlt, List.take_of_length_le (by omega)]
    exact find_no h ho (i + 1) (posL L) hl.last
theorem BookAt.drew (h : BookAt w B bb mb v M pl L) : BookAt w.drew B bb mb v M pl L := h.below (Below.refl _ _).drew
/-- no memory for a book -/
theorem open_small (h : MemAt w B mb v M) (hc : (M.C.length : Int) < 4) : Calls Try.prog 5 #[.iface 23 (.pointer (some ⟨mb, 0, none⟩))] w fun r w' => r = .returned (.tuple #[.pointer none, .int .i64 1]) ∧ w' = w := by
  have N := hide (mcells_any h)
  generalize M.C.length = n at *
  clear h
  go_enter Try.func5, Try.ntmps5
  go_wp2_with fail
  refine (unhide N).mono ?_
  rintro r w1 ⟨rfl, hw⟩
  have hw' := hw.symm
  subst hw'
  go_wp2
  go_ret2
  exact ⟨rfl, rfl⟩
/-- the state of Open's loop -/
def OpR (w : World) (B bb mb : Nat) (v : Value) (M : Mm) (L : List En) (pv ov : Value) (wx : World) : Prop :=
  ∃ (i pb : Nat) (pl : Value), i ≤ L.length ∧ pv = .pointer (some ⟨pb, 0, none⟩) ∧ ov = .bool (fdB L i) ∧ BookAt wx B bb mb v M pl (L.take i) ∧ (∀ k, pl.ownBlock = some k → w.heap.size ≤ k) ∧
    wx.heap[pb]? = some (plO (fdX L i).1 (fdX L i).2.1 (fdX L i).2.2) ∧ w.heap.size ≤ pb ∧ pb ≠ bb ∧ pl.ownBlock ≠ some pb ∧ Below w.heap.size w wx
def opMs (bb : Nat) (L : List En) (wx : World) : Nat := match wx.cell? ⟨bb, 2, none⟩ with
  | some (.slice _ n _) => L.length - n
  | _ => 0
def set5 (W : World) (g a : Nat) (e1 e2 : Int) (e3 : ByteArray) (d : Nat) : World := ((((W.setCell ⟨g, 0, none⟩ (.int .i64 (a : Int))).setCell ⟨g, 1, none⟩ (.int .i64 e1)).setCell ⟨g, 2, none⟩ (.int .i64 e2)).setCell ⟨g, 3, none⟩ (.string e3)).setCell ⟨g, 4, none⟩ (.int .i64 (d : Int))
theorem set5_at {W : World} {g a d : Nat} {e1 e2 : Int} {e3 : ByteArray} {x0 x1 x2 x3 x4 : Value} (h : W.heap[g]? = some (.cells #[x0, x1, x2, x3, x4] 62)) : (set5 W g a e1 e2 e3 d).heap[g]? = some (plO a ⟨e1, e2, e3⟩ d) := by
  unfold set5 plO
  simp [World.setCell, Array.getElem?_modify, h]
theorem set5_below {W : World} {B g a d : Nat} {e1 e2 : Int} {e3 : ByteArray} (h : B ≤ g) : Below B W (set5 W g a e1 e2 e3 d) := by
  unfold set5
  exact (((((Below.refl _ _).setCell (p := ⟨g, 0, none⟩) h _).setCell (p := ⟨g, 1, none⟩) h _).setCell (p := ⟨g, 2, none⟩) h _).setCell (p := ⟨g, 3, none⟩) h _).setCell (p := ⟨g, 4, none⟩) h _
theorem set5_chg {W : World} {g a d : Nat} {e1 e2 : Int} {e3 : ByteArray} : Chg (fun x => x = g) W (set5 W g a e1 e2 e3 d) := by
  unfold set5
  have s := fun (y : Nat) (W : World) (h : y = g) => (Or.inl h : y = g ∨ W.heap.size ≤ y)
  exact ((((Chg.setCell W ⟨g, 0, none⟩ _).trans (Chg.setCell _ ⟨g, 1, none⟩ _) (fun y h => s y _ h)).trans (Chg.setCell _ ⟨g, 2, none⟩ _) (fun y h => s y _ h)).trans (Chg.setCell _ ⟨g, 3, none⟩ _) (fun y h => s y _ h)).trans (Chg.setCell _ ⟨g, 4, none⟩ _) (fun y h => s y _ h)
theorem BookAt.chg {F : Nat → Prop} (h : BookAt w B bb mb v M pl L) (hc : Chg F w w') (hF : ∀ x, F x → ¬ bkF bb mb v pl x) : BookAt w' B bb mb v M pl L :=
  ⟨h.sto.chg hc (fun x hx hs => hF x hx (.inl hs)), h.row.chg hc (fun x hx hf => hF x hf (.inr hx)), h.pF, h.ok, h.pos⟩
theorem BookAt.F_lt (h : BookAt w B bb mb v M pl L) : ∀ x, bkF bb mb v pl x → x < w.heap.size := by
  rintro x (hx | hx)
  · exact h.sto.F_lt x hx
  · exact (h.row.lt x hx).2
theorem opMs_at {i : Nat} (h : BookAt w B bb mb v M pl (L.take i)) (hi : i ≤ L.length) : opMs bb L w = L.length - i := by
  obtain ⟨c0, c1, c2⟩ := h.sto.cells
  obtain ⟨⟨ao, cap, hv⟩, _⟩ := h.row.form
  unfold opMs
  rw [c2, hv, plsL_len, List.length_take, Nat.min_eq_left hi]
theorem next_find {i : Nat} (hb : BookAt w B bb mb v M pl (L.take i)) (ho : M.off = false) (hl : Laid M.C L) (hi : i ≤ L.length) :
    ∃ (n q a d : Nat) (e : En) (ok : Bool), fdX L i = (a, e, d) ∧ fdB L i = ok ∧
      (∀ W', Below w.heap.size w W' → Calls Try.prog 16 #[.pointer (some ⟨bb, 0, none⟩)] W' (fun r w' => r = .returned (.agg #[.int .i64 (n : Int), .int .i64 0, .int .i64 0, .string ⟨#[]⟩, .int .i64 (q : Int)]) ∧ Below W'.heap.size W' w')) ∧
      (∀ W', Below w.heap.size w W' → Calls Try.prog 15 #[.pointer (some ⟨bb, 0, none⟩), .agg #[.int .i64 (n : Int), .int .i64 0, .int .i64 0, .string ⟨#[]⟩, .int .i64 (q : Int)]] W' (fun r w' => r = .returned (.tuple #[.agg #[.int .i64 (a : Int), .int .i64 e.what, .int .i64 e.how, .string e.text, .int .i64 (d : Int)], .bool ok]) ∧ Below W'.heap.size W' w')) := by
  refine ⟨i + 1, posL (L.take i), (fdX L i).1, (fdX L i).2.2, (fdX L i).2.1, fdB L i, rfl, rfl, fun W' hW => ?_, fun W' hW => find_at (hb.below hW).sto ho hl i hi⟩
  have := next_any (hb.below hW)
  rw [List.length_take, Nat.min_eq_left hi] at this
  exact this
theorem OpR.mk' {wx : World} {i pb a d : Nat} {e : En} {ok : Bool} {W1 : World} (hi : i ≤ L.length) (hx : fdX L i = (a, e, d)) (hk : fdB L i = ok) (hb : BookAt W1 B bb mb v M pl (L.take i)) (hp : ∀ k, pl.ownBlock = some k → w.heap.size ≤ k) (hB1 : Below w.heap.size w W1) (hpb : W1.heap.size ≤ pb) (hbw : Below W1.heap.size W1 wx) (ho : wx.heap[pb]? = some (plO a e d)) :
    OpR w B bb mb v M L (.pointer (some ⟨pb, 0, none⟩)) (.bool ok) wx := by
  refine ⟨i, pb, pl, hi, rfl, by rw [hk], hb.below hbw, hp, by rw [hx]; exact ho, Nat.le_trans hB1.size hpb, fun e => ?_, fun e => ?_, hB1.trans (hbw.mono hB1.size)⟩
  · have := hb.sto.lt; omega
  · have := (hb.row.lt _ e).2; omega
set_option maxHeartbeats 8000000 in
theorem open_any (h : MemAt w B mb v M) (ho : M.off = false) (hl : Laid M.C L) (hc : 4 ≤ M.C.length) (hBw : B ≤ w.heap.size) :
    Calls Try.prog 5 #[.iface 23 (.pointer (some ⟨mb, 0, none⟩))] w fun r w' => (∃ bb pl, r = .returned (.tuple #[.pointer (some ⟨bb, 0, none⟩), .int .i64 0]) ∧ BookAt w' B bb mb v M pl L ∧ w.heap.size ≤ bb ∧ (∀ k, pl.ownBlock = some k → w.heap.size ≤ k)) ∧ Below w.heap.size w w' := by
  obtain ⟨i0, hi, hz0, hz1, hz2⟩ := info_partsB infoPl
  have N := hide (mcells_any h)
  have hcn : ¬ (M.C.length : Int) < 4 := by omega
  have hpl : posL L ≤ 100000 := by have := hl.lt; have := h.len; omega
  have hml := h.lt
  obtain ⟨W1, hW1⟩ : ∃ W1, W1 = w.alloc (.cells #[.iface 23 (.pointer (some ⟨mb, 0, none⟩)), .bool false, .slice none 0 0] 58) := ⟨_, rfl⟩
  have hB1 : Below w.heap.size w W1 := by rw [hW1]; exact (Below.refl _ _).alloc (Nat.le_refl _) _
  have hs1 : W1.heap.size = w.heap.size + 1 := by rw [hW1]; simp
  have hBk : BookAt W1 B w.heap.size mb v M (.slice none 0 0) (L.take 0) := by
    refine ⟨⟨?_, h.below hB1, by omega, fun e => by have := (h.row.lt _ e).2; omega⟩, OwnR.nil _ _ _ _ _, (fun x hx => by cases hx), (fun e he => by simp at he), by simp [posL]⟩
    rw [hW1, ho]; exact heap_alloc_new _ _
  have NN := hide (fun (W : World) (pl : Value) (i : Nat) (hb : BookAt W B w.heap.size mb v M pl (L.take i)) => next_any hb)
  have NF := hide (fun (W : World) (pl : Value) (i : Nat) (hi : i ≤ L.length) (hb : StoAt W B w.heap.size mb v M pl) => find_at hb ho hl i hi)
  have HO := hide ho; have HL := hide hl; have HH := hide h; have HC := hide hc; have HPL := hide hpl; have HBK := hide hBk; have HB1 := hide hB1; have HS1 := hide hs1; have HW1 := hide hW1; have HBW := hide hBw
  have HI := hide hi; have Z0 := hide hz0; have Z1 := hide hz1; have Z2 := hide hz2
  generalize hm : M.C.length = m at *
  clear h ho hl hc hpl hBk hB1 hs1 hW1 hBw hi hz0 hz1 hz2 hm
  go_enter Try.func5, Try.ntmps5
  go_wp2_with fail
  refine (unhide N).mono ?_
  rintro r w1 ⟨rfl, hw⟩
  have hw' := hw.symm
  subst hw'
  clear N
  go_upto_region 4 with fail
  rw [← unhide HW1]
  go_cut [5, 6] (fun pv ov wx => OpR w B w.heap.size mb v M L pv ov wx)
  case first =>
    obtain ⟨n, q, a, d, ⟨e1, e2, e3⟩, ok, x1, x2, n1, n2⟩ := next_find (unhide HBK) (unhide HO) (unhide HL) (Nat.zero_le _)
    have HX1 := hide x1; have HX2 := hide x2; have N1 := hide n1; have N2 := hide n2
    dsimp only at N2
    clear x1 x2 n1 n2
    go_wp2_with fail
    go_region_law ((first
      | (refine step_call2 (by rfl) 15 _ _ _ (by rfl) (.pointer (some ⟨w.heap.size, 0, none⟩)) (.agg #[.int .i64 (n : Int), .int .i64 0, .int .i64 0, .string ⟨#[]⟩, .int .i64 (q : Int)]) (by rfl) (by rfl) ent_find (unhide N2 _ (by first | exact k1 | exact k1.alloc k1.size _)) ?_; rintro ev z2 ⟨rfl, j2⟩; refine ⟨_, rfl, ?_⟩; have k2 : Below W1.heap.size W1 z2 := (by first | exact k1.trans (j2.mono k1.size) | exact (k1.alloc k1.size _).trans (j2.mono (k1.alloc k1.size _).size)); (first | (have a2 := (j2.block _ (block_ltR a1)).trans a1) | (have a2 : z2.heap[z1.heap.size]? = some plZ := (j2.block _ (by simp)).trans (heap_alloc_new _ _)) | skip); (try (have cc := plZCells a2; have cf := plZFrozen a2; obtain ⟨q0, q1, q2, q3, q4⟩ := cc; obtain ⟨g0, g1, g2, g3, g4⟩ := cf)))
      | (refine step_call1 (by rfl) 16 _ _ (by rfl) (.pointer (some ⟨w.heap.size, 0, none⟩)) (by rfl) ent_next (unhide N1 _ (by first | exact (Below.refl _ _).drew | exact ((Below.refl _ _).alloc (Nat.le_refl _) _).drew)) ?_; rintro ev z1 ⟨rfl, j1⟩; refine ⟨_, rfl, ?_⟩; have k1 : Below W1.heap.size W1 z1 := (by first | exact (Below.refl _ _).drew.trans j1 | exact ((Below.refl _ _).alloc (Nat.le_refl _) _).drew.trans (j1.mono (by simp))); (first | (have a1 : z1.heap[W1.heap.size]? = some plZ := (j1.block _ (by simp)).trans (heap_alloc_new W1 _)) | skip))
      | fail))
    all_goals
      clear hml hcn
      go_wp2_with fail
      go_meet
    · exact OpR.mk' (Nat.zero_le _) (unhide HX1) (unhide HX2) (unhide HBK) (fun k hk => by cases hk) (unhide HB1) k2.size (k2.alloc k2.size _) (heap_alloc_new _ _)
    · have hz := OpR.mk' (wx := set5 z2 z1.heap.size a e1 e2 e3 d) (Nat.zero_le _) (unhide HX1) (unhide HX2) (unhide HBK) (fun k hk => by cases hk) (unhide HB1) k1.size (k2.trans (set5_below k1.size)) (set5_at a2)
      unfold set5 at hz
      exact hz
    · have hz := OpR.mk' (wx := set5 z2 W1.heap.size a e1 e2 e3 d) (Nat.zero_le _) (unhide HX1) (unhide HX2) (unhide HBK) (fun k hk => by cases hk) (unhide HB1) (Nat.le_refl _) (k2.trans (set5_below (Nat.le_refl _))) (set5_at a2)
      unfold set5 at hz
      exact hz
  case rest =>
  have HCUT := hide hcut
  clear hcut
  go_wp2_with fail
  go_loopw [5, 6] (fun pv ov wx => OpR w B w.heap.size mb v M L pv ov wx) (fun _ _ wx => opMs w.heap.size L wx)
  case atStart => exact unhide HCUT
  case round =>
    obtain ⟨i, pb, pl, hi, rfl, rfl, hbk, hpk, hpb, hpw, hpn, hpo, hbw⟩ := hrel
    obtain ⟨c0, c1, c2⟩ := hbk.sto.cells
    rw [unhide HO] at c1
    by_cases hlt : i < L.length
    · have hms := opMs_at hbk hi
      obtain ⟨e, he⟩ : ∃ e, L[i]? = some e := ⟨_, List.getElem?_eq_getElem hlt⟩
      have hx : fdX L i = (i + 1, e, posL (L.take i)) := by unfold fdX; rw [he]
      have hfb : fdB L i = true := decide_eq_true hlt
      have htk : L.take i ++ [e] = L.take (i + 1) := by
        obtain ⟨h1, h2⟩ := List.getElem?_eq_some_iff.1 he
        rw [List.take_succ_eq_append_getElem h1, h2]
      have htl : (L.take i).length = i := by rw [List.length_take]; omega
      have hoke : okEn e := (unhide HL).ok e (List.mem_of_getElem? he)
      have hposi : posL (L.take i) + wid e ≤ 100000 := by
        have h1 := posL_take_succ he
        have h2 := posL_take L (i + 1)
        have h3 := unhide HPL
        omega
      rw [hx] at hpb
      rw [hfb]
      obtain ⟨k0, k1, k2, k3, k4⟩ := plCells hpb
      have hbl := hbk.sto.lt
      have hpl := block_ltR hpb
      have hwl := hbw.size
      have HBK2 := hide hbk; have HPK := hide hpk; have HPB := hide hpb; have HPW := hide hpw; have HPN := hide hpn; have HPO := hide hpo; have HBW2 := hide hbw; have HTK := hide htk; have HTL := hide htl; have HOKE := hide hoke; have HPOS := hide hposi; have HMS := hide hms; have HE := hide he
      have hlen := hbk.len
      have HLEN := hide hlen
      have hpn' : w.heap.size ≠ pb := Ne.symm hpn
      obtain ⟨e1, e2, e3⟩ := e
      dsimp only at k0 k1 k2 k3 k4
      generalize hq : posL (L.take i) = q at *
      clear hbk hpk hpb hpw hpo hbw htk htl hoke hposi hms he hlen hx hfb c0 c1
      have HQ := hide hq
      clear hq
      go_upto_region 7 with fail
      go_wp2_with fail
      go_region_law ((refine step_append_lies _ (by rfl) _ _ _ (by rfl) B 62 i0 _ 5 48 Try.underlying56 (unhide HI) (unhide Z0) (unhide Z1) (unhide Z2) rfl (by omega) _ _ _ (by rfl) ((unhide HBK2).row.drew.alloc _) ⟨wr.heap.size, 0, none⟩ 1 1 [.int .i64 ((i + 1 : Nat) : Int), .int .i64 e1, .int .i64 e2, .string e3, .int .i64 (q : Int)] (by rfl) (by rfl) (World.news_of_block (heap_alloc_new _ _)) (by simp [Value.oneCell']) (by omega) (by have := unhide HLEN; have := plsL_len (L.take i); unfold maxLen; omega) (by have := unhide HLEN; have := plsL_len (L.take i); omega) (by have := unhide HBW; simp; omega) (wr.heap.size + 1) (by simp) ?_; intro g3 cap3 w3 own3 hgrow hat3 hlt3; have q7 := (put_keep (unhide HBK2).sto (unhide HBK2).pF hgrow).cells.2.2; have qf := (put_keep (unhide HBK2).sto (unhide HBK2).pF hgrow).frozen 2))
      all_goals
        have own4 : w3.ownsRow B 62 5 (.slice (some ⟨g3, 0, none⟩) ((plsL (L.take i)).length + 1) cap3) ((plsL (L.take i)).length + 1) (rowC cellsPl (plsL (L.take i)) ++ cellsPl ((L.take i).length + 1, ⟨e1, e2, e3⟩, posL (L.take i))) := by
          rw [unhide HTL, unhide HQ]; exact own3
        have hla := (put_last (unhide HBK2).sto (unhide HBK2).sto.F_lt (unhide HBK2).pF hgrow own4 hat3 (unhide HBK2).ok (unhide HOKE) (by rw [unhide HQ]; exact unhide HPOS)).1
        rw [unhide HTK] at hla
        have hz3 : (wr.drew.alloc (.cells #[.int .i64 ((i + 1 : Nat) : Int), .int .i64 e1, .int .i64 e2, .string e3, .int .i64 (q : Int)] 62)).heap[pb]? = some (plO (i + 1) ⟨e1, e2, e3⟩ q) := (Below.heap_alloc wr.drew _ _ hpl).trans (unhide HPB)
        have h3k := (hgrow.block pb (block_ltR hz3) (Ne.symm (unhide HPO))).trans hz3
        have hb5 : Below w.heap.size w (w3.setCell ⟨w.heap.size, 2, none⟩ (.slice (some ⟨g3, 0, none⟩) ((plsL (L.take i)).length + 1) cap3)) := (((unhide HBW2).drew.alloc (unhide HBW2).size _).grown hgrow (by simp; omega) (fun j hj => unhide HPK j hj)).setCell (p := ⟨w.heap.size, 2, none⟩) (Nat.le_refl _) _
        have hz5 : (w3.setCell ⟨w.heap.size, 2, none⟩ (.slice (some ⟨g3, 0, none⟩) ((plsL (L.take i)).length + 1) cap3)).heap[pb]? = some (plO (i + 1) ⟨e1, e2, e3⟩ q) := by
          rw [← h3k]
          simp [World.setCell, Array.getElem?_modify, hpn']
        have hpk5 : ∀ k, (Value.slice (some ⟨g3, 0, none⟩) ((plsL (L.take i)).length + 1) cap3).ownBlock = some k → w.heap.size ≤ k := by
          intro k hk
          obtain rfl : g3 = k := Option.some.inj hk
          rcases hat3 with h | h
          · exact unhide HPK _ h
          · omega
        generalize (Value.slice (some ⟨g3, 0, none⟩) ((plsL (L.take i)).length + 1) cap3) = pl5 at *
        generalize w3.setCell ⟨w.heap.size, 2, none⟩ pl5 = W5 at *
        obtain ⟨W6, hW6⟩ : ∃ W6, W6 = W5.alloc (plO (i + 1) ⟨e1, e2, e3⟩ q) := ⟨_, rfl⟩
        have hB6 : Below W5.heap.size W5 W6 := by rw [hW6]; exact (Below.refl _ _).alloc (Nat.le_refl _) _
        have hX6 : W6.heap[W5.heap.size]? = some (plO (i + 1) ⟨e1, e2, e3⟩ q) := by rw [hW6]; exact heap_alloc_new _ _
        have hb6 : Below w.heap.size w W6 := hb5.trans (hB6.mono hb5.size)
        obtain ⟨n, q', a, d, ⟨x1, x2, x3⟩, ok, y1, y2, n1, n2⟩ := next_find (hla.below hB6) (unhide HO) (unhide HL) hlt
        have hms2 : ∀ wx, Below W6.heap.size W6 wx → opMs w.heap.size L wx < opMs w.heap.size L wr := fun wx hx => by
          rw [unhide HMS, opMs_at ((hla.below hB6).below hx) hlt]; omega
        obtain ⟨k0, k1, k2, k3, k4⟩ := plCells hz5
        have HN1 := hide n1; have HN2 := hide n2; have HY1 := hide y1; have HY2 := hide y2; have HLA := hide (hla.below hB6); have HB6 := hide hb6; have HX6 := hide hX6; have HW6 : Hid (W6 = W5.alloc (.cells #[.int .i64 ((i : Int) + 1), .int .i64 e1, .int .i64 e2, .string e3, .int .i64 (q : Int)] 62)) := hide hW6; have HPK5 := hide hpk5; have HMS2 := hide hms2; have HS6 := hide hB6.size; have HBW5 := hide hb5; have HNF5 : Hid (¬ bkF w.heap.size mb v pl5 W5.heap.size) := hide (fun hf => Nat.lt_irrefl _ (hla.F_lt _ hf)); have HNE5 : Hid (w.heap.size ≠ W5.heap.size) := hide (Nat.ne_of_lt hla.sto.lt); have HNP5 : Hid (pl5.ownBlock ≠ some W5.heap.size) := hide (fun e => Nat.lt_irrefl _ (hla.row.lt _ e).2)
        dsimp only at HN2 k0 k1 k2 k3 k4
        have hgz : W6.frozen? ⟨W5.heap.size, 0, none⟩ = false := by have := hX6; unfold plO at this; simp [World.frozen?, this]
        clear hW6 hB6 hX6 hb6 n1 n2 y1 y2 hla hms2 hpk5 hz5 hb5 h3k hz3 own4 own3 hgrow hat3 hlt3 q7 qf c2 hgz
        go_upto_region 6 with fail
        rw [← unhide HW6]
        go_wp2_with fail
        go_region_law ((first
          | (refine step_call2 (by rfl) 15 _ _ _ (by rfl) (.pointer (some ⟨w.heap.size, 0, none⟩)) (.agg #[.int .i64 (n : Int), .int .i64 0, .int .i64 0, .string ⟨#[]⟩, .int .i64 (q' : Int)]) (by rfl) (by rfl) ent_find (unhide HN2 _ k1) ?_; rintro ev z2 ⟨rfl, j2⟩; refine ⟨_, rfl, ?_⟩; have k2 : Below W6.heap.size W6 z2 := k1.trans (j2.mono k1.size); have a2 := (k2.block _ (block_ltR (unhide HX6))).trans (unhide HX6); have cc := plCells a2; have cf := plFrozen a2; obtain ⟨q0, q1, q2, q3, q4⟩ := cc; obtain ⟨g0, g1, g2, g3, g4⟩ := cf)
          | (refine step_call1 (by rfl) 16 _ _ (by rfl) (.pointer (some ⟨w.heap.size, 0, none⟩)) (by rfl) ent_next (unhide HN1 _ (Below.refl _ _).drew) ?_; rintro ev z1 ⟨rfl, j1⟩; refine ⟨_, rfl, ?_⟩; have k1 : Below W6.heap.size W6 z1 := (Below.refl _ _).drew.trans j1)
          | fail))
        all_goals
          have hc9 : Chg (fun x => x = W5.heap.size) z2 (set5 z2 W5.heap.size a x1 x2 x3 d) := set5_chg
          have hbk9 : BookAt (set5 z2 W5.heap.size a x1 x2 x3 d) B w.heap.size mb v M pl5 (L.take (i + 1)) := ((unhide HLA).below k2).chg hc9 (fun x hx hf => by subst hx; exact unhide HNF5 hf)
          have hb9 : Below w.heap.size w (set5 z2 W5.heap.size a x1 x2 x3 d) := ((unhide HB6).trans (k2.mono (unhide HB6).size)).trans (set5_below (unhide HBW5).size)
          have hz : OpR w B w.heap.size mb v M L (.pointer (some ⟨W5.heap.size, 0, none⟩)) (.bool ok) (set5 z2 W5.heap.size a x1 x2 x3 d) := by
            refine ⟨i + 1, W5.heap.size, pl5, hlt, rfl, by rw [unhide HY2], ?_, unhide HPK5, by rw [unhide HY1]; exact set5_at a2, ?_, ?_, ?_, ?_⟩
            · exact hbk9
            · exact (unhide HBW5).size
            · exact Ne.symm (unhide HNE5)
            · exact unhide HNP5
            · exact hb9
          have hm2 : opMs w.heap.size L (set5 z2 W5.heap.size a x1 x2 x3 d) < opMs w.heap.size L wr := by
            rw [unhide HMS, opMs_at hbk9 hlt]
            omega
          unfold set5 at hz hm2
          have HZ := hide hz; have HM2 := hide hm2
          clear hz hm2 j2 j1 k1 k2 a2 q0 q1 q2 q3 q4 g0 g1 g2 g3 g4
          go_wp2
          refine ⟨?_, unhide HM2⟩
          iterate 23 (apply Exists.intro)
          exact ⟨unhide HZ, rfl⟩
    · have hfb : fdB L i = false := decide_eq_false hlt
      obtain rfl : i = L.length := by omega
      rw [List.take_length] at hbk
      rw [hfb]
      have HBK2 := hide hbk; have HPK := hide hpk; have HBW2 := hide hbw
      clear hbk hpk hpb hpw hpn hpo hbw hfb
      go_wp2
      go_ret2
      exact ⟨⟨_, _, rfl, unhide HBK2, Nat.le_refl _, unhide HPK⟩, unhide HBW2⟩
end
end Go.Proofs.Ytbiipeapcclbkaa
