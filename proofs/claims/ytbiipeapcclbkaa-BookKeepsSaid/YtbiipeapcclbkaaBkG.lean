/- A book's find. -/
import Derived.Test.YtbiipeapcclbkaaBkF
import Derived.Deep.RegionHeld3
namespace Go.Proofs.Ytbiipeapcclbkaa
open Go.RowKit Go.Shelf
set_option linter.unusedVariables false
set_option linter.unusedSimpArgs false
set_option maxRecDepth 100000

theorem writeS_any (B b : Nat) (bs : List Value) (s : ByteArray) (w : World) (h : Lib.IsBuilder 80 5 B b bs w) (hlen : bs.length + s.size ≤ 140737488355328) (hBw : B ≤ w.heap.size) :
    Calls Try.prog 32 #[.pointer (some ⟨b, 0, none⟩), .string s] w fun e w' => e = .returned (.tuple #[.int .i64 s.size, .nilIface]) ∧ (Lib.BuilderAt 80 5 B b (.pointer (some ⟨b, 0, none⟩)) (bs ++ Lib.strCells s) w' ∧ Below B w w') :=
  Any.Builder_WriteString { Try.lays105 with } Try.Builder_Extra_105 B b bs s w h hlen hBw
theorem stringS_any (B b : Nat) (l : List UInt8) (w : World) (h : Lib.IsBuilder 80 5 B b (Lib.byteCells l) w) (hBw : B ≤ w.heap.size) :
    Calls Try.prog 33 #[.pointer (some ⟨b, 0, none⟩)] w fun e w' => e = .returned (.string ⟨l.toArray⟩) ∧ Below B w w' :=
  Any.Builder_String_any { Try.lays105 with } Try.Builder_Extra_105 B b l w h hBw
section
variable {w w' : World} {B bb mb : Nat} {v pl : Value} {M : Mm}
theorem sread_on (h : StoAt w B bb mb v M pl) (ho : M.off = false) (i : Nat) (s : ByteArray) (hs : M.C[i]? = some s) (h16 : s.size = 16) : Calls Try.prog 28 #[.pointer (some ⟨bb, 0, none⟩), .int .i64 (i : Int)] w fun e w' => e = .returned (.string s) ∧ w' = w := by
  obtain ⟨c0, c1, c2⟩ := h.cells
  have N := hide (mread_on h.mem ho i s hs)
  have hsi : (s.size : Int) = 16 := by omega
  rw [ho] at c1
  clear h hs h16 ho
  go_enter Try.func28, Try.ntmps28
  go_wp2_with fail
  refine (unhide N).mono ?_
  rintro r w1 ⟨rfl, hw⟩
  have hw' := hw.symm
  subst hw'
  go_wp2
  go_ret
  exact ⟨rfl, rfl⟩
def en0 : En := ⟨0, 0, ⟨#[]⟩⟩
def plZ : Obj := .cells #[.int .i64 0, .int .i64 0, .int .i64 0, .string ⟨#[]⟩, .int .i64 0] 62
def plZV : Value := .agg #[.int .i64 0, .int .i64 0, .int .i64 0, .string ⟨#[]⟩, .int .i64 0]
theorem plZCells {w : World} {g : Nat} (h : w.heap[g]? = some plZ) : w.cell? ⟨g, 0, none⟩ = some (.int .i64 0) ∧ w.cell? ⟨g, 1, none⟩ = some (.int .i64 0) ∧ w.cell? ⟨g, 2, none⟩ = some (.int .i64 0) ∧ w.cell? ⟨g, 3, none⟩ = some (.string ⟨#[]⟩) ∧ w.cell? ⟨g, 4, none⟩ = some (.int .i64 0) := by
  unfold plZ at h
  refine ⟨?_, ?_, ?_, ?_, ?_⟩ <;> simp [World.cell?, h]
set_option maxHeartbeats 4000000 in
/-- no entry lies there -/
theorem find_no (h : StoAt w B bb mb v M pl) (ho : M.off = false) (n p : Nat) (hz : M.C[p]? = some zeroC) :
    Calls Try.prog 15 #[.pointer (some ⟨bb, 0, none⟩), plV n en0 p] w fun r w' => r = .returned (.tuple #[plZV, .bool false]) ∧ Below w.heap.size w w' := by
  obtain ⟨W1, hW1⟩ : ∃ W1, W1 = (w.alloc (plO n en0 p)).alloc (plZ) := ⟨_, rfl⟩
  have hs0 : (w.alloc (plO n en0 p)).heap.size = w.heap.size + 1 := by simp
  have hB1 : Below w.heap.size w W1 := by rw [hW1]; exact ((Below.refl _ _).alloc (Nat.le_refl _) _).alloc (by simp) _
  have hX1 : W1.heap[w.heap.size]? = some (plO n en0 p) := by
    rw [hW1]
    exact (((Below.refl (w.alloc (plO n en0 p)).heap.size (w.alloc (plO n en0 p))).alloc (Nat.le_refl _) _).block w.heap.size (by rw [hs0]; omega)).trans (heap_alloc_new _ _)
  have hX2 : W1.heap[w.heap.size + 1]? = some (plZ) := by
    rw [hW1]
    have := heap_alloc_new (w.alloc (plO n en0 p)) (plZ)
    rwa [hs0] at this
  have N0 := hide (sread_on (h.below hB1) ho p zeroC hz zeroC_size)
  obtain ⟨r1, r2, r3⟩ := zero_reads
  have N1 := hide (fun W => read_all (zeroC.extract 0 1) W (by rw [ByteArray.size_extract]; unfold maxLen; omega))
  have N2 := hide (fun W => read_all (zeroC.extract 1 2) W (by rw [ByteArray.size_extract]; unfold maxLen; omega))
  have N3 := hide (fun W => read_all (zeroC.extract 2 4) W (by rw [ByteArray.size_extract]; unfold maxLen; omega))
  rw [r1] at N1
  rw [r2] at N2
  rw [r3] at N3
  generalize readE (zeroC.extract 0 1) = e1 at *
  generalize readE (zeroC.extract 1 2) = e2 at *
  generalize readE (zeroC.extract 2 4) = e3 at *
  have hzs : zeroC.size = 16 := zeroC_size
  generalize zeroC = zc at *
  obtain ⟨d0, d1, d2, d3, d4⟩ := plCells hX1
  obtain ⟨x0, x1, x2, x3, x4⟩ := plZCells hX2
  have hf : ∀ j, W1.frozen? ⟨w.heap.size, j, none⟩ = false := fun j => by unfold plO at hX1; simp [World.frozen?, hX1]
  have hg : ∀ j, W1.frozen? ⟨w.heap.size + 1, j, none⟩ = false := fun j => by unfold plZ at hX2; simp [World.frozen?, hX2]
  have HW1 := hide hW1; have HB1 := hide hB1
  have hlt1 : w.heap.size < W1.heap.size := block_ltR hX1
  unfold plO plZ en0 at HW1
  unfold plV plZV en0
  dsimp only [en0] at d0 d1 d2 d3 d4 x0 x1 x2 x3 x4 HW1 ⊢
  have f1 := hf 1; have f2 := hf 2
  have g0 := hg 0; have g1 := hg 1; have g2 := hg 2; have g3 := hg 3; have g4 := hg 4
  clear h ho hz hW1 hs0 hB1 hX1 hX2 r1 r2 r3 hf hg
  go_enter Try.func15, Try.ntmps15
  go_upto_region 1 with fail
  rw [← unhide HW1]
  go_wp2_with fail
  refine (unhide N0).mono ?_
  rintro r y1 ⟨rfl, hw⟩
  have hw' := hw.symm
  subst hw'
  go_wp2_with fail
  refine (unhide N1 _).mono ?_
  rintro r y1 ⟨rfl, hw⟩
  rw [hw]
  clear hw
  go_wp2_with fail
  refine (unhide N2 _).mono ?_
  rintro r y2 ⟨rfl, hw⟩
  rw [hw]
  clear hw
  go_wp2_with fail
  refine (unhide N3 _).mono ?_
  rintro r y3 ⟨rfl, hw⟩
  rw [hw]
  clear hw
  go_wp2
  refine bodyPost_ret (v := .tuple #[.agg #[.int .i64 0, .int .i64 0, .int .i64 0, .string ⟨#[]⟩, .int .i64 0], .bool false]) ?_ rfl ⟨rfl, ?_⟩
  · simp [results, Try.results15, go_sem, x0, x1, x2, x3, x4]
  · exact ((((((((unhide HB1).setCell (p := ⟨w.heap.size, 1, none⟩) (Nat.le_refl _) _).setCell (p := ⟨w.heap.size, 2, none⟩) (Nat.le_refl _) _).setCell (p := ⟨w.heap.size + 1, 0, none⟩) (Nat.le_succ _) _).setCell (p := ⟨w.heap.size + 1, 1, none⟩) (Nat.le_succ _) _).setCell (p := ⟨w.heap.size + 1, 2, none⟩) (Nat.le_succ _) _).setCell (p := ⟨w.heap.size + 1, 3, none⟩) (Nat.le_succ _) _).setCell (p := ⟨w.heap.size + 1, 4, none⟩) (Nat.le_succ _) _)
/-- the two boxes of find -/
structure FdAt (w W : World) (B bb mb : Nat) (v pl : Value) (M : Mm) (n p : Nat) (wh ho : Int) : Prop where
  sto : StoAt W B bb mb v M pl
  b1 : W.heap[w.heap.size]? = some (plO n ⟨wh, ho, ⟨#[]⟩⟩ p)
  b2 : W.heap[w.heap.size + 1]? = some plZ
  bel : Below w.heap.size w W
theorem FdAt.below {W W' : World} {n p : Nat} {wh ho : Int} (h : FdAt w W B bb mb v pl M n p wh ho) (hb : Below W.heap.size W W') : FdAt w W' B bb mb v pl M n p wh ho :=
  ⟨h.sto.below hb, (hb.block _ (block_ltR h.b1)).trans h.b1, (hb.block _ (block_ltR h.b2)).trans h.b2, h.bel.trans (hb.mono h.bel.size)⟩
theorem FdAt.set {W : World} {n p : Nat} {wh ho x : Int} (h : FdAt w W B bb mb v pl M n p wh ho) (hF : ∀ y, stoF bb mb v y → y < w.heap.size) :
    FdAt w (W.setCell ⟨w.heap.size, 1, none⟩ (.int .i64 x)) B bb mb v pl M n p x ho ∧ FdAt w (W.setCell ⟨w.heap.size, 2, none⟩ (.int .i64 x)) B bb mb v pl M n p wh x := by
  have hb1 := h.b1
  have hb2 := h.b2
  unfold plO at hb1
  unfold plZ at hb2
  refine ⟨⟨h.sto.chg (Chg.setCell W ⟨w.heap.size, 1, none⟩ _) (fun y hy hf => ?_), ?_, ?_, h.bel.setCell (p := ⟨w.heap.size, 1, none⟩) (Nat.le_refl _) _⟩, ⟨h.sto.chg (Chg.setCell W ⟨w.heap.size, 2, none⟩ _) (fun y hy hf => ?_), ?_, ?_, h.bel.setCell (p := ⟨w.heap.size, 2, none⟩) (Nat.le_refl _) _⟩⟩
  · have := hF y hf; rw [hy] at this; exact Nat.lt_irrefl _ this
  · unfold plO; simp [World.setCell, Array.getElem?_modify, hb1]
  · unfold plZ; simp [World.setCell, Array.getElem?_modify, hb2]
  · have := hF y hf; rw [hy] at this; exact Nat.lt_irrefl _ this
  · unfold plO; simp [World.setCell, Array.getElem?_modify, hb1]
  · unfold plZ; simp [World.setCell, Array.getElem?_modify, hb2]
theorem isB_below {T e : TypeId} {B b : Nat} {bs : List Value} {w : World} (h : Lib.IsBuilder T e B b bs w) : b < w.heap.size := by
  rcases h with ⟨_, v, hb, _⟩ | ⟨_, v, hb, _⟩ <;> exact block_ltR hb
end
end Go.Proofs.Ytbiipeapcclbkaa
