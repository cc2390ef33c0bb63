/- clear: find: a day is told, a case is looked for. -/
import Derived.Test.YtdameincehiieaaClrC
namespace Go.Proofs.Ytdameincehiieaa
open Go.RowKit
set_option linter.unusedVariables false
set_option maxRecDepth 100000

/-- what has been there is as it was, block b aside -/
def Tnd (w w' : World) (b : Nat) : Prop := (∀ B, B ≤ b → Below B w w') ∧ (∀ k, k < w.heap.size → k ≠ b → w'.heap[k]? = w.heap[k]?) ∧ w.heap.size ≤ w'.heap.size
theorem Tnd.of_below {w w' : World} {b : Nat} (h : Below w.heap.size w w') (hb : b < w.heap.size) : Tnd w w' b := ⟨fun B hB => h.mono (by omega), fun k hk _ => h.block k hk, h.size⟩
theorem Tnd.trans {w w1 w2 : World} {b : Nat} (h : Tnd w w1 b) (k : Tnd w1 w2 b) : Tnd w w2 b :=
  ⟨fun B hB => (h.1 B hB).trans (k.1 B hB), fun i hi hn => (k.2.1 i (by have := h.2.2; omega) hn).trans (h.2.1 i hi hn), Nat.le_trans h.2.2 k.2.2⟩
theorem Tnd.drewN {w w' : World} {b : Nat} (h : Tnd w w' b) (k : Nat) : Tnd w (w'.drewN k) b := ⟨fun B hB => below_drewN (h.1 B hB) k, fun i hi hn => h.2.1 i hi hn, h.2.2⟩
theorem Tnd.set (w : World) (b o : Nat) (v : Value) : Tnd w (w.setCell ⟨b, o, none⟩ v) b :=
  ⟨fun B hB => (Below.refl B w).setCell hB v, fun k hk hn => by simp [World.setCell, Array.getElem?_modify, Ne.symm hn], by simp [World.setCell]⟩
theorem ClrB.lt {w : World} {b : Nat} {D : Dys} {t : Int} {m1 m2 : Nat} (h : ClrB w b D t m1 m2) : b < w.heap.size := blk_lt h
theorem NMap.tnd {w w' : World} {m n c b : Nat} {g : Int → Int → Option Nat} (h : NMap w m n c g) (k : Tnd w w' b) (hne : m ≠ b) : NMap w' m n c g := h.of_block (k.2.1 m h.lt hne)
theorem PMap.tnd {w w' : World} {m n b : Nat} {f : Int → Int → Int} (h : PMap w m n f) (k : Tnd w w' b) (hne : m ≠ b) : PMap w' m n f := h.of_block (k.2.1 m h.lt hne)
theorem PayB.tnd {w w' : World} {q b : Nat} {p : Pst} {c : Cse} (h : PayB w q p c) (k : Tnd w w' b) (hne : q ≠ b) : PayB w' q p c := h.of_block (k.2.1 q (blk_lt h) hne)
theorem ClrB.frozen {w : World} {b : Nat} {D : Dys} {t : Int} {m1 m2 : Nat} (h : ClrB w b D t m1 m2) (i : Nat) : w.frozen? ⟨b, i, none⟩ = false := by unfold ClrB at h; simp [World.frozen?, h]

/-- a day that may not be told -/
theorem find_day (b m1 m2 : Nat) (D : Dys) (t shop trace st day : Int) (w : World) (h : ClrB w b D t m1 m2) (hd : dayE t day ≠ 0) :
    Calls Try.prog 29 #[.pointer (some ⟨b, 0, none⟩), twoV shop trace, .int .i64 st, .int .i64 day] w fun e w' => e = .returned (.tuple #[.pointer none, .int .i64 (dayE t day)]) ∧ Below w.heap.size w w' := by
  have hbl := h.lt
  have ha : Below w.heap.size w (w.alloc (.cells #[.int .i64 shop, .int .i64 trace] 72)) := (Below.refl w.heap.size w).alloc (Nat.le_refl _) _
  have n1 := tell_any b D t day m1 m2 _ (h.of_block (ha.block b hbl))
  rw [if_neg hd] at n1
  have hne : (dayE t day != 0) = true := by simpa using hd
  unfold twoV
  generalize dayE t day = x at *
  have N1 := hide n1; have HA := hide ha
  clear n1 ha h hd
  go_enter Try.func29, Try.ntmps29
  go_wp2_with fail
  refine (unhide N1).mono ?_
  rintro e w1 ⟨rfl, hw1⟩
  rw [hw1]
  clear hw1
  go_wp2
  go_ret2
  exact ⟨rfl, unhide HA⟩
theorem fieldCase (o1 o2 o3 o4 : Int) (w : World) : (Instr.field 47 (.agg #[.int .i64 o1, .int .i64 o2, .int .i64 o3, .int .i64 o4]) 0).run Try.prog w = .ok (.int .i64 o1) w := by kernel_rfl
theorem cellB {w w' : World} {a : Addr} {v : Value} (h : w.cell? a = some v) (hh : w'.heap[a.block]? = w.heap[a.block]?) : w'.cell? a = some v := by
  unfold World.cell? at *
  rw [hh]
  exact h
/-- the world in which find has told its day -/
theorem find_told (b m1 m2 n cc : Nat) (D : Dys) (t shop trace day : Int) (g : Int → Int → Option Nat) (w : World) (h : ClrB w b D t m1 m2) (hN : NMap w m1 n cc g) (hm : m1 ≠ b) (h1 : InR shop) (h2 : InR trace) (hd : dayE t day = 0) :
    ∃ W : World, Calls Try.prog 23 #[.pointer (some ⟨b, 0, none⟩), .int .i64 day] (w.alloc (.cells #[.int .i64 shop, .int .i64 trace] 72)) (fun e w' => e = .returned (.int .i64 0) ∧ w' = W) ∧ Tnd w W b ∧ ClrB W b D day m1 m2 ∧
      W.cell? ⟨w.heap.size, 0, none⟩ = some (.int .i64 shop) ∧ W.cell? ⟨w.heap.size, 1, none⟩ = some (.int .i64 trace) ∧
      ∀ k, (Instr.lookup 64 (.map (some m1)) (.agg #[.int .i64 shop, .int .i64 trace]) false).run Try.prog (W.drewN k) = .ok (pOf (g shop trace)) (W.drewN k) := by
  have hbl := h.lt
  have ha : Below w.heap.size w (w.alloc (.cells #[.int .i64 shop, .int .i64 trace] 72)) := (Below.refl w.heap.size w).alloc (Nat.le_refl _) _
  have h' := h.of_block (ha.block b hbl)
  have n1 := tell_any b D t day m1 m2 _ h'
  rw [if_pos hd, hd] at n1
  have hS := Tnd.set (w.alloc (.cells #[.int .i64 shop, .int .i64 trace] 72)) b 4 (.int .i64 day)
  have hT := (Tnd.of_below ha hbl).trans hS
  refine ⟨_, n1, hT, h'.tell day, ?_, ?_, fun k => ?_⟩
  · exact cellB (by simp) (hS.2.1 w.heap.size (by simp) (by omega))
  · exact cellB (by simp) (hS.2.1 w.heap.size (by simp) (by omega))
  · exact (hN.tnd (hT.drewN k) hm).look shop trace h1 h2
set_option maxHeartbeats 1000000 in
/-- there is none -/
theorem find_none (b m1 m2 n cc : Nat) (D : Dys) (t shop trace st day : Int) (g : Int → Int → Option Nat) (w : World) (h : ClrB w b D t m1 m2) (hN : NMap w m1 n cc g) (hm : m1 ≠ b) (h1 : InR shop) (h2 : InR trace) (hd : dayE t day = 0) (hg : g shop trace = none) :
    Calls Try.prog 29 #[.pointer (some ⟨b, 0, none⟩), twoV shop trace, .int .i64 st, .int .i64 day] w fun e w' => e = .returned (.tuple #[.pointer none, .int .i64 5]) ∧ ClrB w' b D day m1 m2 ∧ Tnd w w' b := by
  obtain ⟨W, n1, hT, hC, k0, k1, hl⟩ := find_told b m1 m2 n cc D t shop trace day g w h hN hm h1 h2 hd
  rw [hg] at hl
  have hl' : ∀ k, (Instr.lookup 64 (.map (some m1)) (.agg #[.int .i64 shop, .int .i64 trace]) false).run Try.prog (W.drewN k) = .ok (.pointer none) (W.drewN k) := hl
  obtain ⟨_, _, _, _, _, c5, _⟩ := hC.cells
  have N1 := hide n1; have HT := hide (fun k => hT.drewN k); have HC := hide hC
  unfold twoV
  clear n1 hT hC hl h hN h1 h2 hg hd
  go_enter Try.func29, Try.ntmps29
  go_wp2_with fail
  refine (unhide N1).mono ?_
  rintro e w1 ⟨rfl, hw1⟩
  rw [hw1]
  clear hw1
  go_wp2_with fail
  go_quiet (fail)
  go_wp2
  go_ret2
  exact ⟨rfl, unhide HC, unhide HT _⟩
set_option maxHeartbeats 1000000 in
/-- it is in another state -/
theorem find_state (b m1 m2 n cc q : Nat) (D : Dys) (t shop trace st day : Int) (g : Int → Int → Option Nat) (p : Pst) (c : Cse) (w : World) (h : ClrB w b D t m1 m2) (hN : NMap w m1 n cc g) (hm : m1 ≠ b) (h1 : InR shop) (h2 : InR trace) (hd : dayE t day = 0) (hg : g shop trace = some q) (hP : PayB w q p c) (hqb : q ≠ b)
    (hs : 0 ≤ c.since ∧ c.since ≤ 65535) (hw : 0 ≤ waitC D c.st ∧ waitC D c.st ≤ 65535) (hst : (onC D c day).st ≠ st) :
    Calls Try.prog 29 #[.pointer (some ⟨b, 0, none⟩), twoV shop trace, .int .i64 st, .int .i64 day] w fun e w' => e = .returned (.tuple #[.pointer none, .int .i64 7]) ∧ ClrB w' b D day m1 m2 ∧ Tnd w w' b := by
  obtain ⟨W, n1, hT, hC, k0, k1, hl⟩ := find_told b m1 m2 n cc D t shop trace day g w h hN hm h1 h2 hd
  rw [hg] at hl
  have hl' : ∀ k, (Instr.lookup 64 (.map (some m1)) (.agg #[.int .i64 shop, .int .i64 trace]) false).run Try.prog (W.drewN k) = .ok (.pointer (some ⟨q, 0, none⟩)) (W.drewN k) := hl
  have N2 := hide (fun k => on_any b q D day day m1 m2 p c (W.drewN k) (hC.of_block rfl) ((hP.tnd hT hqb).of_block rfl) hs hw)
  obtain ⟨_, _, _, _, _, c5, _⟩ := hC.cells
  have hne : ((onC D c day).st != st) = true := by simpa using hst
  unfold caseV at N2
  generalize onC D c day = oc at *
  obtain ⟨o1, o2, o3, o4⟩ := oc
  dsimp only at *
  have N1 := hide n1; have HT := hide (fun k => hT.drewN k); have HC := hide hC
  unfold twoV
  clear n1 hT hC hl h hN h1 h2 hg hd hP hst
  go_enter Try.func29, Try.ntmps29
  go_wp2_with fail
  refine (unhide N1).mono ?_
  rintro e w1 ⟨rfl, hw1⟩
  rw [hw1]
  clear hw1
  go_wp2_with fail
  go_quiet (fail)
  go_wp2_with fail
  refine (unhide N2 _).mono ?_
  rintro e w2 ⟨rfl, hb2⟩
  have R1 := hide ((unhide HC).of_block (hb2.block b (unhide HC).lt))
  have R2 := hide ((unhide HT _).trans (Tnd.of_below hb2 (unhide HC).lt))
  have hf := fieldCase o1 o2 o3 o4 w2
  clear hb2
  go_wp2
  go_ret2
  exact ⟨rfl, unhide R1, unhide R2⟩
set_option maxHeartbeats 1000000 in
/-- it is there -/
theorem find_yes (b m1 m2 n cc q : Nat) (D : Dys) (t shop trace st day : Int) (g : Int → Int → Option Nat) (p : Pst) (c : Cse) (w : World) (h : ClrB w b D t m1 m2) (hN : NMap w m1 n cc g) (hm : m1 ≠ b) (h1 : InR shop) (h2 : InR trace) (hd : dayE t day = 0) (hg : g shop trace = some q) (hP : PayB w q p c) (hqb : q ≠ b)
    (hs : 0 ≤ c.since ∧ c.since ≤ 65535) (hw : 0 ≤ waitC D c.st ∧ waitC D c.st ≤ 65535) (hst : (onC D c day).st = st) :
    Calls Try.prog 29 #[.pointer (some ⟨b, 0, none⟩), twoV shop trace, .int .i64 st, .int .i64 day] w fun e w' => e = .returned (.tuple #[.pointer (some ⟨q, 0, none⟩), .int .i64 0]) ∧ ClrB w' b D day m1 m2 ∧ Tnd w w' b := by
  obtain ⟨W, n1, hT, hC, k0, k1, hl⟩ := find_told b m1 m2 n cc D t shop trace day g w h hN hm h1 h2 hd
  rw [hg] at hl
  have hl' : ∀ k, (Instr.lookup 64 (.map (some m1)) (.agg #[.int .i64 shop, .int .i64 trace]) false).run Try.prog (W.drewN k) = .ok (.pointer (some ⟨q, 0, none⟩)) (W.drewN k) := hl
  have N2 := hide (fun k => on_any b q D day day m1 m2 p c (W.drewN k) (hC.of_block rfl) ((hP.tnd hT hqb).of_block rfl) hs hw)
  obtain ⟨_, _, _, _, _, c5, _⟩ := hC.cells
  have hne : ((onC D c day).st != st) = false := by simpa using hst
  unfold caseV at N2
  generalize onC D c day = oc at *
  obtain ⟨o1, o2, o3, o4⟩ := oc
  dsimp only at *
  have N1 := hide n1; have HT := hide (fun k => hT.drewN k); have HC := hide hC
  unfold twoV
  clear n1 hT hC hl h hN h1 h2 hg hd hP hst
  go_enter Try.func29, Try.ntmps29
  go_wp2_with fail
  refine (unhide N1).mono ?_
  rintro e w1 ⟨rfl, hw1⟩
  rw [hw1]
  clear hw1
  go_wp2_with fail
  go_quiet (fail)
  go_wp2_with fail
  refine (unhide N2 _).mono ?_
  rintro e w2 ⟨rfl, hb2⟩
  have R1 := hide ((unhide HC).of_block (hb2.block b (unhide HC).lt))
  have R2 := hide ((unhide HT _).trans (Tnd.of_below hb2 (unhide HC).lt))
  have hf := fieldCase o1 o2 o3 o4 w2
  clear hb2
  go_wp2
  go_ret2
  exact ⟨rfl, unhide R1, unhide R2⟩
end Go.Proofs.Ytdameincehiieaa
