/- A card: whether its power went, what it tells, what an order does to its state. (Made by drafts/genCdC3.py.) -/
import Derived.Test.YtajkbkljonejnaaGreatDoorM17
namespace Go.Proofs.YtajkbkljonejnaaGreatDoor
open Go.RowKit
set_option linter.unusedVariables false
set_option linter.unusedSimpArgs false
set_option maxRecDepth 100000
section
variable {w w' : World} {B cb bb mb : Nat} {v : Value} {c : Cd}
theorem CdAt.at (h : CdAt w B cb bb mb v c) : w.cell? ⟨cb, 14, none⟩ = some (.pointer (some ⟨bb, 0, none⟩)) ∧ w.cell? ⟨cb, 15, none⟩ = some (.int .i64 c.tries) ∧ w.cell? ⟨cb, 12, none⟩ = some (.string c.K.key) ∧ w.cell? ⟨cb, 5, none⟩ = some (.int .i64 c.K.orders) := by
  have := h.box
  unfold cdL at this
  refine ⟨?_, ?_, ?_, ?_⟩ <;> simp [World.cell?, this]
theorem off_any (h : CdAt w B cb bb mb v c) : Calls Tryz.prog 29 #[.pointer (some ⟨cb, 0, none⟩)] w fun e w' => e = .returned (.bool c.M.off) ∧ w' = w := by
  obtain ⟨a1, _, _, _⟩ := h.at; have a2 := h.kto.cells.2; clear h
  go_enter Tryz.func29, Tryz.ntmps29
  go_wp2
  go_ret
  exact ⟨rfl, rfl⟩
theorem CdAt.told (h : CdAt w B cb bb mb v c) : w.cell? ⟨cb, 0, none⟩ = some (.int .i64 c.K.count) ∧ w.cell? ⟨cb, 1, none⟩ = some (.int .i64 c.K.last) ∧ w.cell? ⟨cb, 2, none⟩ = some (.int .i64 c.K.spent) ∧ w.cell? ⟨cb, 3, none⟩ = some (.int .i64 c.K.run) ∧ w.cell? ⟨cb, 4, none⟩ = some (.int .i64 c.K.left) ∧ w.cell? ⟨cb, 5, none⟩ = some (.int .i64 c.K.orders) ∧ w.cell? ⟨cb, 6, none⟩ = some (.bool c.K.blocked) ∧ w.cell? ⟨cb, 7, none⟩ = some (.bool c.K.owing) ∧ w.cell? ⟨cb, 8, none⟩ = some (.int .i64 c.K.purse) ∧ w.cell? ⟨cb, 9, none⟩ = some (.int .i64 c.K.one) ∧ w.cell? ⟨cb, 10, none⟩ = some (.int .i64 c.K.runs) ∧ w.cell? ⟨cb, 11, none⟩ = some (.int .i64 c.K.version) := by
  have := h.box
  unfold cdL at this
  refine ⟨?_, ?_, ?_, ?_, ?_, ?_, ?_, ?_, ?_, ?_, ?_, ?_⟩ <;> simp [World.cell?, this]
theorem tell_on (h : CdAt w B cb bb mb v c) (ho : c.M.off = false) : Calls Tryz.prog 9 #[.pointer (some ⟨cb, 0, none⟩)] w fun e w' => e = .returned (valT c.K) ∧ Below w.heap.size w w' := by
  obtain ⟨W1, hW1⟩ : ∃ W1, W1 = w.alloc (.cells #[.int .i64 0, .int .i64 0, .int .i64 0, .int .i64 0, .int .i64 0, .int .i64 0, .bool false, .bool false, .int .i64 0, .int .i64 0, .int .i64 0, .int .i64 0] 39) := ⟨_, rfl⟩
  have hb1 : Below w.heap.size w W1 := by rw [hW1]; exact (Below.refl _ _).alloc (Nat.le_refl _) _
  have hX : W1.heap[w.heap.size]? = some (.cells #[.int .i64 0, .int .i64 0, .int .i64 0, .int .i64 0, .int .i64 0, .int .i64 0, .bool false, .bool false, .int .i64 0, .int .i64 0, .int .i64 0, .int .i64 0] 39) := by rw [hW1]; exact heap_alloc_new _ _
  have N1 := hide (off_any (h.below hb1)); rw [ho] at N1; obtain ⟨a0, a1, a2, a3, a4, a5, a6, a7, a8, a9, a10, a11⟩ := (h.below hb1).told
  have z0 : W1.cell? ⟨w.heap.size, 0, none⟩ = some (.int .i64 0) := by simp [World.cell?, hX]
  have f0 : W1.frozen? ⟨w.heap.size, 0, none⟩ = false := by simp [World.frozen?, hX]
  have z1 : W1.cell? ⟨w.heap.size, 1, none⟩ = some (.int .i64 0) := by simp [World.cell?, hX]
  have f1 : W1.frozen? ⟨w.heap.size, 1, none⟩ = false := by simp [World.frozen?, hX]
  have z2 : W1.cell? ⟨w.heap.size, 2, none⟩ = some (.int .i64 0) := by simp [World.cell?, hX]
  have f2 : W1.frozen? ⟨w.heap.size, 2, none⟩ = false := by simp [World.frozen?, hX]
  have z3 : W1.cell? ⟨w.heap.size, 3, none⟩ = some (.int .i64 0) := by simp [World.cell?, hX]
  have f3 : W1.frozen? ⟨w.heap.size, 3, none⟩ = false := by simp [World.frozen?, hX]
  have z4 : W1.cell? ⟨w.heap.size, 4, none⟩ = some (.int .i64 0) := by simp [World.cell?, hX]
  have f4 : W1.frozen? ⟨w.heap.size, 4, none⟩ = false := by simp [World.frozen?, hX]
  have z5 : W1.cell? ⟨w.heap.size, 5, none⟩ = some (.int .i64 0) := by simp [World.cell?, hX]
  have f5 : W1.frozen? ⟨w.heap.size, 5, none⟩ = false := by simp [World.frozen?, hX]
  have z6 : W1.cell? ⟨w.heap.size, 6, none⟩ = some (.bool false) := by simp [World.cell?, hX]
  have f6 : W1.frozen? ⟨w.heap.size, 6, none⟩ = false := by simp [World.frozen?, hX]
  have z7 : W1.cell? ⟨w.heap.size, 7, none⟩ = some (.bool false) := by simp [World.cell?, hX]
  have f7 : W1.frozen? ⟨w.heap.size, 7, none⟩ = false := by simp [World.frozen?, hX]
  have z8 : W1.cell? ⟨w.heap.size, 8, none⟩ = some (.int .i64 0) := by simp [World.cell?, hX]
  have f8 : W1.frozen? ⟨w.heap.size, 8, none⟩ = false := by simp [World.frozen?, hX]
  have z9 : W1.cell? ⟨w.heap.size, 9, none⟩ = some (.int .i64 0) := by simp [World.cell?, hX]
  have f9 : W1.frozen? ⟨w.heap.size, 9, none⟩ = false := by simp [World.frozen?, hX]
  have z10 : W1.cell? ⟨w.heap.size, 10, none⟩ = some (.int .i64 0) := by simp [World.cell?, hX]
  have f10 : W1.frozen? ⟨w.heap.size, 10, none⟩ = false := by simp [World.frozen?, hX]
  have z11 : W1.cell? ⟨w.heap.size, 11, none⟩ = some (.int .i64 0) := by simp [World.cell?, hX]
  have f11 : W1.frozen? ⟨w.heap.size, 11, none⟩ = false := by simp [World.frozen?, hX]
  have HB := hide hb1; have HE : Hid (Below w.heap.size w ((((((((((((W1.setCell ⟨w.heap.size, 0, none⟩ (.int .i64 c.K.count)).setCell ⟨w.heap.size, 1, none⟩ (.int .i64 c.K.last)).setCell ⟨w.heap.size, 2, none⟩ (.int .i64 c.K.spent)).setCell ⟨w.heap.size, 3, none⟩ (.int .i64 c.K.run)).setCell ⟨w.heap.size, 4, none⟩ (.int .i64 c.K.left)).setCell ⟨w.heap.size, 5, none⟩ (.int .i64 c.K.orders)).setCell ⟨w.heap.size, 6, none⟩ (.bool c.K.blocked)).setCell ⟨w.heap.size, 7, none⟩ (.bool c.K.owing)).setCell ⟨w.heap.size, 8, none⟩ (.int .i64 c.K.purse)).setCell ⟨w.heap.size, 9, none⟩ (.int .i64 c.K.one)).setCell ⟨w.heap.size, 10, none⟩ (.int .i64 c.K.runs)).setCell ⟨w.heap.size, 11, none⟩ (.int .i64 c.K.version))) := hide ((((((((((((((unhide HB).setCell (p := ⟨w.heap.size, 0, none⟩) (Nat.le_refl _) _).setCell (p := ⟨w.heap.size, 1, none⟩) (Nat.le_refl _) _).setCell (p := ⟨w.heap.size, 2, none⟩) (Nat.le_refl _) _).setCell (p := ⟨w.heap.size, 3, none⟩) (Nat.le_refl _) _).setCell (p := ⟨w.heap.size, 4, none⟩) (Nat.le_refl _) _).setCell (p := ⟨w.heap.size, 5, none⟩) (Nat.le_refl _) _).setCell (p := ⟨w.heap.size, 6, none⟩) (Nat.le_refl _) _).setCell (p := ⟨w.heap.size, 7, none⟩) (Nat.le_refl _) _).setCell (p := ⟨w.heap.size, 8, none⟩) (Nat.le_refl _) _).setCell (p := ⟨w.heap.size, 9, none⟩) (Nat.le_refl _) _).setCell (p := ⟨w.heap.size, 10, none⟩) (Nat.le_refl _) _).setCell (p := ⟨w.heap.size, 11, none⟩) (Nat.le_refl _) _)); have HX := hide hX; have HW1 := hide hW1; clear h ho hb1 hX hW1 HB
  go_enter Tryz.func9, Tryz.ntmps9
  go_upto_region 1 with fail
  rw [← unhide HW1]
  go_wp2_with fail
  refine (unhide N1).mono ?_; rintro r y1 ⟨rfl, hy⟩; have hy' := hy.symm; subst hy'
  go_wp2
  refine bodyPost_ret (v := valT c.K) ?_ rfl ⟨rfl, unhide HE⟩
  simp [results, Tryz.results9, go_sem, World.cell?, World.setCell, Array.getElem?_modify, unhide HX, valT]
end
theorem casesO (n : Int) : n = 1 ∨ n = 2 ∨ n = 3 ∨ n = 4 ∨ n = 5 ∨ n = 6 ∨ n = 7 ∨ n = 8 ∨ (n ≠ 1 ∧ n ≠ 2 ∧ n ≠ 3 ∧ n ≠ 4 ∧ n ≠ 5 ∧ n ≠ 6 ∧ n ≠ 7 ∧ n ≠ 8) := by omega
structure OrW (w : World) (k : Ks) (x : XOrder) (g1 g2 g3 : Nat) (W : World) : Prop where
  x1 : W.heap[g1]? = some (.cells #[.int .i64 k.count, .int .i64 k.last, .int .i64 k.spent, .int .i64 k.run, .int .i64 k.left, .int .i64 k.orders, .bool k.blocked, .bool k.owing, .int .i64 k.purse, .int .i64 k.one, .int .i64 k.runs, .int .i64 k.version, .string k.key, .string k.pin] 60)
  x2 : W.heap[g2]? = some (.cells #[.int .i64 x.what, .int .i64 x.n, .string x.text] 94)
  x3 : W.heap[g3]? = some (.cells #[.int .i64 0, .int .i64 0, .int .i64 0, .int .i64 0, .int .i64 0, .int .i64 0, .bool false, .bool false, .int .i64 0, .int .i64 0, .int .i64 0, .int .i64 0, .string ⟨#[]⟩, .string ⟨#[]⟩] 60)
  b : Below w.heap.size w W
  l1 : w.heap.size ≤ g1
  l3 : w.heap.size ≤ g3
  n12 : ¬ g1 = g2
  n13 : ¬ g1 = g3
  n23 : ¬ g2 = g3
theorem orW_new (w : World) (k : Ks) (x : XOrder) : OrW w k x w.heap.size (w.heap.size + 1) (w.heap.size + 1 + 1) (((w.alloc (.cells #[.int .i64 k.count, .int .i64 k.last, .int .i64 k.spent, .int .i64 k.run, .int .i64 k.left, .int .i64 k.orders, .bool k.blocked, .bool k.owing, .int .i64 k.purse, .int .i64 k.one, .int .i64 k.runs, .int .i64 k.version, .string k.key, .string k.pin] 60)).alloc (.cells #[.int .i64 x.what, .int .i64 x.n, .string x.text] 94)).alloc (.cells #[.int .i64 0, .int .i64 0, .int .i64 0, .int .i64 0, .int .i64 0, .int .i64 0, .bool false, .bool false, .int .i64 0, .int .i64 0, .int .i64 0, .int .i64 0, .string ⟨#[]⟩, .string ⟨#[]⟩] 60)) := by
  refine ⟨?_, ?_, ?_, (((Below.refl _ _).alloc (Nat.le_refl _) _).alloc (by simp) _).alloc (by simp; omega) _, Nat.le_refl _, by omega, by omega, by omega, by omega⟩
  · rw [heap_alloc_oldK _ _ (by simp; omega), heap_alloc_oldK _ _ (by simp)]; exact heap_alloc_new _ _
  · rw [heap_alloc_oldK _ _ (by simp)]; have := heap_alloc_new (w.alloc (.cells #[.int .i64 k.count, .int .i64 k.last, .int .i64 k.spent, .int .i64 k.run, .int .i64 k.left, .int .i64 k.orders, .bool k.blocked, .bool k.owing, .int .i64 k.purse, .int .i64 k.one, .int .i64 k.runs, .int .i64 k.version, .string k.key, .string k.pin] 60)) (.cells #[.int .i64 x.what, .int .i64 x.n, .string x.text] 94); rw [World.size_alloc] at this; exact this
  · have := heap_alloc_new ((w.alloc (.cells #[.int .i64 k.count, .int .i64 k.last, .int .i64 k.spent, .int .i64 k.run, .int .i64 k.left, .int .i64 k.orders, .bool k.blocked, .bool k.owing, .int .i64 k.purse, .int .i64 k.one, .int .i64 k.runs, .int .i64 k.version, .string k.key, .string k.pin] 60)).alloc (.cells #[.int .i64 x.what, .int .i64 x.n, .string x.text] 94)) (.cells #[.int .i64 0, .int .i64 0, .int .i64 0, .int .i64 0, .int .i64 0, .int .i64 0, .bool false, .bool false, .int .i64 0, .int .i64 0, .int .i64 0, .int .i64 0, .string ⟨#[]⟩, .string ⟨#[]⟩] 60); rw [World.size_alloc, World.size_alloc] at this; exact this
end Go.Proofs.YtajkbkljonejnaaGreatDoor
namespace Go.Proofs.YtajkbkljonejnaaGreatDoor
open Go.RowKit
set_option linter.unusedVariables false
set_option linter.unusedSimpArgs false
set_option maxRecDepth 100000
set_option maxHeartbeats 4000000 in
theorem first_any (id pin key : ByteArray) (pu on ru tr ve : Int) (sp sq : ByteArray) (ao : Option Addr) (n cap : Nat) (w : World) :
    Calls Tryz.prog 16 #[.agg #[.string id, .string pin, .string key, .int .i64 pu, .int .i64 on, .int .i64 ru, .int .i64 tr, .int .i64 ve, .string sp, .string sq, .slice ao n cap]] w fun e w' => e = .returned (valK (firstK pin key pu on ru tr ve)) ∧ Below w.heap.size w w' := by
  obtain ⟨W2, hW2⟩ : ∃ W2, W2 = (w.alloc (.cells #[.string id, .string pin, .string key, .int .i64 pu, .int .i64 on, .int .i64 ru, .int .i64 tr, .int .i64 ve, .string sp, .string sq, .slice ao n cap] 26)).alloc zkO := ⟨_, rfl⟩
  have hs1 : (w.alloc (.cells #[.string id, .string pin, .string key, .int .i64 pu, .int .i64 on, .int .i64 ru, .int .i64 tr, .int .i64 ve, .string sp, .string sq, .slice ao n cap] 26)).heap.size = w.heap.size + 1 := by simp
  have hX1 : W2.heap[w.heap.size]? = some (.cells #[.string id, .string pin, .string key, .int .i64 pu, .int .i64 on, .int .i64 ru, .int .i64 tr, .int .i64 ve, .string sp, .string sq, .slice ao n cap] 26) := by rw [hW2, heap_alloc_oldK _ _ (by omega)]; exact heap_alloc_new _ _
  have hX2 : W2.heap[w.heap.size + 1]? = some zkO := by
    rw [hW2]; have := heap_alloc_new (w.alloc (.cells #[.string id, .string pin, .string key, .int .i64 pu, .int .i64 on, .int .i64 ru, .int .i64 tr, .int .i64 ve, .string sp, .string sq, .slice ao n cap] 26)) zkO; rw [hs1] at this; exact this
  have hB2 : Below w.heap.size w W2 := by rw [hW2]; exact ((Below.refl _ _).alloc (Nat.le_refl _) _).alloc (by simp) _
  have hs2 : W2.heap.size = w.heap.size + 1 + 1 := by rw [hW2]; simp
  obtain ⟨g1, hg1⟩ : ∃ g1, g1 = w.heap.size := ⟨_, rfl⟩; obtain ⟨g2, hg2⟩ : ∃ g2, g2 = w.heap.size + 1 := ⟨_, rfl⟩; obtain ⟨g3, hg3⟩ : ∃ g3, g3 = W2.heap.size := ⟨_, rfl⟩; obtain ⟨W3, hW3⟩ : ∃ W3, W3 = W2.alloc (.cells #[.int .i64 0, .int .i64 0, .int .i64 0, .int .i64 0, .int .i64 tr, .int .i64 0, .bool false, .bool false, .int .i64 pu, .int .i64 on, .int .i64 ru, .int .i64 ve] 39) := ⟨_, rfl⟩; rw [← hg1] at hX1; rw [← hg2] at hX2
  unfold zkO at hX2 hW2
  have y1 : W3.heap[g1]? = some (.cells #[.string id, .string pin, .string key, .int .i64 pu, .int .i64 on, .int .i64 ru, .int .i64 tr, .int .i64 ve, .string sp, .string sq, .slice ao n cap] 26) := by rw [hW3, heap_alloc_oldK _ _ (by omega)]; exact hX1
  have y2 : W3.heap[g2]? = some (.cells #[.int .i64 0, .int .i64 0, .int .i64 0, .int .i64 0, .int .i64 0, .int .i64 0, .bool false, .bool false, .int .i64 0, .int .i64 0, .int .i64 0, .int .i64 0, .string ⟨#[]⟩, .string ⟨#[]⟩] 60) := by rw [hW3, heap_alloc_oldK _ _ (by omega)]; exact hX2
  have y3 : W3.heap[g3]? = some (.cells #[.int .i64 0, .int .i64 0, .int .i64 0, .int .i64 0, .int .i64 tr, .int .i64 0, .bool false, .bool false, .int .i64 pu, .int .i64 on, .int .i64 ru, .int .i64 ve] 39) := by rw [hW3, hg3]; exact heap_alloc_new _ _
  have hB3 : Below w.heap.size w W3 := by rw [hW3]; exact hB2.alloc hB2.size _
  have l2 : w.heap.size ≤ g2 := by omega
  have a0 : W2.cell? ⟨g1, 0, none⟩ = some (.string id) := by simp [World.cell?, hX1]
  have a1 : W2.cell? ⟨g1, 1, none⟩ = some (.string pin) := by simp [World.cell?, hX1]
  have a2 : W2.cell? ⟨g1, 2, none⟩ = some (.string key) := by simp [World.cell?, hX1]
  have a3 : W2.cell? ⟨g1, 3, none⟩ = some (.int .i64 pu) := by simp [World.cell?, hX1]
  have a4 : W2.cell? ⟨g1, 4, none⟩ = some (.int .i64 on) := by simp [World.cell?, hX1]
  have a5 : W2.cell? ⟨g1, 5, none⟩ = some (.int .i64 ru) := by simp [World.cell?, hX1]
  have a6 : W2.cell? ⟨g1, 6, none⟩ = some (.int .i64 tr) := by simp [World.cell?, hX1]
  have a7 : W2.cell? ⟨g1, 7, none⟩ = some (.int .i64 ve) := by simp [World.cell?, hX1]
  have a8 : W2.cell? ⟨g1, 8, none⟩ = some (.string sp) := by simp [World.cell?, hX1]
  have a9 : W2.cell? ⟨g1, 9, none⟩ = some (.string sq) := by simp [World.cell?, hX1]
  have a10 : W2.cell? ⟨g1, 10, none⟩ = some (.slice ao n cap) := by simp [World.cell?, hX1]
  have b0 : W3.cell? ⟨g1, 0, none⟩ = some (.string id) := by simp [World.cell?, y1]
  have b1 : W3.cell? ⟨g1, 1, none⟩ = some (.string pin) := by simp [World.cell?, y1]
  have b2 : W3.cell? ⟨g1, 2, none⟩ = some (.string key) := by simp [World.cell?, y1]
  have b3 : W3.cell? ⟨g1, 3, none⟩ = some (.int .i64 pu) := by simp [World.cell?, y1]
  have b4 : W3.cell? ⟨g1, 4, none⟩ = some (.int .i64 on) := by simp [World.cell?, y1]
  have b5 : W3.cell? ⟨g1, 5, none⟩ = some (.int .i64 ru) := by simp [World.cell?, y1]
  have b6 : W3.cell? ⟨g1, 6, none⟩ = some (.int .i64 tr) := by simp [World.cell?, y1]
  have b7 : W3.cell? ⟨g1, 7, none⟩ = some (.int .i64 ve) := by simp [World.cell?, y1]
  have b8 : W3.cell? ⟨g1, 8, none⟩ = some (.string sp) := by simp [World.cell?, y1]
  have b9 : W3.cell? ⟨g1, 9, none⟩ = some (.string sq) := by simp [World.cell?, y1]
  have b10 : W3.cell? ⟨g1, 10, none⟩ = some (.slice ao n cap) := by simp [World.cell?, y1]
  have d0 : W3.cell? ⟨g3, 0, none⟩ = some (.int .i64 0) := by simp [World.cell?, y3]
  have d1 : W3.cell? ⟨g3, 1, none⟩ = some (.int .i64 0) := by simp [World.cell?, y3]
  have d2 : W3.cell? ⟨g3, 2, none⟩ = some (.int .i64 0) := by simp [World.cell?, y3]
  have d3 : W3.cell? ⟨g3, 3, none⟩ = some (.int .i64 0) := by simp [World.cell?, y3]
  have d4 : W3.cell? ⟨g3, 4, none⟩ = some (.int .i64 tr) := by simp [World.cell?, y3]
  have d5 : W3.cell? ⟨g3, 5, none⟩ = some (.int .i64 0) := by simp [World.cell?, y3]
  have d6 : W3.cell? ⟨g3, 6, none⟩ = some (.bool false) := by simp [World.cell?, y3]
  have d7 : W3.cell? ⟨g3, 7, none⟩ = some (.bool false) := by simp [World.cell?, y3]
  have d8 : W3.cell? ⟨g3, 8, none⟩ = some (.int .i64 pu) := by simp [World.cell?, y3]
  have d9 : W3.cell? ⟨g3, 9, none⟩ = some (.int .i64 on) := by simp [World.cell?, y3]
  have d10 : W3.cell? ⟨g3, 10, none⟩ = some (.int .i64 ru) := by simp [World.cell?, y3]
  have d11 : W3.cell? ⟨g3, 11, none⟩ = some (.int .i64 ve) := by simp [World.cell?, y3]
  have z0 : W3.cell? ⟨g2, 0, none⟩ = some (.int .i64 0) := by simp [World.cell?, y2]
  have f0 : W3.frozen? ⟨g2, 0, none⟩ = false := by simp [World.frozen?, y2]
  have z1 : W3.cell? ⟨g2, 1, none⟩ = some (.int .i64 0) := by simp [World.cell?, y2]
  have f1 : W3.frozen? ⟨g2, 1, none⟩ = false := by simp [World.frozen?, y2]
  have z2 : W3.cell? ⟨g2, 2, none⟩ = some (.int .i64 0) := by simp [World.cell?, y2]
  have f2 : W3.frozen? ⟨g2, 2, none⟩ = false := by simp [World.frozen?, y2]
  have z3 : W3.cell? ⟨g2, 3, none⟩ = some (.int .i64 0) := by simp [World.cell?, y2]
  have f3 : W3.frozen? ⟨g2, 3, none⟩ = false := by simp [World.frozen?, y2]
  have z4 : W3.cell? ⟨g2, 4, none⟩ = some (.int .i64 0) := by simp [World.cell?, y2]
  have f4 : W3.frozen? ⟨g2, 4, none⟩ = false := by simp [World.frozen?, y2]
  have z5 : W3.cell? ⟨g2, 5, none⟩ = some (.int .i64 0) := by simp [World.cell?, y2]
  have f5 : W3.frozen? ⟨g2, 5, none⟩ = false := by simp [World.frozen?, y2]
  have z6 : W3.cell? ⟨g2, 6, none⟩ = some (.bool false) := by simp [World.cell?, y2]
  have f6 : W3.frozen? ⟨g2, 6, none⟩ = false := by simp [World.frozen?, y2]
  have z7 : W3.cell? ⟨g2, 7, none⟩ = some (.bool false) := by simp [World.cell?, y2]
  have f7 : W3.frozen? ⟨g2, 7, none⟩ = false := by simp [World.frozen?, y2]
  have z8 : W3.cell? ⟨g2, 8, none⟩ = some (.int .i64 0) := by simp [World.cell?, y2]
  have f8 : W3.frozen? ⟨g2, 8, none⟩ = false := by simp [World.frozen?, y2]
  have z9 : W3.cell? ⟨g2, 9, none⟩ = some (.int .i64 0) := by simp [World.cell?, y2]
  have f9 : W3.frozen? ⟨g2, 9, none⟩ = false := by simp [World.frozen?, y2]
  have z10 : W3.cell? ⟨g2, 10, none⟩ = some (.int .i64 0) := by simp [World.cell?, y2]
  have f10 : W3.frozen? ⟨g2, 10, none⟩ = false := by simp [World.frozen?, y2]
  have z11 : W3.cell? ⟨g2, 11, none⟩ = some (.int .i64 0) := by simp [World.cell?, y2]
  have f11 : W3.frozen? ⟨g2, 11, none⟩ = false := by simp [World.frozen?, y2]
  have z12 : W3.cell? ⟨g2, 12, none⟩ = some (.string ⟨#[]⟩) := by simp [World.cell?, y2]
  have f12 : W3.frozen? ⟨g2, 12, none⟩ = false := by simp [World.frozen?, y2]
  have z13 : W3.cell? ⟨g2, 13, none⟩ = some (.string ⟨#[]⟩) := by simp [World.cell?, y2]
  have f13 : W3.frozen? ⟨g2, 13, none⟩ = false := by simp [World.frozen?, y2]
  have HE : Hid (Below w.heap.size w ((((((((((((((W3.setCell ⟨g2, 0, none⟩ (.int .i64 0)).setCell ⟨g2, 1, none⟩ (.int .i64 0)).setCell ⟨g2, 2, none⟩ (.int .i64 0)).setCell ⟨g2, 3, none⟩ (.int .i64 0)).setCell ⟨g2, 4, none⟩ (.int .i64 tr)).setCell ⟨g2, 5, none⟩ (.int .i64 0)).setCell ⟨g2, 6, none⟩ (.bool false)).setCell ⟨g2, 7, none⟩ (.bool false)).setCell ⟨g2, 8, none⟩ (.int .i64 pu)).setCell ⟨g2, 9, none⟩ (.int .i64 on)).setCell ⟨g2, 10, none⟩ (.int .i64 ru)).setCell ⟨g2, 11, none⟩ (.int .i64 ve)).setCell ⟨g2, 12, none⟩ (.string key)).setCell ⟨g2, 13, none⟩ (.string pin))) := hide (((((((((((((((hB3.setCell (p := ⟨g2, 0, none⟩) l2 _).setCell (p := ⟨g2, 1, none⟩) l2 _).setCell (p := ⟨g2, 2, none⟩) l2 _).setCell (p := ⟨g2, 3, none⟩) l2 _).setCell (p := ⟨g2, 4, none⟩) l2 _).setCell (p := ⟨g2, 5, none⟩) l2 _).setCell (p := ⟨g2, 6, none⟩) l2 _).setCell (p := ⟨g2, 7, none⟩) l2 _).setCell (p := ⟨g2, 8, none⟩) l2 _).setCell (p := ⟨g2, 9, none⟩) l2 _).setCell (p := ⟨g2, 10, none⟩) l2 _).setCell (p := ⟨g2, 11, none⟩) l2 _).setCell (p := ⟨g2, 12, none⟩) l2 _).setCell (p := ⟨g2, 13, none⟩) l2 _)); have HW2 := hide hW2; have HW3 := hide hW3; have H1 := hide hg1; have H2 := hide hg2; have H3 := hide hg3; have Y2 := hide y2; clear hs1 hX1 hX2 hB2 hs2 hW2 hW3 hg1 hg2 hg3 y1 y2 y3 hB3 l2
  go_enter Tryz.func16, Tryz.ntmps16
  go_upto_region 1 with fail
  rw [← unhide HW2]; rw [← unhide H2, ← unhide H1]
  go_upto_region 2 with fail
  rw [← unhide HW3, ← unhide H3]; clear a0 a1 a2 a3 a4 a5 a6 a7 a8 a9 a10
  go_wp2
  refine bodyPost_ret (v := valK (firstK pin key pu on ru tr ve)) ?_ rfl ⟨rfl, unhide HE⟩
  simp [results, Tryz.results16, go_sem, World.cell?, World.setCell, Array.getElem?_modify, unhide Y2, valK, kvL, firstK]
end Go.Proofs.YtajkbkljonejnaaGreatDoor
