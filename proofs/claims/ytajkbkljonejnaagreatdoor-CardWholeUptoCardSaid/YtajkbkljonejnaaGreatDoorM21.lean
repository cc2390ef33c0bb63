/- What an order does to a card's state, case by case. (Made by drafts/genCdC3.py.) -/
import Derived.Test.YtajkbkljonejnaaGreatDoorM18
namespace Go.Proofs.YtajkbkljonejnaaGreatDoor
open Go.RowKit
set_option linter.unusedVariables false
set_option linter.unusedSimpArgs false
set_option maxRecDepth 100000
set_option maxHeartbeats 8000000 in
theorem ordered_8 (tr : Int) (k : Ks) (x : XOrder) (w : World) (hx : x.what = 8) : Calls Tryz.prog 33 #[valK k, .agg #[.int .i64 x.what, .int .i64 x.n, .string x.text], .int .i64 tr] w fun e w' => e = .returned (valK (orderedK tr k x)) ∧ Below w.heap.size w w' := by
  obtain ⟨W, hW⟩ : ∃ W, W = (((w.alloc (.cells #[.int .i64 k.count, .int .i64 k.last, .int .i64 k.spent, .int .i64 k.run, .int .i64 k.left, .int .i64 k.orders, .bool k.blocked, .bool k.owing, .int .i64 k.purse, .int .i64 k.one, .int .i64 k.runs, .int .i64 k.version, .string k.key, .string k.pin] 60)).alloc (.cells #[.int .i64 x.what, .int .i64 x.n, .string x.text] 94)).alloc (.cells #[.int .i64 0, .int .i64 0, .int .i64 0, .int .i64 0, .int .i64 0, .int .i64 0, .bool false, .bool false, .int .i64 0, .int .i64 0, .int .i64 0, .int .i64 0, .string ⟨#[]⟩, .string ⟨#[]⟩] 60)) := ⟨_, rfl⟩; have hO := orW_new w k x; rw [← hW] at hO; obtain ⟨g1, hg1⟩ : ∃ g1, g1 = w.heap.size := ⟨_, rfl⟩; obtain ⟨g2, hg2⟩ : ∃ g2, g2 = w.heap.size + 1 := ⟨_, rfl⟩; obtain ⟨g3, hg3⟩ : ∃ g3, g3 = w.heap.size + 1 + 1 := ⟨_, rfl⟩; rw [← hg3, ← hg2, ← hg1] at hO; obtain ⟨x1, x2, x3, hb, l1, l3, n12, n13, n23⟩ := hO
  have c0 : W.cell? ⟨g2, 0, none⟩ = some (.int .i64 x.what) := by simp [World.cell?, x2]
  have c1 : W.cell? ⟨g2, 1, none⟩ = some (.int .i64 x.n) := by simp [World.cell?, x2]
  have c2 : W.cell? ⟨g2, 2, none⟩ = some (.string x.text) := by simp [World.cell?, x2]
  have a0 : W.cell? ⟨g1, 0, none⟩ = some (.int .i64 k.count) := by simp [World.cell?, x1]
  have z0 : W.cell? ⟨g3, 0, none⟩ = some (.int .i64 0) := by simp [World.cell?, x3]
  have d0 : W.frozen? ⟨g3, 0, none⟩ = false := by simp [World.frozen?, x3]
  have a1 : W.cell? ⟨g1, 1, none⟩ = some (.int .i64 k.last) := by simp [World.cell?, x1]
  have z1 : W.cell? ⟨g3, 1, none⟩ = some (.int .i64 0) := by simp [World.cell?, x3]
  have d1 : W.frozen? ⟨g3, 1, none⟩ = false := by simp [World.frozen?, x3]
  have a2 : W.cell? ⟨g1, 2, none⟩ = some (.int .i64 k.spent) := by simp [World.cell?, x1]
  have z2 : W.cell? ⟨g3, 2, none⟩ = some (.int .i64 0) := by simp [World.cell?, x3]
  have d2 : W.frozen? ⟨g3, 2, none⟩ = false := by simp [World.frozen?, x3]
  have a3 : W.cell? ⟨g1, 3, none⟩ = some (.int .i64 k.run) := by simp [World.cell?, x1]
  have z3 : W.cell? ⟨g3, 3, none⟩ = some (.int .i64 0) := by simp [World.cell?, x3]
  have d3 : W.frozen? ⟨g3, 3, none⟩ = false := by simp [World.frozen?, x3]
  have a4 : W.cell? ⟨g1, 4, none⟩ = some (.int .i64 k.left) := by simp [World.cell?, x1]
  have z4 : W.cell? ⟨g3, 4, none⟩ = some (.int .i64 0) := by simp [World.cell?, x3]
  have d4 : W.frozen? ⟨g3, 4, none⟩ = false := by simp [World.frozen?, x3]
  have a5 : W.cell? ⟨g1, 5, none⟩ = some (.int .i64 k.orders) := by simp [World.cell?, x1]
  have z5 : W.cell? ⟨g3, 5, none⟩ = some (.int .i64 0) := by simp [World.cell?, x3]
  have d5 : W.frozen? ⟨g3, 5, none⟩ = false := by simp [World.frozen?, x3]
  have a6 : W.cell? ⟨g1, 6, none⟩ = some (.bool k.blocked) := by simp [World.cell?, x1]
  have z6 : W.cell? ⟨g3, 6, none⟩ = some (.bool false) := by simp [World.cell?, x3]
  have d6 : W.frozen? ⟨g3, 6, none⟩ = false := by simp [World.frozen?, x3]
  have a7 : W.cell? ⟨g1, 7, none⟩ = some (.bool k.owing) := by simp [World.cell?, x1]
  have z7 : W.cell? ⟨g3, 7, none⟩ = some (.bool false) := by simp [World.cell?, x3]
  have d7 : W.frozen? ⟨g3, 7, none⟩ = false := by simp [World.frozen?, x3]
  have a8 : W.cell? ⟨g1, 8, none⟩ = some (.int .i64 k.purse) := by simp [World.cell?, x1]
  have z8 : W.cell? ⟨g3, 8, none⟩ = some (.int .i64 0) := by simp [World.cell?, x3]
  have d8 : W.frozen? ⟨g3, 8, none⟩ = false := by simp [World.frozen?, x3]
  have a9 : W.cell? ⟨g1, 9, none⟩ = some (.int .i64 k.one) := by simp [World.cell?, x1]
  have z9 : W.cell? ⟨g3, 9, none⟩ = some (.int .i64 0) := by simp [World.cell?, x3]
  have d9 : W.frozen? ⟨g3, 9, none⟩ = false := by simp [World.frozen?, x3]
  have a10 : W.cell? ⟨g1, 10, none⟩ = some (.int .i64 k.runs) := by simp [World.cell?, x1]
  have z10 : W.cell? ⟨g3, 10, none⟩ = some (.int .i64 0) := by simp [World.cell?, x3]
  have d10 : W.frozen? ⟨g3, 10, none⟩ = false := by simp [World.frozen?, x3]
  have a11 : W.cell? ⟨g1, 11, none⟩ = some (.int .i64 k.version) := by simp [World.cell?, x1]
  have z11 : W.cell? ⟨g3, 11, none⟩ = some (.int .i64 0) := by simp [World.cell?, x3]
  have d11 : W.frozen? ⟨g3, 11, none⟩ = false := by simp [World.frozen?, x3]
  have a12 : W.cell? ⟨g1, 12, none⟩ = some (.string k.key) := by simp [World.cell?, x1]
  have z12 : W.cell? ⟨g3, 12, none⟩ = some (.string ⟨#[]⟩) := by simp [World.cell?, x3]
  have d12 : W.frozen? ⟨g3, 12, none⟩ = false := by simp [World.frozen?, x3]
  have a13 : W.cell? ⟨g1, 13, none⟩ = some (.string k.pin) := by simp [World.cell?, x1]
  have f13 : W.frozen? ⟨g1, 13, none⟩ = false := by simp [World.frozen?, x1]
  have z13 : W.cell? ⟨g3, 13, none⟩ = some (.string ⟨#[]⟩) := by simp [World.cell?, x3]
  have d13 : W.frozen? ⟨g3, 13, none⟩ = false := by simp [World.frozen?, x3]
  have HW := hide hW; have HB := hide hb; have L1 := hide l1; have L3 := hide l3; have H1 := hide hg1; have H2 := hide hg2; have H3 := hide hg3; have X3 := hide x3; have X1 := hide x1; clear hW hb l1 l3 hg1 hg2 hg3 x1 x2 x3; have HE : Hid (Below w.heap.size w (((((((((((((((W.setCell ⟨g1, 13, none⟩ (.string x.text)).setCell ⟨g3, 0, none⟩ (.int .i64 k.count)).setCell ⟨g3, 1, none⟩ (.int .i64 k.last)).setCell ⟨g3, 2, none⟩ (.int .i64 k.spent)).setCell ⟨g3, 3, none⟩ (.int .i64 k.run)).setCell ⟨g3, 4, none⟩ (.int .i64 k.left)).setCell ⟨g3, 5, none⟩ (.int .i64 k.orders)).setCell ⟨g3, 6, none⟩ (.bool k.blocked)).setCell ⟨g3, 7, none⟩ (.bool k.owing)).setCell ⟨g3, 8, none⟩ (.int .i64 k.purse)).setCell ⟨g3, 9, none⟩ (.int .i64 k.one)).setCell ⟨g3, 10, none⟩ (.int .i64 k.runs)).setCell ⟨g3, 11, none⟩ (.int .i64 k.version)).setCell ⟨g3, 12, none⟩ (.string k.key)).setCell ⟨g3, 13, none⟩ (.string x.text))) := hide (((((((((((((((((unhide HB).setCell (p := ⟨g1, 13, none⟩) (unhide L1) _).setCell (p := ⟨g3, 0, none⟩) (unhide L3) _).setCell (p := ⟨g3, 1, none⟩) (unhide L3) _).setCell (p := ⟨g3, 2, none⟩) (unhide L3) _).setCell (p := ⟨g3, 3, none⟩) (unhide L3) _).setCell (p := ⟨g3, 4, none⟩) (unhide L3) _).setCell (p := ⟨g3, 5, none⟩) (unhide L3) _).setCell (p := ⟨g3, 6, none⟩) (unhide L3) _).setCell (p := ⟨g3, 7, none⟩) (unhide L3) _).setCell (p := ⟨g3, 8, none⟩) (unhide L3) _).setCell (p := ⟨g3, 9, none⟩) (unhide L3) _).setCell (p := ⟨g3, 10, none⟩) (unhide L3) _).setCell (p := ⟨g3, 11, none⟩) (unhide L3) _).setCell (p := ⟨g3, 12, none⟩) (unhide L3) _).setCell (p := ⟨g3, 13, none⟩) (unhide L3) _))
  have hk : orderedK tr k x = ⟨k.count, k.last, k.spent, k.run, k.left, k.orders, k.blocked, k.owing, k.purse, k.one, k.runs, k.version, k.key, x.text⟩ := by unfold orderedK; rw [if_neg (by omega), if_neg (by omega), if_neg (by omega), if_neg (by omega), if_neg (by omega), if_neg (by omega), if_neg (by omega), if_pos hx]
  rw [hk]; have HK := hide hk; clear hk L1 L3 HB; rw [hx] at c0; clear hx
  go_enter Tryz.func33, Tryz.ntmps33
  unfold valK kvL
  go_upto_region 1 with fail
  rw [← unhide HW]; rw [← unhide H3, ← unhide H2, ← unhide H1]; clear HW
  go_wp2
  refine bodyPost_ret (v := valK (⟨k.count, k.last, k.spent, k.run, k.left, k.orders, k.blocked, k.owing, k.purse, k.one, k.runs, k.version, k.key, x.text⟩)) ?_ rfl ⟨rfl, unhide HE⟩
  simp [results, Tryz.results33, go_sem, World.cell?, World.setCell, Array.getElem?_modify, show W.drew.heap = W.heap from rfl, unhide X3, n13, n12, n23, Ne.symm n13, valK, kvL]
set_option maxHeartbeats 8000000 in
theorem ordered_0 (tr : Int) (k : Ks) (x : XOrder) (w : World) (hx : x.what ≠ 1 ∧ x.what ≠ 2 ∧ x.what ≠ 3 ∧ x.what ≠ 4 ∧ x.what ≠ 5 ∧ x.what ≠ 6 ∧ x.what ≠ 7 ∧ x.what ≠ 8) : Calls Tryz.prog 33 #[valK k, .agg #[.int .i64 x.what, .int .i64 x.n, .string x.text], .int .i64 tr] w fun e w' => e = .returned (valK (orderedK tr k x)) ∧ Below w.heap.size w w' := by
  obtain ⟨W, hW⟩ : ∃ W, W = (((w.alloc (.cells #[.int .i64 k.count, .int .i64 k.last, .int .i64 k.spent, .int .i64 k.run, .int .i64 k.left, .int .i64 k.orders, .bool k.blocked, .bool k.owing, .int .i64 k.purse, .int .i64 k.one, .int .i64 k.runs, .int .i64 k.version, .string k.key, .string k.pin] 60)).alloc (.cells #[.int .i64 x.what, .int .i64 x.n, .string x.text] 94)).alloc (.cells #[.int .i64 0, .int .i64 0, .int .i64 0, .int .i64 0, .int .i64 0, .int .i64 0, .bool false, .bool false, .int .i64 0, .int .i64 0, .int .i64 0, .int .i64 0, .string ⟨#[]⟩, .string ⟨#[]⟩] 60)) := ⟨_, rfl⟩; have hO := orW_new w k x; rw [← hW] at hO; obtain ⟨g1, hg1⟩ : ∃ g1, g1 = w.heap.size := ⟨_, rfl⟩; obtain ⟨g2, hg2⟩ : ∃ g2, g2 = w.heap.size + 1 := ⟨_, rfl⟩; obtain ⟨g3, hg3⟩ : ∃ g3, g3 = w.heap.size + 1 + 1 := ⟨_, rfl⟩; rw [← hg3, ← hg2, ← hg1] at hO; obtain ⟨x1, x2, x3, hb, l1, l3, n12, n13, n23⟩ := hO
  have c0 : W.cell? ⟨g2, 0, none⟩ = some (.int .i64 x.what) := by simp [World.cell?, x2]
  have c1 : W.cell? ⟨g2, 1, none⟩ = some (.int .i64 x.n) := by simp [World.cell?, x2]
  have c2 : W.cell? ⟨g2, 2, none⟩ = some (.string x.text) := by simp [World.cell?, x2]
  have a0 : W.cell? ⟨g1, 0, none⟩ = some (.int .i64 k.count) := by simp [World.cell?, x1]
  have z0 : W.cell? ⟨g3, 0, none⟩ = some (.int .i64 0) := by simp [World.cell?, x3]
  have d0 : W.frozen? ⟨g3, 0, none⟩ = false := by simp [World.frozen?, x3]
  have a1 : W.cell? ⟨g1, 1, none⟩ = some (.int .i64 k.last) := by simp [World.cell?, x1]
  have z1 : W.cell? ⟨g3, 1, none⟩ = some (.int .i64 0) := by simp [World.cell?, x3]
  have d1 : W.frozen? ⟨g3, 1, none⟩ = false := by simp [World.frozen?, x3]
  have a2 : W.cell? ⟨g1, 2, none⟩ = some (.int .i64 k.spent) := by simp [World.cell?, x1]
  have z2 : W.cell? ⟨g3, 2, none⟩ = some (.int .i64 0) := by simp [World.cell?, x3]
  have d2 : W.frozen? ⟨g3, 2, none⟩ = false := by simp [World.frozen?, x3]
  have a3 : W.cell? ⟨g1, 3, none⟩ = some (.int .i64 k.run) := by simp [World.cell?, x1]
  have z3 : W.cell? ⟨g3, 3, none⟩ = some (.int .i64 0) := by simp [World.cell?, x3]
  have d3 : W.frozen? ⟨g3, 3, none⟩ = false := by simp [World.frozen?, x3]
  have a4 : W.cell? ⟨g1, 4, none⟩ = some (.int .i64 k.left) := by simp [World.cell?, x1]
  have z4 : W.cell? ⟨g3, 4, none⟩ = some (.int .i64 0) := by simp [World.cell?, x3]
  have d4 : W.frozen? ⟨g3, 4, none⟩ = false := by simp [World.frozen?, x3]
  have a5 : W.cell? ⟨g1, 5, none⟩ = some (.int .i64 k.orders) := by simp [World.cell?, x1]
  have z5 : W.cell? ⟨g3, 5, none⟩ = some (.int .i64 0) := by simp [World.cell?, x3]
  have d5 : W.frozen? ⟨g3, 5, none⟩ = false := by simp [World.frozen?, x3]
  have a6 : W.cell? ⟨g1, 6, none⟩ = some (.bool k.blocked) := by simp [World.cell?, x1]
  have z6 : W.cell? ⟨g3, 6, none⟩ = some (.bool false) := by simp [World.cell?, x3]
  have d6 : W.frozen? ⟨g3, 6, none⟩ = false := by simp [World.frozen?, x3]
  have a7 : W.cell? ⟨g1, 7, none⟩ = some (.bool k.owing) := by simp [World.cell?, x1]
  have z7 : W.cell? ⟨g3, 7, none⟩ = some (.bool false) := by simp [World.cell?, x3]
  have d7 : W.frozen? ⟨g3, 7, none⟩ = false := by simp [World.frozen?, x3]
  have a8 : W.cell? ⟨g1, 8, none⟩ = some (.int .i64 k.purse) := by simp [World.cell?, x1]
  have z8 : W.cell? ⟨g3, 8, none⟩ = some (.int .i64 0) := by simp [World.cell?, x3]
  have d8 : W.frozen? ⟨g3, 8, none⟩ = false := by simp [World.frozen?, x3]
  have a9 : W.cell? ⟨g1, 9, none⟩ = some (.int .i64 k.one) := by simp [World.cell?, x1]
  have z9 : W.cell? ⟨g3, 9, none⟩ = some (.int .i64 0) := by simp [World.cell?, x3]
  have d9 : W.frozen? ⟨g3, 9, none⟩ = false := by simp [World.frozen?, x3]
  have a10 : W.cell? ⟨g1, 10, none⟩ = some (.int .i64 k.runs) := by simp [World.cell?, x1]
  have z10 : W.cell? ⟨g3, 10, none⟩ = some (.int .i64 0) := by simp [World.cell?, x3]
  have d10 : W.frozen? ⟨g3, 10, none⟩ = false := by simp [World.frozen?, x3]
  have a11 : W.cell? ⟨g1, 11, none⟩ = some (.int .i64 k.version) := by simp [World.cell?, x1]
  have z11 : W.cell? ⟨g3, 11, none⟩ = some (.int .i64 0) := by simp [World.cell?, x3]
  have d11 : W.frozen? ⟨g3, 11, none⟩ = false := by simp [World.frozen?, x3]
  have a12 : W.cell? ⟨g1, 12, none⟩ = some (.string k.key) := by simp [World.cell?, x1]
  have z12 : W.cell? ⟨g3, 12, none⟩ = some (.string ⟨#[]⟩) := by simp [World.cell?, x3]
  have d12 : W.frozen? ⟨g3, 12, none⟩ = false := by simp [World.frozen?, x3]
  have a13 : W.cell? ⟨g1, 13, none⟩ = some (.string k.pin) := by simp [World.cell?, x1]
  have z13 : W.cell? ⟨g3, 13, none⟩ = some (.string ⟨#[]⟩) := by simp [World.cell?, x3]
  have d13 : W.frozen? ⟨g3, 13, none⟩ = false := by simp [World.frozen?, x3]
  have HW := hide hW; have HB := hide hb; have L1 := hide l1; have L3 := hide l3; have H1 := hide hg1; have H2 := hide hg2; have H3 := hide hg3; have X3 := hide x3; have X1 := hide x1; clear hW hb l1 l3 hg1 hg2 hg3 x1 x2 x3; have HE : Hid (Below w.heap.size w ((((((((((((((W.setCell ⟨g3, 0, none⟩ (.int .i64 k.count)).setCell ⟨g3, 1, none⟩ (.int .i64 k.last)).setCell ⟨g3, 2, none⟩ (.int .i64 k.spent)).setCell ⟨g3, 3, none⟩ (.int .i64 k.run)).setCell ⟨g3, 4, none⟩ (.int .i64 k.left)).setCell ⟨g3, 5, none⟩ (.int .i64 k.orders)).setCell ⟨g3, 6, none⟩ (.bool k.blocked)).setCell ⟨g3, 7, none⟩ (.bool k.owing)).setCell ⟨g3, 8, none⟩ (.int .i64 k.purse)).setCell ⟨g3, 9, none⟩ (.int .i64 k.one)).setCell ⟨g3, 10, none⟩ (.int .i64 k.runs)).setCell ⟨g3, 11, none⟩ (.int .i64 k.version)).setCell ⟨g3, 12, none⟩ (.string k.key)).setCell ⟨g3, 13, none⟩ (.string k.pin))) := hide ((((((((((((((((unhide HB).setCell (p := ⟨g3, 0, none⟩) (unhide L3) _).setCell (p := ⟨g3, 1, none⟩) (unhide L3) _).setCell (p := ⟨g3, 2, none⟩) (unhide L3) _).setCell (p := ⟨g3, 3, none⟩) (unhide L3) _).setCell (p := ⟨g3, 4, none⟩) (unhide L3) _).setCell (p := ⟨g3, 5, none⟩) (unhide L3) _).setCell (p := ⟨g3, 6, none⟩) (unhide L3) _).setCell (p := ⟨g3, 7, none⟩) (unhide L3) _).setCell (p := ⟨g3, 8, none⟩) (unhide L3) _).setCell (p := ⟨g3, 9, none⟩) (unhide L3) _).setCell (p := ⟨g3, 10, none⟩) (unhide L3) _).setCell (p := ⟨g3, 11, none⟩) (unhide L3) _).setCell (p := ⟨g3, 12, none⟩) (unhide L3) _).setCell (p := ⟨g3, 13, none⟩) (unhide L3) _)); obtain ⟨q1, q2, q3, q4, q5, q6, q7, q8⟩ := hx
  have hk : orderedK tr k x = ⟨k.count, k.last, k.spent, k.run, k.left, k.orders, k.blocked, k.owing, k.purse, k.one, k.runs, k.version, k.key, k.pin⟩ := by unfold orderedK; rw [if_neg q1, if_neg q2, if_neg q3, if_neg q4, if_neg q5, if_neg q6, if_neg q7, if_neg q8]
  rw [hk]; have HK := hide hk; clear hk L1 L3 HB
  go_enter Tryz.func33, Tryz.ntmps33
  unfold valK kvL
  go_upto_region 1 with fail
  rw [← unhide HW]; rw [← unhide H3, ← unhide H2, ← unhide H1]; clear HW
  go_wp2
  refine bodyPost_ret (v := valK (⟨k.count, k.last, k.spent, k.run, k.left, k.orders, k.blocked, k.owing, k.purse, k.one, k.runs, k.version, k.key, k.pin⟩)) ?_ rfl ⟨rfl, unhide HE⟩
  simp [results, Tryz.results33, go_sem, World.cell?, World.setCell, Array.getElem?_modify, show W.drew.heap = W.heap from rfl, unhide X3, n13, n12, n23, Ne.symm n13, valK, kvL]
end Go.Proofs.YtajkbkljonejnaaGreatDoor
