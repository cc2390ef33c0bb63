/- A card's state, read of its cells: readState of the program. (Made by drafts/genCdZ2.py.) -/
import Derived.Test.YtajkbkljonejnaaGreatDoorM00
import Derived.Test.YtajkbkljonejnaaGreatDoorM04
import Derived.Test.YtajkbkljonejnaaGreatDoorM05
namespace Go.Proofs.YtajkbkljonejnaaGreatDoor
open Go.RowKit
set_option linter.unusedVariables false
set_option linter.unusedSimpArgs false
set_option maxRecDepth 100000
theorem heap_alloc_oldK (w : World) (o : Obj) {r : Nat} (h : r < w.heap.size) : (w.alloc o).heap[r]? = w.heap[r]? := by
  simp only [World.alloc]
  rw [Array.getElem?_push, if_neg (by omega)]
theorem three_casesD (i : Nat) (h : i < 3) : i = 0 ∨ i = 1 ∨ i = 2 := by omega
set_option maxHeartbeats 2000000 in
theorem rd_any (s : ByteArray) (g p a b : Nat) (w : World) (hp : p < 3) (hab : a ≤ b) (hb : b ≤ 16) (h16 : s.size = 16) (hc : w.cell? ⟨g, p, none⟩ = some (.string s)) :
    Calls Tryz.prog 49 #[.int .i64 (p : Int), .int .i64 (a : Int), .int .i64 (b : Int), .pointer (some ⟨g, 0, none⟩)] w fun e w' => e = .returned (.int .i64 (readV (s.extract a b))) ∧ w' = w := by
  have N := hide (read_all (s.extract a b) w (by rw [ByteArray.size_extract]; unfold maxLen; omega))
  have h1 : (a : Int) ≤ (b : Int) := by omega
  have h2 : (b : Int) ≤ (s.size : Int) := by omega
  have h3 : b ≤ s.size := by omega
  generalize readV (s.extract a b) = v at *; generalize readE (s.extract a b) = e at *; clear h16 hb
  rcases three_casesD p hp with rfl | rfl | rfl
  all_goals
    clear hp
    go_enter Tryz.func49, Tryz.ntmps49
    go_wp2_with fail
    refine (unhide N).mono ?_; rintro r y1 ⟨rfl, hw1⟩; subst hw1
    go_wp2
    go_ret
    exact ⟨rfl, rfl⟩
def zkO : Obj := .cells #[.int .i64 0, .int .i64 0, .int .i64 0, .int .i64 0, .int .i64 0, .int .i64 0, .bool false, .bool false, .int .i64 0, .int .i64 0, .int .i64 0, .int .i64 0, .string ⟨#[]⟩, .string ⟨#[]⟩] 60
def kvL (k : Ks) : Array Value := #[.int .i64 k.count, .int .i64 k.last, .int .i64 k.spent, .int .i64 k.run, .int .i64 k.left, .int .i64 k.orders, .bool k.blocked, .bool k.owing, .int .i64 k.purse, .int .i64 k.one, .int .i64 k.runs, .int .i64 k.version, .string k.key, .string k.pin]
def valK (k : Ks) : Value := .agg (kvL k)
theorem ent_trimK (args : Array Value) (w : World) : (callFunc 50 args).run Tryz.prog w = .ok (.enter 50 args) w := by kernel_rfl
set_option maxHeartbeats 16000000 in
theorem readState_any (C : Nat → ByteArray) (hC : ∀ i, i < 4 → (C i).size = 16) (w : World) :
    Calls Tryz.prog 18 #[.agg #[.string (C 0), .string (C 1), .string (C 2), .string (C 3)]] w fun e w' => e = .returned (valK (readK C)) ∧ Below w.heap.size w w' := by
  obtain ⟨K, hK⟩ : ∃ K, K = readK C := ⟨_, rfl⟩; rw [← hK]; obtain ⟨W3, hW3⟩ : ∃ W3, W3 = ((w.alloc (.cells #[.string (C 0), .string (C 1), .string (C 2), .string (C 3)] 64)).alloc zkO).alloc zkO := ⟨_, rfl⟩
  have hs1 : (w.alloc (.cells #[.string (C 0), .string (C 1), .string (C 2), .string (C 3)] 64)).heap.size = w.heap.size + 1 := by simp
  have hs2 : ((w.alloc (.cells #[.string (C 0), .string (C 1), .string (C 2), .string (C 3)] 64)).alloc zkO).heap.size = w.heap.size + 1 + 1 := by rw [World.size_alloc, hs1]
  have hX0 : W3.heap[w.heap.size]? = some (.cells #[.string (C 0), .string (C 1), .string (C 2), .string (C 3)] 64) := by
    rw [hW3, heap_alloc_oldK _ _ (by omega), heap_alloc_oldK _ _ (by omega)]; exact heap_alloc_new _ _
  have hX1 : W3.heap[w.heap.size + 1]? = some zkO := by
    rw [hW3, heap_alloc_oldK _ _ (by omega)]; have := heap_alloc_new (w.alloc (.cells #[.string (C 0), .string (C 1), .string (C 2), .string (C 3)] 64)) zkO; rw [hs1] at this; exact this
  have hX2 : W3.heap[w.heap.size + 1 + 1]? = some zkO := by
    rw [hW3]; have := heap_alloc_new ((w.alloc (.cells #[.string (C 0), .string (C 1), .string (C 2), .string (C 3)] 64)).alloc zkO) zkO; rw [hs2] at this; exact this
  have hB3 : Below w.heap.size w W3 := by rw [hW3]; exact (((Below.refl _ _).alloc (Nat.le_refl _) _).alloc (by simp) _).alloc (by simp; omega) _
  obtain ⟨g0, hg0⟩ : ∃ g0, g0 = w.heap.size := ⟨_, rfl⟩; obtain ⟨g1, hg1⟩ : ∃ g1, g1 = w.heap.size + 1 := ⟨_, rfl⟩; obtain ⟨g2, hg2⟩ : ∃ g2, g2 = w.heap.size + 1 + 1 := ⟨_, rfl⟩; rw [← hg2] at hX2; rw [← hg1] at hX1; rw [← hg0] at hX0 hB3
  have n02 : ¬ g0 = g2 := by omega
  have n20 : ¬ g2 = g0 := by omega
  have n12 : ¬ g1 = g2 := by omega
  have n21 : ¬ g2 = g1 := by omega
  have l1 : g0 ≤ g1 := by omega
  have l2 : g0 ≤ g2 := by omega
  unfold zkO at hX1 hX2 hW3
  have R0 := hide (fun W (h : W.cell? ⟨g0, 0, none⟩ = some (.string (C 0))) => rd_any (C 0) g0 0 0 2 W (by decide) (by decide) (by decide) (hC 0 (by decide)) h); have R1 := hide (fun W (h : W.cell? ⟨g0, 0, none⟩ = some (.string (C 0))) => rd_any (C 0) g0 0 2 4 W (by decide) (by decide) (by decide) (hC 0 (by decide)) h); have R2 := hide (fun W (h : W.cell? ⟨g0, 0, none⟩ = some (.string (C 0))) => rd_any (C 0) g0 0 4 12 W (by decide) (by decide) (by decide) (hC 0 (by decide)) h); have R3 := hide (fun W (h : W.cell? ⟨g0, 0, none⟩ = some (.string (C 0))) => rd_any (C 0) g0 0 12 13 W (by decide) (by decide) (by decide) (hC 0 (by decide)) h); have R4 := hide (fun W (h : W.cell? ⟨g0, 0, none⟩ = some (.string (C 0))) => rd_any (C 0) g0 0 13 14 W (by decide) (by decide) (by decide) (hC 0 (by decide)) h); have R5 := hide (fun W (h : W.cell? ⟨g0, 0, none⟩ = some (.string (C 0))) => rd_any (C 0) g0 0 14 16 W (by decide) (by decide) (by decide) (hC 0 (by decide)) h); have R6 := hide (fun W (h : W.cell? ⟨g0, 1, none⟩ = some (.string (C 1))) => rd_any (C 1) g0 1 0 8 W (by decide) (by decide) (by decide) (hC 1 (by decide)) h); have R7 := hide (fun W (h : W.cell? ⟨g0, 1, none⟩ = some (.string (C 1))) => rd_any (C 1) g0 1 8 16 W (by decide) (by decide) (by decide) (hC 1 (by decide)) h); have R8 := hide (fun W (h : W.cell? ⟨g0, 2, none⟩ = some (.string (C 2))) => rd_any (C 2) g0 2 0 1 W (by decide) (by decide) (by decide) (hC 2 (by decide)) h); have R9 := hide (fun W (h : W.cell? ⟨g0, 2, none⟩ = some (.string (C 2))) => rd_any (C 2) g0 2 1 2 W (by decide) (by decide) (by decide) (hC 2 (by decide)) h); have R10 := hide (fun W (h : W.cell? ⟨g0, 2, none⟩ = some (.string (C 2))) => rd_any (C 2) g0 2 2 3 W (by decide) (by decide) (by decide) (hC 2 (by decide)) h); have R11 := hide (fun W (h : W.cell? ⟨g0, 2, none⟩ = some (.string (C 2))) => rd_any (C 2) g0 2 3 4 W (by decide) (by decide) (by decide) (hC 2 (by decide)) h); have RT := hide (fun W => trimR_any ((C 2).extract 4 16) (by rw [ByteArray.size_extract]; omega) W); have h2s := hC 2 (by decide)
  have hex : (C 2).extract 4 (C 2).size = (C 2).extract 4 16 := by rw [h2s]
  have hle4 : (4 : Int) ≤ ((C 2).size : Int) := by omega
  have hle4n : 4 ≤ (C 2).size := by omega
  have HK : Hid (K = ⟨readV ((C 0).extract 0 2), readV ((C 0).extract 2 4), readV ((C 0).extract 4 12), readV ((C 0).extract 12 13), readV ((C 0).extract 13 14), readV ((C 0).extract 14 16), readV ((C 2).extract 2 3) == 1, readV ((C 2).extract 3 4) == 1, readV ((C 1).extract 0 8), readV ((C 1).extract 8 16), readV ((C 2).extract 0 1), readV ((C 2).extract 1 2), C 3, trimZ ((C 2).extract 4 16)⟩) := hide hK; clear hK; generalize readV ((C 0).extract 0 2) = v0 at *; generalize readV ((C 0).extract 2 4) = v1 at *; generalize readV ((C 0).extract 4 12) = v2 at *; generalize readV ((C 0).extract 12 13) = v3 at *; generalize readV ((C 0).extract 13 14) = v4 at *; generalize readV ((C 0).extract 14 16) = v5 at *; generalize readV ((C 1).extract 0 8) = v6 at *; generalize readV ((C 1).extract 8 16) = v7 at *; generalize readV ((C 2).extract 0 1) = v8 at *; generalize readV ((C 2).extract 1 2) = v9 at *; generalize readV ((C 2).extract 2 3) = v10 at *; generalize readV ((C 2).extract 3 4) = v11 at *; generalize trimZ ((C 2).extract 4 16) = tz at *; have HB3 := hide hB3; have HW3 := hide hW3; have HG0 := hide hg0; have HG1 := hide hg1; have HG2 := hide hg2; have HH := hide h2s; have HX1 := hide hX1; clear hs1 hs2 hB3 hC hW3 hg0 hg1 hg2 h2s hX1; generalize C 0 = s0 at *; generalize C 1 = s1 at *; generalize C 3 = s3 at *; generalize C 2 = s2 at *
  have c0 : W3.cell? ⟨g0, 0, none⟩ = some (.string s0) := by simp [World.cell?, hX0]
  have z0 : W3.cell? ⟨g2, 0, none⟩ = some (.int .i64 0) := by simp [World.cell?, hX2]
  have f0 : W3.frozen? ⟨g2, 0, none⟩ = false := by simp [World.frozen?, hX2]
  have z1 : W3.cell? ⟨g2, 1, none⟩ = some (.int .i64 0) := by simp [World.cell?, hX2]
  have f1 : W3.frozen? ⟨g2, 1, none⟩ = false := by simp [World.frozen?, hX2]
  have z2 : W3.cell? ⟨g2, 2, none⟩ = some (.int .i64 0) := by simp [World.cell?, hX2]
  have f2 : W3.frozen? ⟨g2, 2, none⟩ = false := by simp [World.frozen?, hX2]
  have HX0 := hide hX0; have HX2 := hide hX2; clear hX0 hX2
  go_enter Tryz.func18, Tryz.ntmps18
  go_upto_region 3 with fail
  rw [← unhide HW3]; rw [← unhide HG2, ← unhide HG1, ← unhide HG0]
  go_wp2_with fail
  refine (unhide R0 _ c0).mono ?_; rintro r y0 ⟨rfl, hw0⟩; subst hw0
  go_wp2_with fail
  refine (unhide R1 _ c0).mono ?_; rintro r y1 ⟨rfl, hw1⟩; subst hw1
  go_wp2_with fail
  refine (unhide R2 _ c0).mono ?_; rintro r y2 ⟨rfl, hw2⟩; subst hw2
  go_wp2_with fail
  obtain ⟨W4, hW4⟩ : ∃ W4, W4 = (((y2.setCell ⟨g2, 0, none⟩ (.int .i64 v0)).setCell ⟨g2, 1, none⟩ (.int .i64 v1)).setCell ⟨g2, 2, none⟩ (.int .i64 v2)) := ⟨_, rfl⟩; rw [← hW4]
  have hX0 : W4.heap[g0]? = some (.cells #[.string s0, .string s1, .string s2, .string s3] 64) := by rw [hW4]; simp [World.setCell, Array.getElem?_modify, unhide HX0, n02, n20]
  have hX2 : W4.heap[g2]? = some (.cells #[.int .i64 v0, .int .i64 v1, .int .i64 v2, .int .i64 0, .int .i64 0, .int .i64 0, .bool false, .bool false, .int .i64 0, .int .i64 0, .int .i64 0, .int .i64 0, .string ⟨#[]⟩, .string ⟨#[]⟩] 60) := by rw [hW4]; simp [World.setCell, Array.getElem?_modify, unhide HX2]
  have hX1 : W4.heap[g1]? = y2.heap[g1]? := by rw [hW4]; simp [World.setCell, Array.getElem?_modify, n12, n21]
  replace HX1 := hide (hX1.trans (unhide HX1))
  have hb : Below g0 w W4 := by rw [hW4]; exact ((((unhide HB3).setCell (p := ⟨g2, 0, none⟩) l2 _).setCell (p := ⟨g2, 1, none⟩) l2 _).setCell (p := ⟨g2, 2, none⟩) l2 _)
  replace HB3 := hide hb; clear HX0 HX2 hX1 hb hW4 c0 z0 f0 z1 f1 z2 f2
  have c0 : W4.cell? ⟨g0, 0, none⟩ = some (.string s0) := by simp [World.cell?, hX0]
  have z3 : W4.cell? ⟨g2, 3, none⟩ = some (.int .i64 0) := by simp [World.cell?, hX2]
  have f3 : W4.frozen? ⟨g2, 3, none⟩ = false := by simp [World.frozen?, hX2]
  have z4 : W4.cell? ⟨g2, 4, none⟩ = some (.int .i64 0) := by simp [World.cell?, hX2]
  have f4 : W4.frozen? ⟨g2, 4, none⟩ = false := by simp [World.frozen?, hX2]
  have z5 : W4.cell? ⟨g2, 5, none⟩ = some (.int .i64 0) := by simp [World.cell?, hX2]
  have f5 : W4.frozen? ⟨g2, 5, none⟩ = false := by simp [World.frozen?, hX2]
  have HX0 := hide hX0; have HX2 := hide hX2; clear hX0 hX2; refine (unhide R3 _ c0).mono ?_; rintro r y3 ⟨rfl, hw3⟩; subst hw3
  go_wp2_with fail
  refine (unhide R4 _ c0).mono ?_; rintro r y4 ⟨rfl, hw4⟩; subst hw4
  go_wp2_with fail
  refine (unhide R5 _ c0).mono ?_; rintro r y5 ⟨rfl, hw5⟩; subst hw5
  go_wp2_with fail
  obtain ⟨W5, hW5⟩ : ∃ W5, W5 = (((y5.setCell ⟨g2, 3, none⟩ (.int .i64 v3)).setCell ⟨g2, 4, none⟩ (.int .i64 v4)).setCell ⟨g2, 5, none⟩ (.int .i64 v5)) := ⟨_, rfl⟩; rw [← hW5]
  have hX0 : W5.heap[g0]? = some (.cells #[.string s0, .string s1, .string s2, .string s3] 64) := by rw [hW5]; simp [World.setCell, Array.getElem?_modify, unhide HX0, n02, n20]
  have hX2 : W5.heap[g2]? = some (.cells #[.int .i64 v0, .int .i64 v1, .int .i64 v2, .int .i64 v3, .int .i64 v4, .int .i64 v5, .bool false, .bool false, .int .i64 0, .int .i64 0, .int .i64 0, .int .i64 0, .string ⟨#[]⟩, .string ⟨#[]⟩] 60) := by rw [hW5]; simp [World.setCell, Array.getElem?_modify, unhide HX2]
  have hX1 : W5.heap[g1]? = y5.heap[g1]? := by rw [hW5]; simp [World.setCell, Array.getElem?_modify, n12, n21]
  replace HX1 := hide (hX1.trans (unhide HX1))
  have hb : Below g0 w W5 := by rw [hW5]; exact ((((unhide HB3).setCell (p := ⟨g2, 3, none⟩) l2 _).setCell (p := ⟨g2, 4, none⟩) l2 _).setCell (p := ⟨g2, 5, none⟩) l2 _)
  replace HB3 := hide hb; clear HX0 HX2 hX1 hb hW5 c0 z3 f3 z4 f4 z5 f5
  have c1 : W5.cell? ⟨g0, 1, none⟩ = some (.string s1) := by simp [World.cell?, hX0]
  have z8 : W5.cell? ⟨g2, 8, none⟩ = some (.int .i64 0) := by simp [World.cell?, hX2]
  have f8 : W5.frozen? ⟨g2, 8, none⟩ = false := by simp [World.frozen?, hX2]
  have z9 : W5.cell? ⟨g2, 9, none⟩ = some (.int .i64 0) := by simp [World.cell?, hX2]
  have f9 : W5.frozen? ⟨g2, 9, none⟩ = false := by simp [World.frozen?, hX2]
  have HX0 := hide hX0; have HX2 := hide hX2; clear hX0 hX2; refine (unhide R6 _ c1).mono ?_; rintro r y6 ⟨rfl, hw6⟩; subst hw6
  go_wp2_with fail
  refine (unhide R7 _ c1).mono ?_; rintro r y7 ⟨rfl, hw7⟩; subst hw7
  go_wp2_with fail
  obtain ⟨W6, hW6⟩ : ∃ W6, W6 = ((y7.setCell ⟨g2, 8, none⟩ (.int .i64 v6)).setCell ⟨g2, 9, none⟩ (.int .i64 v7)) := ⟨_, rfl⟩; rw [← hW6]
  have hX0 : W6.heap[g0]? = some (.cells #[.string s0, .string s1, .string s2, .string s3] 64) := by rw [hW6]; simp [World.setCell, Array.getElem?_modify, unhide HX0, n02, n20]
  have hX2 : W6.heap[g2]? = some (.cells #[.int .i64 v0, .int .i64 v1, .int .i64 v2, .int .i64 v3, .int .i64 v4, .int .i64 v5, .bool false, .bool false, .int .i64 v6, .int .i64 v7, .int .i64 0, .int .i64 0, .string ⟨#[]⟩, .string ⟨#[]⟩] 60) := by rw [hW6]; simp [World.setCell, Array.getElem?_modify, unhide HX2]
  have hX1 : W6.heap[g1]? = y7.heap[g1]? := by rw [hW6]; simp [World.setCell, Array.getElem?_modify, n12, n21]
  replace HX1 := hide (hX1.trans (unhide HX1))
  have hb : Below g0 w W6 := by rw [hW6]; exact (((unhide HB3).setCell (p := ⟨g2, 8, none⟩) l2 _).setCell (p := ⟨g2, 9, none⟩) l2 _)
  replace HB3 := hide hb; clear HX0 HX2 hX1 hb hW6 c1 z8 f8 z9 f9
  have c2 : W6.cell? ⟨g0, 2, none⟩ = some (.string s2) := by simp [World.cell?, hX0]
  have z10 : W6.cell? ⟨g2, 10, none⟩ = some (.int .i64 0) := by simp [World.cell?, hX2]
  have f10 : W6.frozen? ⟨g2, 10, none⟩ = false := by simp [World.frozen?, hX2]
  have z11 : W6.cell? ⟨g2, 11, none⟩ = some (.int .i64 0) := by simp [World.cell?, hX2]
  have f11 : W6.frozen? ⟨g2, 11, none⟩ = false := by simp [World.frozen?, hX2]
  have HX0 := hide hX0; have HX2 := hide hX2; clear hX0 hX2; refine (unhide R8 _ c2).mono ?_; rintro r y8 ⟨rfl, hw8⟩; subst hw8
  go_wp2_with fail
  refine (unhide R9 _ c2).mono ?_; rintro r y9 ⟨rfl, hw9⟩; subst hw9
  go_wp2_with fail
  obtain ⟨W7, hW7⟩ : ∃ W7, W7 = ((y9.setCell ⟨g2, 10, none⟩ (.int .i64 v8)).setCell ⟨g2, 11, none⟩ (.int .i64 v9)) := ⟨_, rfl⟩; rw [← hW7]
  have hX0 : W7.heap[g0]? = some (.cells #[.string s0, .string s1, .string s2, .string s3] 64) := by rw [hW7]; simp [World.setCell, Array.getElem?_modify, unhide HX0, n02, n20]
  have hX2 : W7.heap[g2]? = some (.cells #[.int .i64 v0, .int .i64 v1, .int .i64 v2, .int .i64 v3, .int .i64 v4, .int .i64 v5, .bool false, .bool false, .int .i64 v6, .int .i64 v7, .int .i64 v8, .int .i64 v9, .string ⟨#[]⟩, .string ⟨#[]⟩] 60) := by rw [hW7]; simp [World.setCell, Array.getElem?_modify, unhide HX2]
  have hX1 : W7.heap[g1]? = y9.heap[g1]? := by rw [hW7]; simp [World.setCell, Array.getElem?_modify, n12, n21]
  replace HX1 := hide (hX1.trans (unhide HX1))
  have hb : Below g0 w W7 := by rw [hW7]; exact (((unhide HB3).setCell (p := ⟨g2, 10, none⟩) l2 _).setCell (p := ⟨g2, 11, none⟩) l2 _)
  replace HB3 := hide hb; clear HX0 HX2 hX1 hb hW7 c2 z10 f10 z11 f11
  have c2 : W7.cell? ⟨g0, 2, none⟩ = some (.string s2) := by simp [World.cell?, hX0]
  have z6 : W7.cell? ⟨g2, 6, none⟩ = some (.bool false) := by simp [World.cell?, hX2]
  have f6 : W7.frozen? ⟨g2, 6, none⟩ = false := by simp [World.frozen?, hX2]
  have z7 : W7.cell? ⟨g2, 7, none⟩ = some (.bool false) := by simp [World.cell?, hX2]
  have f7 : W7.frozen? ⟨g2, 7, none⟩ = false := by simp [World.frozen?, hX2]
  have HX0 := hide hX0; have HX2 := hide hX2; clear hX0 hX2; refine (unhide R10 _ c2).mono ?_; rintro r y10 ⟨rfl, hw10⟩; subst hw10
  go_wp2_with fail
  refine (unhide R11 _ c2).mono ?_; rintro r y11 ⟨rfl, hw11⟩; subst hw11
  go_wp2_with fail
  obtain ⟨W8, hW8⟩ : ∃ W8, W8 = ((y11.setCell ⟨g2, 6, none⟩ (.bool (v10 == 1))).setCell ⟨g2, 7, none⟩ (.bool (v11 == 1))) := ⟨_, rfl⟩; rw [← hW8]
  have hX0 : W8.heap[g0]? = some (.cells #[.string s0, .string s1, .string s2, .string s3] 64) := by rw [hW8]; simp [World.setCell, Array.getElem?_modify, unhide HX0, n02, n20]
  have hX2 : W8.heap[g2]? = some (.cells #[.int .i64 v0, .int .i64 v1, .int .i64 v2, .int .i64 v3, .int .i64 v4, .int .i64 v5, .bool (v10 == 1), .bool (v11 == 1), .int .i64 v6, .int .i64 v7, .int .i64 v8, .int .i64 v9, .string ⟨#[]⟩, .string ⟨#[]⟩] 60) := by rw [hW8]; simp [World.setCell, Array.getElem?_modify, unhide HX2]
  have hX1 : W8.heap[g1]? = y11.heap[g1]? := by rw [hW8]; simp [World.setCell, Array.getElem?_modify, n12, n21]
  replace HX1 := hide (hX1.trans (unhide HX1))
  have hb : Below g0 w W8 := by rw [hW8]; exact (((unhide HB3).setCell (p := ⟨g2, 6, none⟩) l2 _).setCell (p := ⟨g2, 7, none⟩) l2 _)
  replace HB3 := hide hb; clear HX0 HX2 hX1 hb hW8 c2 z6 f6 z7 f7
  have c2 : W8.cell? ⟨g0, 2, none⟩ = some (.string s2) := by simp [World.cell?, hX0]
  have c3 : W8.cell? ⟨g0, 3, none⟩ = some (.string s3) := by simp [World.cell?, hX0]
  have z12 : W8.cell? ⟨g2, 12, none⟩ = some (.string ⟨#[]⟩) := by simp [World.cell?, hX2]
  have z13 : W8.cell? ⟨g2, 13, none⟩ = some (.string ⟨#[]⟩) := by simp [World.cell?, hX2]
  have f12 : W8.frozen? ⟨g2, 12, none⟩ = false := by simp [World.frozen?, hX2]
  have f13 : W8.frozen? ⟨g2, 13, none⟩ = false := by simp [World.frozen?, hX2]
  have HX0 := hide hX0; have HX2 := hide hX2; clear hX0 hX2; refine wp_drawnT (by kernel_rfl) 65 (by rfl) (by kernel_rfl) (by kernel_rfl) 7 9 (vals [.pointer (some ⟨g0, 2, none⟩), .string s2, .string (s2.extract 4 16), .string tz, .pointer (some ⟨g0, 3, none⟩), .string s3, .pointer (some ⟨g2, 13, none⟩), undef, .pointer (some ⟨g2, 12, none⟩)]) (W8.drew.setCell ⟨g2, 13, none⟩ (.string tz)) ((W8.drew.setCell ⟨g2, 13, none⟩ (.string tz)).setCell ⟨g2, 12, none⟩ (.string s3)) ?_ ?_
  · refine ⟨?_, ?_, ?_, ?_, ?_, ?_, ?_, ?_, ?_, ?_, trivial⟩
    · intro S ac wx hJ hS hw hoff; have e1 : ac.eval (.tmp 1) = .pointer (some ⟨g0, 0, none⟩) := (hoff 1 (by kernel_rfl)).trans rfl; have hJ2 := hJ.val (i := 0) (by decide) (by decide) hw (.pointer (some ⟨g0, 2, none⟩)) rfl; have g1 := evT e1
      rcases hJ.worlds with hwx | hwx | hwx
      all_goals
        subst hwx; refine Does.value (.pointer (some ⟨g0, 2, none⟩)) _ ?_ hJ2; clear hJ hJ2 hw hoff; go_simp
    · intro S ac wx hJ hS hw hoff; have e56 : ac.eval (.tmp 56) = .pointer (some ⟨g0, 2, none⟩) := hJ.v 0 (by decide) (by decide) (hw 0 (by kernel_rfl)); have hJ2 := hJ.val (i := 1) (by decide) (by decide) hw (.string s2) rfl; have g56 := evT e56
      rcases hJ.worlds with hwx | hwx | hwx
      all_goals
        subst hwx; refine Does.value (.string s2) _ ?_ hJ2; clear hJ hJ2 hw hoff; go_simp
    · intro S ac wx hJ hS hw hoff; have e57 : ac.eval (.tmp 57) = .string s2 := hJ.v 1 (by decide) (by decide) (hw 1 (by kernel_rfl)); have hJ2 := hJ.val (i := 2) (by decide) (by decide) hw (.string (s2.extract 4 16)) rfl; have g57 := evT e57
      rcases hJ.worlds with hwx | hwx | hwx
      all_goals
        subst hwx; refine Does.value (.string (s2.extract 4 16)) _ ?_ hJ2; clear hJ hJ2 hw hoff; go_simp
    · intro S ac wx hJ hS hw hoff; have e58 : ac.eval (.tmp 58) = .string (s2.extract 4 16) := hJ.v 2 (by decide) (by decide) (hw 2 (by kernel_rfl))
      rcases hJ.worlds with hwx | hwx | hwx
      all_goals
        subst hwx; refine does_call2 50 (.tmp 58) (.const (.string ⟨#[0]⟩)) _ rfl _ _ e58 rfl ent_trimK (unhide RT _) ?_; rintro e wy ⟨rfl, hy⟩; have hy' := hy.symm; subst hy'; exact ⟨_, rfl, hJ.val (i := 3) (by decide) (by decide) hw _ rfl⟩
    · intro S ac wx hJ hS hw hoff; have e1 : ac.eval (.tmp 1) = .pointer (some ⟨g0, 0, none⟩) := (hoff 1 (by kernel_rfl)).trans rfl; have hJ2 := hJ.val (i := 4) (by decide) (by decide) hw (.pointer (some ⟨g0, 3, none⟩)) rfl; have g1 := evT e1
      rcases hJ.worlds with hwx | hwx | hwx
      all_goals
        subst hwx; refine Does.value (.pointer (some ⟨g0, 3, none⟩)) _ ?_ hJ2; clear hJ hJ2 hw hoff; go_simp
    · intro S ac wx hJ hS hw hoff; have e60 : ac.eval (.tmp 60) = .pointer (some ⟨g0, 3, none⟩) := hJ.v 4 (by decide) (by decide) (hw 4 (by kernel_rfl)); have hJ2 := hJ.val (i := 5) (by decide) (by decide) hw (.string s3) rfl; have g60 := evT e60
      rcases hJ.worlds with hwx | hwx | hwx
      all_goals
        subst hwx; refine Does.value (.string s3) _ ?_ hJ2; clear hJ hJ2 hw hoff; go_simp
    · intro S ac wx hJ hS hw hoff; have e4 : ac.eval (.tmp 4) = .pointer (some ⟨g2, 0, none⟩) := (hoff 4 (by kernel_rfl)).trans rfl; have hJ2 := hJ.val (i := 6) (by decide) (by decide) hw (.pointer (some ⟨g2, 13, none⟩)) rfl; have g4 := evT e4
      rcases hJ.worlds with hwx | hwx | hwx
      all_goals
        subst hwx; refine Does.value (.pointer (some ⟨g2, 13, none⟩)) _ ?_ hJ2; clear hJ hJ2 hw hoff; go_simp
    · intro S ac wx hJ hS hw hoff; have e59 : ac.eval (.tmp 59) = .string tz := hJ.v 3 (by decide) (by decide) (hw 3 (by kernel_rfl)); have e62 : ac.eval (.tmp 62) = .pointer (some ⟨g2, 13, none⟩) := hJ.v 6 (by decide) (by decide) (hw 6 (by kernel_rfl)); obtain ⟨hwx, hJ2⟩ := hJ.one (by decide) hw hS (by kernel_rfl) undef; subst hwx; have g59 := evT e59; have g62 := evT e62; refine Does.skip _ ?_ hJ2; clear hJ hJ2 hw hoff; go_simp
    · intro S ac wx hJ hS hw hoff; have e4 : ac.eval (.tmp 4) = .pointer (some ⟨g2, 0, none⟩) := (hoff 4 (by kernel_rfl)).trans rfl; have hJ2 := hJ.val (i := 8) (by decide) (by decide) hw (.pointer (some ⟨g2, 12, none⟩)) rfl; have g4 := evT e4
      rcases hJ.worlds with hwx | hwx | hwx
      all_goals
        subst hwx; refine Does.value (.pointer (some ⟨g2, 12, none⟩)) _ ?_ hJ2; clear hJ hJ2 hw hoff; go_simp
    · intro S ac wx hJ hS hw hoff; have e61 : ac.eval (.tmp 61) = .string s3 := hJ.v 5 (by decide) (by decide) (hw 5 (by kernel_rfl)); have e63 : ac.eval (.tmp 63) = .pointer (some ⟨g2, 12, none⟩) := hJ.v 8 (by decide) (by decide) (hw 8 (by kernel_rfl)); obtain ⟨hwx, hJ2⟩ := hJ.two hw hS (by kernel_rfl) undef; subst hwx; have g61 := evT e61; have g63 := evT e63; refine Does.skip _ ?_ hJ2; clear hJ hJ2 hw hoff; go_simp
  · intro ac wx S hdf hsz hoff hall hJ; have hwx := hJ.w; rw [hall 9 (by decide)] at hwx; replace hwx : wx = ((W8.drew.setCell ⟨g2, 13, none⟩ (.string tz)).setCell ⟨g2, 12, none⟩ (.string s3)) := hwx; subst hwx; have hh56 : ac.tmps.getD 56 undef = .pointer (some ⟨g0, 2, none⟩) := hJ.v 0 (by decide) (by decide) (hall 0 (by decide)); have hh57 : ac.tmps.getD 57 undef = .string s2 := hJ.v 1 (by decide) (by decide) (hall 1 (by decide)); have hh58 : ac.tmps.getD 58 undef = .string (s2.extract 4 16) := hJ.v 2 (by decide) (by decide) (hall 2 (by decide)); have hh59 : ac.tmps.getD 59 undef = .string tz := hJ.v 3 (by decide) (by decide) (hall 3 (by decide)); have hh60 : ac.tmps.getD 60 undef = .pointer (some ⟨g0, 3, none⟩) := hJ.v 4 (by decide) (by decide) (hall 4 (by decide)); have hh61 : ac.tmps.getD 61 undef = .string s3 := hJ.v 5 (by decide) (by decide) (hall 5 (by decide)); have hh62 : ac.tmps.getD 62 undef = .pointer (some ⟨g2, 13, none⟩) := hJ.v 6 (by decide) (by decide) (hall 6 (by decide)); have hh63 : ac.tmps.getD 63 undef = .pointer (some ⟨g2, 12, none⟩) := hJ.v 8 (by decide) (by decide) (hall 8 (by decide)); have hmix := mix_eq [false, false, false, false, false, false, false, false, false, false, false, false, false, false, false, false, false, false, false, false, false, false, false, false, false, false, false, false, false, false, false, false, false, false, false, false, false, false, false, false, false, false, false, false, false, false, false, false, false, false, false, false, false, false, false, false, true, true, true, true, true, true, true, true, false] rfl rfl hsz hdf (by kernel_rfl) hoff; clear hoff hall hsz hdf hJ
    simp only [mixL, Nat.reduceAdd, hh56, hh57, hh58, hh59, hh60, hh61, hh62, hh63] at hmix
    rw [hmix]; clear hmix hh56 hh57 hh58 hh59 hh60 hh61 hh62 hh63; obtain ⟨W9, hW9⟩ : ∃ W9, W9 = ((W8.drew.setCell ⟨g2, 13, none⟩ (.string tz)).setCell ⟨g2, 12, none⟩ (.string s3)) := ⟨_, rfl⟩; rw [← hW9]
    have hX2 : W9.heap[g2]? = some (.cells #[.int .i64 v0, .int .i64 v1, .int .i64 v2, .int .i64 v3, .int .i64 v4, .int .i64 v5, .bool (v10 == 1), .bool (v11 == 1), .int .i64 v6, .int .i64 v7, .int .i64 v8, .int .i64 v9, .string s3, .string tz] 60) := by rw [hW9]; simp [World.setCell, show W8.drew.heap = W8.heap from rfl, Array.getElem?_modify, unhide HX2]
    have hX1 : W9.heap[g1]? = some (.cells #[.int .i64 0, .int .i64 0, .int .i64 0, .int .i64 0, .int .i64 0, .int .i64 0, .bool false, .bool false, .int .i64 0, .int .i64 0, .int .i64 0, .int .i64 0, .string ⟨#[]⟩, .string ⟨#[]⟩] 60) := by rw [hW9]; simp [World.setCell, show W8.drew.heap = W8.heap from rfl, Array.getElem?_modify, n12, n21, unhide HX1]
    have hb9 : Below g0 w W9 := by rw [hW9]; exact ((unhide HB3).drew.setCell (p := ⟨g2, 13, none⟩) l2 _).setCell (p := ⟨g2, 12, none⟩) l2 _
    clear hW9 c2 c3 z12 z13 f12 f13
    have a0 : W9.cell? ⟨g2, 0, none⟩ = some (.int .i64 v0) := by simp [World.cell?, hX2]
    have b0 : W9.cell? ⟨g1, 0, none⟩ = some (.int .i64 0) := by simp [World.cell?, hX1]
    have d0 : W9.frozen? ⟨g1, 0, none⟩ = false := by simp [World.frozen?, hX1]
    have a1 : W9.cell? ⟨g2, 1, none⟩ = some (.int .i64 v1) := by simp [World.cell?, hX2]
    have b1 : W9.cell? ⟨g1, 1, none⟩ = some (.int .i64 0) := by simp [World.cell?, hX1]
    have d1 : W9.frozen? ⟨g1, 1, none⟩ = false := by simp [World.frozen?, hX1]
    have a2 : W9.cell? ⟨g2, 2, none⟩ = some (.int .i64 v2) := by simp [World.cell?, hX2]
    have b2 : W9.cell? ⟨g1, 2, none⟩ = some (.int .i64 0) := by simp [World.cell?, hX1]
    have d2 : W9.frozen? ⟨g1, 2, none⟩ = false := by simp [World.frozen?, hX1]
    have a3 : W9.cell? ⟨g2, 3, none⟩ = some (.int .i64 v3) := by simp [World.cell?, hX2]
    have b3 : W9.cell? ⟨g1, 3, none⟩ = some (.int .i64 0) := by simp [World.cell?, hX1]
    have d3 : W9.frozen? ⟨g1, 3, none⟩ = false := by simp [World.frozen?, hX1]
    have a4 : W9.cell? ⟨g2, 4, none⟩ = some (.int .i64 v4) := by simp [World.cell?, hX2]
    have b4 : W9.cell? ⟨g1, 4, none⟩ = some (.int .i64 0) := by simp [World.cell?, hX1]
    have d4 : W9.frozen? ⟨g1, 4, none⟩ = false := by simp [World.frozen?, hX1]
    have a5 : W9.cell? ⟨g2, 5, none⟩ = some (.int .i64 v5) := by simp [World.cell?, hX2]
    have b5 : W9.cell? ⟨g1, 5, none⟩ = some (.int .i64 0) := by simp [World.cell?, hX1]
    have d5 : W9.frozen? ⟨g1, 5, none⟩ = false := by simp [World.frozen?, hX1]
    have a6 : W9.cell? ⟨g2, 6, none⟩ = some (.bool (v10 == 1)) := by simp [World.cell?, hX2]
    have b6 : W9.cell? ⟨g1, 6, none⟩ = some (.bool false) := by simp [World.cell?, hX1]
    have d6 : W9.frozen? ⟨g1, 6, none⟩ = false := by simp [World.frozen?, hX1]
    have a7 : W9.cell? ⟨g2, 7, none⟩ = some (.bool (v11 == 1)) := by simp [World.cell?, hX2]
    have b7 : W9.cell? ⟨g1, 7, none⟩ = some (.bool false) := by simp [World.cell?, hX1]
    have d7 : W9.frozen? ⟨g1, 7, none⟩ = false := by simp [World.frozen?, hX1]
    have a8 : W9.cell? ⟨g2, 8, none⟩ = some (.int .i64 v6) := by simp [World.cell?, hX2]
    have b8 : W9.cell? ⟨g1, 8, none⟩ = some (.int .i64 0) := by simp [World.cell?, hX1]
    have d8 : W9.frozen? ⟨g1, 8, none⟩ = false := by simp [World.frozen?, hX1]
    have a9 : W9.cell? ⟨g2, 9, none⟩ = some (.int .i64 v7) := by simp [World.cell?, hX2]
    have b9 : W9.cell? ⟨g1, 9, none⟩ = some (.int .i64 0) := by simp [World.cell?, hX1]
    have d9 : W9.frozen? ⟨g1, 9, none⟩ = false := by simp [World.frozen?, hX1]
    have a10 : W9.cell? ⟨g2, 10, none⟩ = some (.int .i64 v8) := by simp [World.cell?, hX2]
    have b10 : W9.cell? ⟨g1, 10, none⟩ = some (.int .i64 0) := by simp [World.cell?, hX1]
    have d10 : W9.frozen? ⟨g1, 10, none⟩ = false := by simp [World.frozen?, hX1]
    have a11 : W9.cell? ⟨g2, 11, none⟩ = some (.int .i64 v9) := by simp [World.cell?, hX2]
    have b11 : W9.cell? ⟨g1, 11, none⟩ = some (.int .i64 0) := by simp [World.cell?, hX1]
    have d11 : W9.frozen? ⟨g1, 11, none⟩ = false := by simp [World.frozen?, hX1]
    have a12 : W9.cell? ⟨g2, 12, none⟩ = some (.string s3) := by simp [World.cell?, hX2]
    have b12 : W9.cell? ⟨g1, 12, none⟩ = some (.string ⟨#[]⟩) := by simp [World.cell?, hX1]
    have d12 : W9.frozen? ⟨g1, 12, none⟩ = false := by simp [World.frozen?, hX1]
    have a13 : W9.cell? ⟨g2, 13, none⟩ = some (.string tz) := by simp [World.cell?, hX2]
    have b13 : W9.cell? ⟨g1, 13, none⟩ = some (.string ⟨#[]⟩) := by simp [World.cell?, hX1]
    have d13 : W9.frozen? ⟨g1, 13, none⟩ = false := by simp [World.frozen?, hX1]
    have HR : Hid (Below w.heap.size w ((((((((((((((W9.setCell ⟨g1, 0, none⟩ (.int .i64 v0)).setCell ⟨g1, 1, none⟩ (.int .i64 v1)).setCell ⟨g1, 2, none⟩ (.int .i64 v2)).setCell ⟨g1, 3, none⟩ (.int .i64 v3)).setCell ⟨g1, 4, none⟩ (.int .i64 v4)).setCell ⟨g1, 5, none⟩ (.int .i64 v5)).setCell ⟨g1, 6, none⟩ (.bool (v10 == 1))).setCell ⟨g1, 7, none⟩ (.bool (v11 == 1))).setCell ⟨g1, 8, none⟩ (.int .i64 v6)).setCell ⟨g1, 9, none⟩ (.int .i64 v7)).setCell ⟨g1, 10, none⟩ (.int .i64 v8)).setCell ⟨g1, 11, none⟩ (.int .i64 v9)).setCell ⟨g1, 12, none⟩ (.string s3)).setCell ⟨g1, 13, none⟩ (.string tz))) := hide (by rw [← unhide HG0]; exact ((((((((((((((hb9.setCell (p := ⟨g1, 0, none⟩) l1 _).setCell (p := ⟨g1, 1, none⟩) l1 _).setCell (p := ⟨g1, 2, none⟩) l1 _).setCell (p := ⟨g1, 3, none⟩) l1 _).setCell (p := ⟨g1, 4, none⟩) l1 _).setCell (p := ⟨g1, 5, none⟩) l1 _).setCell (p := ⟨g1, 6, none⟩) l1 _).setCell (p := ⟨g1, 7, none⟩) l1 _).setCell (p := ⟨g1, 8, none⟩) l1 _).setCell (p := ⟨g1, 9, none⟩) l1 _).setCell (p := ⟨g1, 10, none⟩) l1 _).setCell (p := ⟨g1, 11, none⟩) l1 _).setCell (p := ⟨g1, 12, none⟩) l1 _).setCell (p := ⟨g1, 13, none⟩) l1 _)); have HX1' := hide hX1; clear hX1 hX2 hb9
    go_wp2
    refine bodyPost_ret (v := valK K) ?_ rfl ⟨rfl, unhide HR⟩; rw [unhide HK]
    simp [results, Tryz.results18, go_sem, World.cell?, World.setCell, Array.getElem?_modify, unhide HX1', valK, kvL]
end Go.Proofs.YtajkbkljonejnaaGreatDoor
