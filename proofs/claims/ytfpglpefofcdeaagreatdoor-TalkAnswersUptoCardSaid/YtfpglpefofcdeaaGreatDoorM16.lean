/- An answer, as the program writes it. -/
import Derived.Test.YtfpglpefofcdeaaGreatDoorM11
import Derived.Test.YtfpglpefofcdeaaGreatDoorM13
import Derived.Test.YtfpglpefofcdeaaGreatDoorM15
namespace Go.Proofs.YtfpglpefofcdeaaGreatDoor
open Go.RowKit
set_option linter.unusedVariables false
set_option linter.unusedSimpArgs false
set_option maxRecDepth 100000

/-- an answer -/
structure An where
  er : Int
  dO : Int
  apo : Option Addr
  apps : List XApp
  apc : Nat
  count : Int
  last : Int
  left : Int
  fl : Fl
  kind : Int
  rcount : Int
  sl : ByteArray
  bsig : ByteArray
  brest : ByteArray
def anC (a : An) : Array Value := #[.int .i64 a.er, .int .i64 a.dO, .slice a.apo a.apps.length a.apc, .int .i64 a.count, .int .i64 a.last, .int .i64 a.left, .string a.fl.id, .slice a.fl.apo a.fl.apps.length a.fl.apc, .string a.fl.isig, .string a.fl.irest, .string a.fl.csig, .string a.fl.crest, .int .i64 a.fl.ways.x, .int .i64 a.fl.ways.y, .slice a.fl.ways.listo a.fl.ways.list.length a.fl.ways.listc, .int .i64 a.fl.md, .int .i64 a.fl.mo, .int .i64 a.fl.mf, .slice a.fl.ro a.fl.row.length a.fl.rc, .int .i64 a.kind, .int .i64 a.rcount, .string a.sl, .string a.bsig, .string a.brest]
structure AnOK (w : World) (a : An) : Prop where
  apps : RowApp w a.apo a.apps
  fl : FlOK w a.fl
  er : a.er ≤ 9223372036854775807
  dO : a.dO ≤ 9223372036854775807
  count : a.count ≤ 9223372036854775807
  last : a.last ≤ 9223372036854775807
  left : a.left ≤ 9223372036854775807
  kind : a.kind ≤ 9223372036854775807
  rcount : a.rcount ≤ 9223372036854775807
theorem AnOK.below {w w' : World} {a : An} (h : AnOK w a) (hb : Below w.heap.size w w') : AnOK w' a := ⟨h.apps.below hb, h.fl.below hb, h.er, h.dO, h.count, h.last, h.left, h.kind, h.rcount⟩
/-- the first of two things that are wrong -/
def blE (e x : Int) : Int := if e = 0 then x else e
/-- what is said where nothing went wrong -/
def addL (a : An) : List (Int × ByteArray) :=
  if a.dO = 1 then [(130, appsS a.apps)]
  else if a.dO = 3 then [(131, numS a.count 2), (132, numS a.last 2), (133, fileS a.fl), (134, a.fl.isig), (135, a.fl.irest), (136, a.fl.csig), (137, a.fl.crest)]
  else if a.dO = 4 then [(138, numS a.left 1)]
  else if a.dO = 5 ∨ a.dO = 6 then [(139, numS a.kind 1), (140, numS a.rcount 2), (141, a.sl), (142, a.bsig), (143, a.brest)]
  else []
def addW (a : An) (e : Int) : Int :=
  if a.dO = 1 then blE e (appsE a.apps)
  else if a.dO = 3 then blE (blE (blE e (numE a.count 2)) (numE a.last 2)) (fileE a.fl)
  else if a.dO = 4 then blE e (numE a.left 1)
  else if a.dO = 5 ∨ a.dO = 6 then blE (blE e (numE a.kind 1)) (numE a.rcount 2)
  else e
/-- BEGIN GEN -/
def AnAt (wx : World) (g : Nat) (a : An) : Prop := wx.cell? ⟨g, 0, none⟩ = some (.int .i64 a.er) ∧ wx.cell? ⟨g, 1, none⟩ = some (.int .i64 a.dO) ∧ wx.cell? ⟨g, 2, none⟩ = some (.slice a.apo a.apps.length a.apc) ∧ wx.cell? ⟨g, 3, none⟩ = some (.int .i64 a.count) ∧ wx.cell? ⟨g, 4, none⟩ = some (.int .i64 a.last) ∧ wx.cell? ⟨g, 5, none⟩ = some (.int .i64 a.left) ∧ wx.cell? ⟨g, 6, none⟩ = some (.string a.fl.id) ∧ wx.cell? ⟨g, 7, none⟩ = some (.slice a.fl.apo a.fl.apps.length a.fl.apc) ∧ wx.cell? ⟨g, 8, none⟩ = some (.string a.fl.isig) ∧ wx.cell? ⟨g, 9, none⟩ = some (.string a.fl.irest) ∧ wx.cell? ⟨g, 10, none⟩ = some (.string a.fl.csig) ∧ wx.cell? ⟨g, 11, none⟩ = some (.string a.fl.crest) ∧ wx.cell? ⟨g, 12, none⟩ = some (.int .i64 a.fl.ways.x) ∧ wx.cell? ⟨g, 13, none⟩ = some (.int .i64 a.fl.ways.y) ∧ wx.cell? ⟨g, 14, none⟩ = some (.slice a.fl.ways.listo a.fl.ways.list.length a.fl.ways.listc) ∧ wx.cell? ⟨g, 15, none⟩ = some (.int .i64 a.fl.md) ∧ wx.cell? ⟨g, 16, none⟩ = some (.int .i64 a.fl.mo) ∧ wx.cell? ⟨g, 17, none⟩ = some (.int .i64 a.fl.mf) ∧ wx.cell? ⟨g, 18, none⟩ = some (.slice a.fl.ro a.fl.row.length a.fl.rc) ∧ wx.cell? ⟨g, 19, none⟩ = some (.int .i64 a.kind) ∧ wx.cell? ⟨g, 20, none⟩ = some (.int .i64 a.rcount) ∧ wx.cell? ⟨g, 21, none⟩ = some (.string a.sl) ∧ wx.cell? ⟨g, 22, none⟩ = some (.string a.bsig) ∧ wx.cell? ⟨g, 23, none⟩ = some (.string a.brest)
theorem anAt_of {wx : World} {g : Nat} {a : An} (h : wx.heap[g]? = some (.cells (anC a) 37)) : AnAt wx g a := by
  unfold anC at h
  refine ⟨?_, ?_, ?_, ?_, ?_, ?_, ?_, ?_, ?_, ?_, ?_, ?_, ?_, ?_, ?_, ?_, ?_, ?_, ?_, ?_, ?_, ?_, ?_, ?_⟩ <;> simp [World.cell?, h]
theorem noIt_an {wx : World} {g : Nat} {a : An} (h : wx.heap[g]? = some (.cells (anC a) 37)) : NoIt wx g := fun cs fr e => by
  rw [h] at e
  injection e with e
  injection e with _ e2
  cases e2
theorem lenA (ls : List (Int × ByteArray)) (l : List (Int × ByteArray)) (n : Nat) (h : ls.length ≤ n) (m : Nat) (hm : n + l.length ≤ m) : (ls ++ l).length ≤ m := by rw [List.length_append]; omega
set_option maxHeartbeats 8000000 in
theorem panswer_four (a : An) (b : Nat) (ls : List (Int × ByteArray)) (er : Int) (w : World) (h : Parts w b ls er) (hl : ls.length ≤ 4) (hok : ∀ W, Below b w W → AnOK W a) (hd : a.dO = 4) :
    Calls Tryz.prog 16 #[.pointer (some ⟨b, 0, none⟩), .agg (anC a)] w fun e w' => e = .returned (.tuple #[]) ∧ Parts w' b (ls ++ addL a) (addW a er) ∧ Kp b w w' := by
  have hlt := h.lt
  obtain ⟨W1, hW1⟩ : ∃ W1, W1 = w.alloc (.cells (anC a) 37) := ⟨_, rfl⟩
  have hB1 : Below w.heap.size w W1 := by rw [hW1]; exact (Below.refl _ _).alloc (Nat.le_refl _) _
  have hX1 : W1.heap[w.heap.size]? = some (.cells (anC a) 37) := by rw [hW1]; exact heap_alloc_new _ _
  have hno := noIt_an hX1
  have hs1 : w.heap.size < W1.heap.size := block_ltQ hX1
  have hK1 : Kp b w W1 := Kp.of_below hB1 (Nat.le_of_lt hlt)
  have HC : Hid (∀ wx, Kp b W1 wx → AnAt wx w.heap.size a) := hide (fun wx k => anAt_of ((k.keep _ hs1 (by omega) hno).trans hX1))
  have HOK : Hid (∀ wx, Kp b W1 wx → AnOK wx a) := hide (fun wx k => hok wx (hK1.bel.trans k.bel))
  have HF : Hid (∀ wx, Kp b W1 wx → Kp b w wx) := hide (fun wx k => hK1.trans k)
  have HP0 := hide (h.below hB1); have HW := hide hW1
  have HLB : Hid (b ≤ W1.heap.size) := hide (by omega)
  obtain ⟨c0, c1, c2, c3, c4, c5, c6, c7, c8, c9, c10, c11, c12, c13, c14, c15, c16, c17, c18, c19, c20, c21, c22, c23⟩ := unhide HC W1 (Kp.refl _ _)
  have HK0 : Hid (Kp b W1 W1) := hide (Kp.refl _ _)
  have HH := hide hok
  have HOK0 := hide (hok w (Below.refl _ _))
  have hb1 : (a.dO == 1) = false := by rw [hd]; rfl
  have hb3 : (a.dO == 3) = false := by rw [hd]; rfl
  have hb4 : (a.dO == 4) = true := by rw [hd]; rfl
  have hb5 : (a.dO == 5) = false := by rw [hd]; rfl
  have hb6 : (a.dO == 6) = false := by rw [hd]; rfl
  have HL : Hid (addL a = [(138, numS a.left 1)]) := hide (by unfold addL; rw [if_neg (by omega), if_neg (by omega), if_pos hd])
  have HWW : Hid (addW a er = blE er (numE a.left 1)) := hide (by unfold addW; rw [if_neg (by omega), if_neg (by omega), if_pos hd])
  have N1 := hide (fun (W : World) (h : Parts W b ls er) => pnumber_anyK b ls er 138 a.left 1 W h (by omega) (unhide HOK0).left)
  clear hd
  clear h hlt hW1 hB1 hX1 hno hs1 hK1 hok
  unfold anC
  unfold anC at HW
  go_enter Tryz.func16, Tryz.ntmps16
  go_upto_region 2 with fail
  rw [← unhide HW]
  go_wp2_with fail
  refine (unhide N1 _ (unhide HP0)).mono ?_
  rintro e y1 ⟨rfl, hP, kK⟩
  have HP1 := hide hP; have HK1 := hide ((unhide HK0).trans kK)
  clear hP kK
  obtain ⟨c0, c1, c2, c3, c4, c5, c6, c7, c8, c9, c10, c11, c12, c13, c14, c15, c16, c17, c18, c19, c20, c21, c22, c23⟩ := unhide HC y1 (unhide HK1)
  have hPz := unhide HP1
  have HPZ := hide hPz; have HKZ := hide (unhide HF _ (unhide HK1))
  clear hPz
  go_wp2
  go_end0
  exact ⟨rfl, by rw [unhide HL, unhide HWW]; first | (simpa using unhide HPZ) | (simpa [blE] using unhide HPZ), unhide HKZ⟩
set_option maxHeartbeats 8000000 in
theorem panswer_one (a : An) (b : Nat) (ls : List (Int × ByteArray)) (er : Int) (w : World) (h : Parts w b ls er) (hl : ls.length ≤ 4) (hok : ∀ W, Below b w W → AnOK W a) (hd : a.dO = 1) :
    Calls Tryz.prog 16 #[.pointer (some ⟨b, 0, none⟩), .agg (anC a)] w fun e w' => e = .returned (.tuple #[]) ∧ Parts w' b (ls ++ addL a) (addW a er) ∧ Kp b w w' := by
  have hlt := h.lt
  obtain ⟨W1, hW1⟩ : ∃ W1, W1 = w.alloc (.cells (anC a) 37) := ⟨_, rfl⟩
  have hB1 : Below w.heap.size w W1 := by rw [hW1]; exact (Below.refl _ _).alloc (Nat.le_refl _) _
  have hX1 : W1.heap[w.heap.size]? = some (.cells (anC a) 37) := by rw [hW1]; exact heap_alloc_new _ _
  have hno := noIt_an hX1
  have hs1 : w.heap.size < W1.heap.size := block_ltQ hX1
  have hK1 : Kp b w W1 := Kp.of_below hB1 (Nat.le_of_lt hlt)
  have HC : Hid (∀ wx, Kp b W1 wx → AnAt wx w.heap.size a) := hide (fun wx k => anAt_of ((k.keep _ hs1 (by omega) hno).trans hX1))
  have HOK : Hid (∀ wx, Kp b W1 wx → AnOK wx a) := hide (fun wx k => hok wx (hK1.bel.trans k.bel))
  have HF : Hid (∀ wx, Kp b W1 wx → Kp b w wx) := hide (fun wx k => hK1.trans k)
  have HP0 := hide (h.below hB1); have HW := hide hW1
  have HLB : Hid (b ≤ W1.heap.size) := hide (by omega)
  obtain ⟨c0, c1, c2, c3, c4, c5, c6, c7, c8, c9, c10, c11, c12, c13, c14, c15, c16, c17, c18, c19, c20, c21, c22, c23⟩ := unhide HC W1 (Kp.refl _ _)
  have HK0 : Hid (Kp b W1 W1) := hide (Kp.refl _ _)
  have HH := hide hok
  have HOK0 := hide (hok w (Below.refl _ _))
  have hb1 : (a.dO == 1) = true := by rw [hd]; rfl
  have hb3 : (a.dO == 3) = false := by rw [hd]; rfl
  have hb4 : (a.dO == 4) = false := by rw [hd]; rfl
  have hb5 : (a.dO == 5) = false := by rw [hd]; rfl
  have hb6 : (a.dO == 6) = false := by rw [hd]; rfl
  have HL : Hid (addL a = [(130, appsS a.apps)]) := hide (by unfold addL; rw [if_pos hd])
  have HWW : Hid (addW a er = blE er (appsE a.apps)) := hide (by unfold addW; rw [if_pos hd])
  have N1 := hide (fun (W : World) (h : AnOK W a) => pprint_any a.apps a.apo a.apc W h.apps)
  have N2 := hide (fun (W : World) (h : Parts W b ls er) => blame_anyK b ls er (appsE a.apps) W h)
  have N3 := hide (fun (W : World) (h : Parts W b ls (blE er (appsE a.apps))) => text_anyK b ls (blE er (appsE a.apps)) 130 (appsS a.apps) W h (by omega))
  clear hd
  clear h hlt hW1 hB1 hX1 hno hs1 hK1 hok
  unfold anC
  unfold anC at HW
  go_enter Tryz.func16, Tryz.ntmps16
  go_upto_region 2 with fail
  rw [← unhide HW]
  go_wp2_with fail
  refine (unhide N1 _ (unhide HOK _ (unhide HK0))).mono ?_
  rintro e y1 ⟨rfl, kB⟩
  have HP1 := hide ((unhide HP0).below kB); have HK1 := hide ((unhide HK0).trans (Kp.of_below kB (Nat.le_trans (unhide HLB) (unhide HK0).bel.size)))
  clear kB
  obtain ⟨c0, c1, c2, c3, c4, c5, c6, c7, c8, c9, c10, c11, c12, c13, c14, c15, c16, c17, c18, c19, c20, c21, c22, c23⟩ := unhide HC y1 (unhide HK1)
  go_wp2_with fail
  refine (unhide N2 _ (unhide HP1)).mono ?_
  rintro e y2 ⟨rfl, hP, kK⟩
  have HP2 := hide hP; have HK2 := hide ((unhide HK1).trans kK)
  clear hP kK
  obtain ⟨c0, c1, c2, c3, c4, c5, c6, c7, c8, c9, c10, c11, c12, c13, c14, c15, c16, c17, c18, c19, c20, c21, c22, c23⟩ := unhide HC y2 (unhide HK2)
  go_wp2_with fail
  refine (unhide N3 _ (unhide HP2)).mono ?_
  rintro e y3 ⟨rfl, hP, kK⟩
  have HP3 := hide hP; have HK3 := hide ((unhide HK2).trans kK)
  clear hP kK
  obtain ⟨c0, c1, c2, c3, c4, c5, c6, c7, c8, c9, c10, c11, c12, c13, c14, c15, c16, c17, c18, c19, c20, c21, c22, c23⟩ := unhide HC y3 (unhide HK3)
  have hPz := unhide HP3
  have HPZ := hide hPz; have HKZ := hide (unhide HF _ (unhide HK3))
  clear hPz
  go_wp2
  go_end0
  exact ⟨rfl, by rw [unhide HL, unhide HWW]; first | (simpa using unhide HPZ) | (simpa [blE] using unhide HPZ), unhide HKZ⟩
set_option maxHeartbeats 8000000 in
theorem panswer_none (a : An) (b : Nat) (ls : List (Int × ByteArray)) (er : Int) (w : World) (h : Parts w b ls er) (hl : ls.length ≤ 4) (hok : ∀ W, Below b w W → AnOK W a) (hd : a.dO ≠ 1 ∧ a.dO ≠ 3 ∧ a.dO ≠ 4 ∧ a.dO ≠ 5 ∧ a.dO ≠ 6) :
    Calls Tryz.prog 16 #[.pointer (some ⟨b, 0, none⟩), .agg (anC a)] w fun e w' => e = .returned (.tuple #[]) ∧ Parts w' b (ls ++ addL a) (addW a er) ∧ Kp b w w' := by
  have hlt := h.lt
  obtain ⟨W1, hW1⟩ : ∃ W1, W1 = w.alloc (.cells (anC a) 37) := ⟨_, rfl⟩
  have hB1 : Below w.heap.size w W1 := by rw [hW1]; exact (Below.refl _ _).alloc (Nat.le_refl _) _
  have hX1 : W1.heap[w.heap.size]? = some (.cells (anC a) 37) := by rw [hW1]; exact heap_alloc_new _ _
  have hno := noIt_an hX1
  have hs1 : w.heap.size < W1.heap.size := block_ltQ hX1
  have hK1 : Kp b w W1 := Kp.of_below hB1 (Nat.le_of_lt hlt)
  have HC : Hid (∀ wx, Kp b W1 wx → AnAt wx w.heap.size a) := hide (fun wx k => anAt_of ((k.keep _ hs1 (by omega) hno).trans hX1))
  have HOK : Hid (∀ wx, Kp b W1 wx → AnOK wx a) := hide (fun wx k => hok wx (hK1.bel.trans k.bel))
  have HF : Hid (∀ wx, Kp b W1 wx → Kp b w wx) := hide (fun wx k => hK1.trans k)
  have HP0 := hide (h.below hB1); have HW := hide hW1
  have HLB : Hid (b ≤ W1.heap.size) := hide (by omega)
  obtain ⟨c0, c1, c2, c3, c4, c5, c6, c7, c8, c9, c10, c11, c12, c13, c14, c15, c16, c17, c18, c19, c20, c21, c22, c23⟩ := unhide HC W1 (Kp.refl _ _)
  have HK0 : Hid (Kp b W1 W1) := hide (Kp.refl _ _)
  have HH := hide hok
  have HOK0 := hide (hok w (Below.refl _ _))
  have hb1 : (a.dO == 1) = false := by simpa using (show ¬ a.dO = 1 by omega)
  have hb3 : (a.dO == 3) = false := by simpa using (show ¬ a.dO = 3 by omega)
  have hb4 : (a.dO == 4) = false := by simpa using (show ¬ a.dO = 4 by omega)
  have hb5 : (a.dO == 5) = false := by simpa using (show ¬ a.dO = 5 by omega)
  have hb6 : (a.dO == 6) = false := by simpa using (show ¬ a.dO = 6 by omega)
  have HL : Hid (addL a = []) := hide (by unfold addL; rw [if_neg (by omega), if_neg (by omega), if_neg (by omega), if_neg (by omega)])
  have HWW : Hid (addW a er = er) := hide (by unfold addW; rw [if_neg (by omega), if_neg (by omega), if_neg (by omega), if_neg (by omega)])
  clear hd
  clear h hlt hW1 hB1 hX1 hno hs1 hK1 hok
  unfold anC
  unfold anC at HW
  go_enter Tryz.func16, Tryz.ntmps16
  go_upto_region 2 with fail
  rw [← unhide HW]
  have hPz := unhide HP0
  have HPZ := hide hPz; have HKZ := hide (unhide HF _ (unhide HK0))
  clear hPz
  go_wp2
  go_end0
  exact ⟨rfl, by rw [unhide HL, unhide HWW]; first | (simpa using unhide HPZ) | (simpa [blE] using unhide HPZ), unhide HKZ⟩
set_option maxHeartbeats 8000000 in
theorem panswer_three (a : An) (b : Nat) (ls : List (Int × ByteArray)) (er : Int) (w : World) (h : Parts w b ls er) (hl : ls.length ≤ 4) (hok : ∀ W, Below b w W → AnOK W a) (hd : a.dO = 3) :
    Calls Tryz.prog 16 #[.pointer (some ⟨b, 0, none⟩), .agg (anC a)] w fun e w' => e = .returned (.tuple #[]) ∧ Parts w' b (ls ++ addL a) (addW a er) ∧ Kp b w w' := by
  have hlt := h.lt
  obtain ⟨W1, hW1⟩ : ∃ W1, W1 = w.alloc (.cells (anC a) 37) := ⟨_, rfl⟩
  have hB1 : Below w.heap.size w W1 := by rw [hW1]; exact (Below.refl _ _).alloc (Nat.le_refl _) _
  have hX1 : W1.heap[w.heap.size]? = some (.cells (anC a) 37) := by rw [hW1]; exact heap_alloc_new _ _
  have hno := noIt_an hX1
  have hs1 : w.heap.size < W1.heap.size := block_ltQ hX1
  have hK1 : Kp b w W1 := Kp.of_below hB1 (Nat.le_of_lt hlt)
  have HC : Hid (∀ wx, Kp b W1 wx → AnAt wx w.heap.size a) := hide (fun wx k => anAt_of ((k.keep _ hs1 (by omega) hno).trans hX1))
  have HOK : Hid (∀ wx, Kp b W1 wx → AnOK wx a) := hide (fun wx k => hok wx (hK1.bel.trans k.bel))
  have HF : Hid (∀ wx, Kp b W1 wx → Kp b w wx) := hide (fun wx k => hK1.trans k)
  have HP0 := hide (h.below hB1); have HW := hide hW1
  have HLB : Hid (b ≤ W1.heap.size) := hide (by omega)
  obtain ⟨c0, c1, c2, c3, c4, c5, c6, c7, c8, c9, c10, c11, c12, c13, c14, c15, c16, c17, c18, c19, c20, c21, c22, c23⟩ := unhide HC W1 (Kp.refl _ _)
  have HK0 : Hid (Kp b W1 W1) := hide (Kp.refl _ _)
  have HH := hide hok
  have HOK0 := hide (hok w (Below.refl _ _))
  have hb1 : (a.dO == 1) = false := by rw [hd]; rfl
  have hb3 : (a.dO == 3) = true := by rw [hd]; rfl
  have hb4 : (a.dO == 4) = false := by rw [hd]; rfl
  have hb5 : (a.dO == 5) = false := by rw [hd]; rfl
  have hb6 : (a.dO == 6) = false := by rw [hd]; rfl
  have HL : Hid (addL a = [(131, numS a.count 2), (132, numS a.last 2), (133, fileS a.fl), (134, a.fl.isig), (135, a.fl.irest), (136, a.fl.csig), (137, a.fl.crest)]) := hide (by unfold addL; rw [if_neg (by omega), if_pos hd])
  have HWW : Hid (addW a er = blE (blE (blE er (numE a.count 2)) (numE a.last 2)) (fileE a.fl)) := hide (by unfold addW; rw [if_neg (by omega), if_pos hd])
  have N1 := hide (fun (W : World) (h : Parts W b ls er) => pnumber_anyK b ls er 131 a.count 2 W h (by omega) (unhide HOK0).count)
  have N2 := hide (fun (W : World) (h : Parts W b (ls ++ [(131, numS a.count 2)]) (blE er (numE a.count 2))) => pnumber_anyK b (ls ++ [(131, numS a.count 2)]) (blE er (numE a.count 2)) 132 a.last 2 W h (by simp only [List.length_append, List.length_cons, List.length_nil]; omega) (unhide HOK0).last)
  have N3 := hide (fun (W : World) (h : AnOK W a) => fileText_any a.fl W h.fl)
  unfold flC at N3
  have N4 := hide (fun (W : World) (h : Parts W b (ls ++ [(131, numS a.count 2)] ++ [(132, numS a.last 2)]) (blE (blE er (numE a.count 2)) (numE a.last 2))) => blame_anyK b (ls ++ [(131, numS a.count 2)] ++ [(132, numS a.last 2)]) (blE (blE er (numE a.count 2)) (numE a.last 2)) (fileE a.fl) W h)
  have N5 := hide (fun (W : World) (h : Parts W b (ls ++ [(131, numS a.count 2)] ++ [(132, numS a.last 2)]) (blE (blE (blE er (numE a.count 2)) (numE a.last 2)) (fileE a.fl))) => text_anyK b (ls ++ [(131, numS a.count 2)] ++ [(132, numS a.last 2)]) (blE (blE (blE er (numE a.count 2)) (numE a.last 2)) (fileE a.fl)) 133 (fileS a.fl) W h (by simp only [List.length_append, List.length_cons, List.length_nil]; omega))
  have N6 := hide (fun (W : World) (h : Parts W b (ls ++ [(131, numS a.count 2)] ++ [(132, numS a.last 2)] ++ [(133, fileS a.fl)]) (blE (blE (blE er (numE a.count 2)) (numE a.last 2)) (fileE a.fl))) => pcert_anyK b (ls ++ [(131, numS a.count 2)] ++ [(132, numS a.last 2)] ++ [(133, fileS a.fl)]) (blE (blE (blE er (numE a.count 2)) (numE a.last 2)) (fileE a.fl)) 134 135 a.fl.isig a.fl.irest W h (by simp only [List.length_append, List.length_cons, List.length_nil]; omega))
  have N7 := hide (fun (W : World) (h : Parts W b (ls ++ [(131, numS a.count 2)] ++ [(132, numS a.last 2)] ++ [(133, fileS a.fl)] ++ [(134, a.fl.isig), (135, a.fl.irest)]) (blE (blE (blE er (numE a.count 2)) (numE a.last 2)) (fileE a.fl))) => pcert_anyK b (ls ++ [(131, numS a.count 2)] ++ [(132, numS a.last 2)] ++ [(133, fileS a.fl)] ++ [(134, a.fl.isig), (135, a.fl.irest)]) (blE (blE (blE er (numE a.count 2)) (numE a.last 2)) (fileE a.fl)) 136 137 a.fl.csig a.fl.crest W h (by simp only [List.length_append, List.length_cons, List.length_nil]; omega))
  clear hd
  clear h hlt hW1 hB1 hX1 hno hs1 hK1 hok
  unfold anC
  unfold anC at HW
  go_enter Tryz.func16, Tryz.ntmps16
  go_upto_region 2 with fail
  rw [← unhide HW]
  go_wp2_with fail
  refine (unhide N1 _ (unhide HP0)).mono ?_
  rintro e y1 ⟨rfl, hP, kK⟩
  have HP1 := hide hP; have HK1 := hide ((unhide HK0).trans kK)
  clear hP kK
  obtain ⟨c0, c1, c2, c3, c4, c5, c6, c7, c8, c9, c10, c11, c12, c13, c14, c15, c16, c17, c18, c19, c20, c21, c22, c23⟩ := unhide HC y1 (unhide HK1)
  go_wp2_with fail
  refine (unhide N2 _ (unhide HP1)).mono ?_
  rintro e y2 ⟨rfl, hP, kK⟩
  have HP2 := hide hP; have HK2 := hide ((unhide HK1).trans kK)
  clear hP kK
  obtain ⟨c0, c1, c2, c3, c4, c5, c6, c7, c8, c9, c10, c11, c12, c13, c14, c15, c16, c17, c18, c19, c20, c21, c22, c23⟩ := unhide HC y2 (unhide HK2)
  go_wp2_with fail
  refine (unhide N3 _ (unhide HOK _ (unhide HK2))).mono ?_
  rintro e y3 ⟨rfl, kB⟩
  have HP3 := hide ((unhide HP2).below kB); have HK3 := hide ((unhide HK2).trans (Kp.of_below kB (Nat.le_trans (unhide HLB) (unhide HK2).bel.size)))
  clear kB
  obtain ⟨c0, c1, c2, c3, c4, c5, c6, c7, c8, c9, c10, c11, c12, c13, c14, c15, c16, c17, c18, c19, c20, c21, c22, c23⟩ := unhide HC y3 (unhide HK3)
  go_wp2_with fail
  refine (unhide N4 _ (unhide HP3)).mono ?_
  rintro e y4 ⟨rfl, hP, kK⟩
  have HP4 := hide hP; have HK4 := hide ((unhide HK3).trans kK)
  clear hP kK
  obtain ⟨c0, c1, c2, c3, c4, c5, c6, c7, c8, c9, c10, c11, c12, c13, c14, c15, c16, c17, c18, c19, c20, c21, c22, c23⟩ := unhide HC y4 (unhide HK4)
  go_wp2_with fail
  refine (unhide N5 _ (unhide HP4)).mono ?_
  rintro e y5 ⟨rfl, hP, kK⟩
  have HP5 := hide hP; have HK5 := hide ((unhide HK4).trans kK)
  clear hP kK
  obtain ⟨c0, c1, c2, c3, c4, c5, c6, c7, c8, c9, c10, c11, c12, c13, c14, c15, c16, c17, c18, c19, c20, c21, c22, c23⟩ := unhide HC y5 (unhide HK5)
  go_wp2_with fail
  refine (unhide N6 _ (unhide HP5)).mono ?_
  rintro e y6 ⟨rfl, hP, kK⟩
  have HP6 := hide hP; have HK6 := hide ((unhide HK5).trans kK)
  clear hP kK
  obtain ⟨c0, c1, c2, c3, c4, c5, c6, c7, c8, c9, c10, c11, c12, c13, c14, c15, c16, c17, c18, c19, c20, c21, c22, c23⟩ := unhide HC y6 (unhide HK6)
  go_wp2_with fail
  refine (unhide N7 _ (unhide HP6)).mono ?_
  rintro e y7 ⟨rfl, hP, kK⟩
  have HP7 := hide hP; have HK7 := hide ((unhide HK6).trans kK)
  clear hP kK
  obtain ⟨c0, c1, c2, c3, c4, c5, c6, c7, c8, c9, c10, c11, c12, c13, c14, c15, c16, c17, c18, c19, c20, c21, c22, c23⟩ := unhide HC y7 (unhide HK7)
  have hPz := unhide HP7
  have HPZ := hide hPz; have HKZ := hide (unhide HF _ (unhide HK7))
  clear hPz
  go_wp2
  go_end0
  exact ⟨rfl, by rw [unhide HL, unhide HWW]; first | (simpa using unhide HPZ) | (simpa [blE] using unhide HPZ), unhide HKZ⟩
set_option maxHeartbeats 8000000 in
theorem panswer_five (a : An) (b : Nat) (ls : List (Int × ByteArray)) (er : Int) (w : World) (h : Parts w b ls er) (hl : ls.length ≤ 4) (hok : ∀ W, Below b w W → AnOK W a) (hd : a.dO = 5) :
    Calls Tryz.prog 16 #[.pointer (some ⟨b, 0, none⟩), .agg (anC a)] w fun e w' => e = .returned (.tuple #[]) ∧ Parts w' b (ls ++ addL a) (addW a er) ∧ Kp b w w' := by
  have hlt := h.lt
  obtain ⟨W1, hW1⟩ : ∃ W1, W1 = w.alloc (.cells (anC a) 37) := ⟨_, rfl⟩
  have hB1 : Below w.heap.size w W1 := by rw [hW1]; exact (Below.refl _ _).alloc (Nat.le_refl _) _
  have hX1 : W1.heap[w.heap.size]? = some (.cells (anC a) 37) := by rw [hW1]; exact heap_alloc_new _ _
  have hno := noIt_an hX1
  have hs1 : w.heap.size < W1.heap.size := block_ltQ hX1
  have hK1 : Kp b w W1 := Kp.of_below hB1 (Nat.le_of_lt hlt)
  have HC : Hid (∀ wx, Kp b W1 wx → AnAt wx w.heap.size a) := hide (fun wx k => anAt_of ((k.keep _ hs1 (by omega) hno).trans hX1))
  have HOK : Hid (∀ wx, Kp b W1 wx → AnOK wx a) := hide (fun wx k => hok wx (hK1.bel.trans k.bel))
  have HF : Hid (∀ wx, Kp b W1 wx → Kp b w wx) := hide (fun wx k => hK1.trans k)
  have HP0 := hide (h.below hB1); have HW := hide hW1
  have HLB : Hid (b ≤ W1.heap.size) := hide (by omega)
  obtain ⟨c0, c1, c2, c3, c4, c5, c6, c7, c8, c9, c10, c11, c12, c13, c14, c15, c16, c17, c18, c19, c20, c21, c22, c23⟩ := unhide HC W1 (Kp.refl _ _)
  have HK0 : Hid (Kp b W1 W1) := hide (Kp.refl _ _)
  have HH := hide hok
  have HOK0 := hide (hok w (Below.refl _ _))
  have hb1 : (a.dO == 1) = false := by rw [hd]; rfl
  have hb3 : (a.dO == 3) = false := by rw [hd]; rfl
  have hb4 : (a.dO == 4) = false := by rw [hd]; rfl
  have hb5 : (a.dO == 5) = true := by rw [hd]; rfl
  have hb6 : (a.dO == 6) = false := by rw [hd]; rfl
  have HL : Hid (addL a = [(139, numS a.kind 1), (140, numS a.rcount 2), (141, a.sl), (142, a.bsig), (143, a.brest)]) := hide (by unfold addL; rw [if_neg (by omega), if_neg (by omega), if_neg (by omega), if_pos (by omega)])
  have HWW : Hid (addW a er = blE (blE er (numE a.kind 1)) (numE a.rcount 2)) := hide (by unfold addW; rw [if_neg (by omega), if_neg (by omega), if_neg (by omega), if_pos (by omega)])
  have N1 := hide (fun (W : World) (h : Parts W b ls er) => pnumber_anyK b ls er 139 a.kind 1 W h (by omega) (unhide HOK0).kind)
  have N2 := hide (fun (W : World) (h : Parts W b (ls ++ [(139, numS a.kind 1)]) (blE er (numE a.kind 1))) => pnumber_anyK b (ls ++ [(139, numS a.kind 1)]) (blE er (numE a.kind 1)) 140 a.rcount 2 W h (by simp only [List.length_append, List.length_cons, List.length_nil]; omega) (unhide HOK0).rcount)
  have N3 := hide (fun (W : World) (h : Parts W b (ls ++ [(139, numS a.kind 1)] ++ [(140, numS a.rcount 2)]) (blE (blE er (numE a.kind 1)) (numE a.rcount 2))) => text_anyK b (ls ++ [(139, numS a.kind 1)] ++ [(140, numS a.rcount 2)]) (blE (blE er (numE a.kind 1)) (numE a.rcount 2)) 141 a.sl W h (by simp only [List.length_append, List.length_cons, List.length_nil]; omega))
  have N4 := hide (fun (W : World) (h : Parts W b (ls ++ [(139, numS a.kind 1)] ++ [(140, numS a.rcount 2)] ++ [(141, a.sl)]) (blE (blE er (numE a.kind 1)) (numE a.rcount 2))) => pcert_anyK b (ls ++ [(139, numS a.kind 1)] ++ [(140, numS a.rcount 2)] ++ [(141, a.sl)]) (blE (blE er (numE a.kind 1)) (numE a.rcount 2)) 142 143 a.bsig a.brest W h (by simp only [List.length_append, List.length_cons, List.length_nil]; omega))
  clear hd
  clear h hlt hW1 hB1 hX1 hno hs1 hK1 hok
  unfold anC
  unfold anC at HW
  go_enter Tryz.func16, Tryz.ntmps16
  go_upto_region 2 with fail
  rw [← unhide HW]
  go_wp2_with fail
  refine (unhide N1 _ (unhide HP0)).mono ?_
  rintro e y1 ⟨rfl, hP, kK⟩
  have HP1 := hide hP; have HK1 := hide ((unhide HK0).trans kK)
  clear hP kK
  obtain ⟨c0, c1, c2, c3, c4, c5, c6, c7, c8, c9, c10, c11, c12, c13, c14, c15, c16, c17, c18, c19, c20, c21, c22, c23⟩ := unhide HC y1 (unhide HK1)
  go_wp2_with fail
  refine (unhide N2 _ (unhide HP1)).mono ?_
  rintro e y2 ⟨rfl, hP, kK⟩
  have HP2 := hide hP; have HK2 := hide ((unhide HK1).trans kK)
  clear hP kK
  obtain ⟨c0, c1, c2, c3, c4, c5, c6, c7, c8, c9, c10, c11, c12, c13, c14, c15, c16, c17, c18, c19, c20, c21, c22, c23⟩ := unhide HC y2 (unhide HK2)
  go_wp2_with fail
  refine (unhide N3 _ (unhide HP2)).mono ?_
  rintro e y3 ⟨rfl, hP, kK⟩
  have HP3 := hide hP; have HK3 := hide ((unhide HK2).trans kK)
  clear hP kK
  obtain ⟨c0, c1, c2, c3, c4, c5, c6, c7, c8, c9, c10, c11, c12, c13, c14, c15, c16, c17, c18, c19, c20, c21, c22, c23⟩ := unhide HC y3 (unhide HK3)
  go_wp2_with fail
  refine (unhide N4 _ (unhide HP3)).mono ?_
  rintro e y4 ⟨rfl, hP, kK⟩
  have HP4 := hide hP; have HK4 := hide ((unhide HK3).trans kK)
  clear hP kK
  obtain ⟨c0, c1, c2, c3, c4, c5, c6, c7, c8, c9, c10, c11, c12, c13, c14, c15, c16, c17, c18, c19, c20, c21, c22, c23⟩ := unhide HC y4 (unhide HK4)
  have hPz := unhide HP4
  have HPZ := hide hPz; have HKZ := hide (unhide HF _ (unhide HK4))
  clear hPz
  go_wp2
  go_end0
  exact ⟨rfl, by rw [unhide HL, unhide HWW]; first | (simpa using unhide HPZ) | (simpa [blE] using unhide HPZ), unhide HKZ⟩
set_option maxHeartbeats 8000000 in
theorem panswer_six (a : An) (b : Nat) (ls : List (Int × ByteArray)) (er : Int) (w : World) (h : Parts w b ls er) (hl : ls.length ≤ 4) (hok : ∀ W, Below b w W → AnOK W a) (hd : a.dO = 6) :
    Calls Tryz.prog 16 #[.pointer (some ⟨b, 0, none⟩), .agg (anC a)] w fun e w' => e = .returned (.tuple #[]) ∧ Parts w' b (ls ++ addL a) (addW a er) ∧ Kp b w w' := by
  have hlt := h.lt
  obtain ⟨W1, hW1⟩ : ∃ W1, W1 = w.alloc (.cells (anC a) 37) := ⟨_, rfl⟩
  have hB1 : Below w.heap.size w W1 := by rw [hW1]; exact (Below.refl _ _).alloc (Nat.le_refl _) _
  have hX1 : W1.heap[w.heap.size]? = some (.cells (anC a) 37) := by rw [hW1]; exact heap_alloc_new _ _
  have hno := noIt_an hX1
  have hs1 : w.heap.size < W1.heap.size := block_ltQ hX1
  have hK1 : Kp b w W1 := Kp.of_below hB1 (Nat.le_of_lt hlt)
  have HC : Hid (∀ wx, Kp b W1 wx → AnAt wx w.heap.size a) := hide (fun wx k => anAt_of ((k.keep _ hs1 (by omega) hno).trans hX1))
  have HOK : Hid (∀ wx, Kp b W1 wx → AnOK wx a) := hide (fun wx k => hok wx (hK1.bel.trans k.bel))
  have HF : Hid (∀ wx, Kp b W1 wx → Kp b w wx) := hide (fun wx k => hK1.trans k)
  have HP0 := hide (h.below hB1); have HW := hide hW1
  have HLB : Hid (b ≤ W1.heap.size) := hide (by omega)
  obtain ⟨c0, c1, c2, c3, c4, c5, c6, c7, c8, c9, c10, c11, c12, c13, c14, c15, c16, c17, c18, c19, c20, c21, c22, c23⟩ := unhide HC W1 (Kp.refl _ _)
  have HK0 : Hid (Kp b W1 W1) := hide (Kp.refl _ _)
  have HH := hide hok
  have HOK0 := hide (hok w (Below.refl _ _))
  have hb1 : (a.dO == 1) = false := by rw [hd]; rfl
  have hb3 : (a.dO == 3) = false := by rw [hd]; rfl
  have hb4 : (a.dO == 4) = false := by rw [hd]; rfl
  have hb5 : (a.dO == 5) = false := by rw [hd]; rfl
  have hb6 : (a.dO == 6) = true := by rw [hd]; rfl
  have HL : Hid (addL a = [(139, numS a.kind 1), (140, numS a.rcount 2), (141, a.sl), (142, a.bsig), (143, a.brest)]) := hide (by unfold addL; rw [if_neg (by omega), if_neg (by omega), if_neg (by omega), if_pos (by omega)])
  have HWW : Hid (addW a er = blE (blE er (numE a.kind 1)) (numE a.rcount 2)) := hide (by unfold addW; rw [if_neg (by omega), if_neg (by omega), if_neg (by omega), if_pos (by omega)])
  have N1 := hide (fun (W : World) (h : Parts W b ls er) => pnumber_anyK b ls er 139 a.kind 1 W h (by omega) (unhide HOK0).kind)
  have N2 := hide (fun (W : World) (h : Parts W b (ls ++ [(139, numS a.kind 1)]) (blE er (numE a.kind 1))) => pnumber_anyK b (ls ++ [(139, numS a.kind 1)]) (blE er (numE a.kind 1)) 140 a.rcount 2 W h (by simp only [List.length_append, List.length_cons, List.length_nil]; omega) (unhide HOK0).rcount)
  have N3 := hide (fun (W : World) (h : Parts W b (ls ++ [(139, numS a.kind 1)] ++ [(140, numS a.rcount 2)]) (blE (blE er (numE a.kind 1)) (numE a.rcount 2))) => text_anyK b (ls ++ [(139, numS a.kind 1)] ++ [(140, numS a.rcount 2)]) (blE (blE er (numE a.kind 1)) (numE a.rcount 2)) 141 a.sl W h (by simp only [List.length_append, List.length_cons, List.length_nil]; omega))
  have N4 := hide (fun (W : World) (h : Parts W b (ls ++ [(139, numS a.kind 1)] ++ [(140, numS a.rcount 2)] ++ [(141, a.sl)]) (blE (blE er (numE a.kind 1)) (numE a.rcount 2))) => pcert_anyK b (ls ++ [(139, numS a.kind 1)] ++ [(140, numS a.rcount 2)] ++ [(141, a.sl)]) (blE (blE er (numE a.kind 1)) (numE a.rcount 2)) 142 143 a.bsig a.brest W h (by simp only [List.length_append, List.length_cons, List.length_nil]; omega))
  clear hd
  clear h hlt hW1 hB1 hX1 hno hs1 hK1 hok
  unfold anC
  unfold anC at HW
  go_enter Tryz.func16, Tryz.ntmps16
  go_upto_region 2 with fail
  rw [← unhide HW]
  go_wp2_with fail
  refine (unhide N1 _ (unhide HP0)).mono ?_
  rintro e y1 ⟨rfl, hP, kK⟩
  have HP1 := hide hP; have HK1 := hide ((unhide HK0).trans kK)
  clear hP kK
  obtain ⟨c0, c1, c2, c3, c4, c5, c6, c7, c8, c9, c10, c11, c12, c13, c14, c15, c16, c17, c18, c19, c20, c21, c22, c23⟩ := unhide HC y1 (unhide HK1)
  go_wp2_with fail
  refine (unhide N2 _ (unhide HP1)).mono ?_
  rintro e y2 ⟨rfl, hP, kK⟩
  have HP2 := hide hP; have HK2 := hide ((unhide HK1).trans kK)
  clear hP kK
  obtain ⟨c0, c1, c2, c3, c4, c5, c6, c7, c8, c9, c10, c11, c12, c13, c14, c15, c16, c17, c18, c19, c20, c21, c22, c23⟩ := unhide HC y2 (unhide HK2)
  go_wp2_with fail
  refine (unhide N3 _ (unhide HP2)).mono ?_
  rintro e y3 ⟨rfl, hP, kK⟩
  have HP3 := hide hP; have HK3 := hide ((unhide HK2).trans kK)
  clear hP kK
  obtain ⟨c0, c1, c2, c3, c4, c5, c6, c7, c8, c9, c10, c11, c12, c13, c14, c15, c16, c17, c18, c19, c20, c21, c22, c23⟩ := unhide HC y3 (unhide HK3)
  go_wp2_with fail
  refine (unhide N4 _ (unhide HP3)).mono ?_
  rintro e y4 ⟨rfl, hP, kK⟩
  have HP4 := hide hP; have HK4 := hide ((unhide HK3).trans kK)
  clear hP kK
  obtain ⟨c0, c1, c2, c3, c4, c5, c6, c7, c8, c9, c10, c11, c12, c13, c14, c15, c16, c17, c18, c19, c20, c21, c22, c23⟩ := unhide HC y4 (unhide HK4)
  have hPz := unhide HP4
  have HPZ := hide hPz; have HKZ := hide (unhide HF _ (unhide HK4))
  clear hPz
  go_wp2
  go_end0
  exact ⟨rfl, by rw [unhide HL, unhide HWW]; first | (simpa using unhide HPZ) | (simpa [blE] using unhide HPZ), unhide HKZ⟩
theorem panswer_any (a : An) (b : Nat) (ls : List (Int × ByteArray)) (er : Int) (w : World) (h : Parts w b ls er) (hl : ls.length ≤ 4) (hok : ∀ W, Below b w W → AnOK W a) :
    Calls Tryz.prog 16 #[.pointer (some ⟨b, 0, none⟩), .agg (anC a)] w fun e w' => e = .returned (.tuple #[]) ∧ Parts w' b (ls ++ addL a) (addW a er) ∧ Kp b w w' := by
  by_cases h1 : a.dO = 1
  · exact panswer_one a b ls er w h hl hok h1
  by_cases h3 : a.dO = 3
  · exact panswer_three a b ls er w h hl hok h3
  by_cases h4 : a.dO = 4
  · exact panswer_four a b ls er w h hl hok h4
  by_cases h5 : a.dO = 5
  · exact panswer_five a b ls er w h hl hok h5
  by_cases h6 : a.dO = 6
  · exact panswer_six a b ls er w h hl hok h6
  exact panswer_none a b ls er w h hl hok ⟨h1, h3, h4, h5, h6⟩
end Go.Proofs.YtfpglpefofcdeaaGreatDoor
