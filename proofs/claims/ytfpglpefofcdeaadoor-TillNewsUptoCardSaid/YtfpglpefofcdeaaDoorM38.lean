/- Command of the program. -/
import Derived.Test.YtfpglpefofcdeaaDoorM34
import Derived.Test.YtfpglpefofcdeaaDoorM37
namespace Go.Proofs.YtfpglpefofcdeaaDoor
open Go.RowKit
set_option linter.unusedVariables false

/-- what a command says, text by text -/
def cmdL (c : XCommand) : List (Int × ByteArray) :=
  if c.dO = 2 then [(128, numS c.dO 1), (129, c.name)]
  else if c.dO = 4 then [(128, numS c.dO 1), (130, c.digits)]
  else if c.dO = 5 then [(128, numS c.dO 1), (131, numS c.want 1), (132, dealS c.deal), (133, c.extra)]
  else if c.dO = 6 then [(128, numS c.dO 1), (131, numS c.want 1), (134, c.answer)]
  else if c.dO = 7 then [(128, numS c.dO 1), (135, c.orders)]
  else [(128, numS c.dO 1)]
/-- the first thing that is wrong with it -/
def cmdW (c : XCommand) : Int :=
  if c.dO = 5 then (if dealE c.deal = 0 then numE c.want 1 else dealE c.deal)
  else if c.dO = 6 then numE c.want 1 else 0
def commandE (c : XCommand) : Int := bif inT c.dO 1 7 then (bif decide (c = ownC c) then tellE 161 (cmdL c) (cmdW c) else 1) else 4
def commandS (c : XCommand) : ByteArray := bif inT c.dO 1 7 then (bif decide (c = ownC c) then tellS 161 (cmdL c) (cmdW c) else ⟨#[]⟩) else ⟨#[]⟩
theorem numE_do {n : Int} (h : 1 ≤ n ∧ n ≤ 7) : numE n 1 = 0 := numE_yes (by
  obtain ⟨k, rfl⟩ := Int.eq_ofNat_of_zero_le (show 0 ≤ n by omega)
  exact (numOk_nat k 1 (by decide) (by decide)).2 (by omega))
theorem numS_size1 (n : Int) : (numS n 1).size ≤ 1 := by
  unfold numS
  split
  · rw [strOfNums_size, bigL_length]; exact Nat.le_refl _
  · exact Nat.zero_le _
theorem dealS_size (d : XDeal) : (dealS d).size ≤ 45 := by
  unfold dealS
  split
  · rename_i h
    have k := (deal_in h).2.2.2.2.2
    have z2 := numS_size d.shop 4; have z3 := numS_size d.trace 4; have z4 := numS_size d.amount 8
    unfold dealT
    simp only [ByteArray.size_append, oneT_size, twoT_size]
    omega
  · exact Nat.zero_le _
theorem alloc_keepQT {w : World} {g : Nat} {o o' : Obj} (h : w.heap[g]? = some o) : (w.alloc o').heap[g]? = some o := by
  rw [((Below.refl w.heap.size w).alloc (Nat.le_refl _) o').block g (block_ltQ h)]; exact h
theorem parts_new (w : World) : Parts (w.alloc (.cells #[.slice none 0 0, .int .i64 0] 103)) w.heap.size [] 0 := ⟨_, heap_alloc_new w _, World.ownsRow_nil _ _ _ _⟩
theorem okL_cons {t : Int} {s : ByteArray} {l : List (Int × ByteArray)} (h1 : t ≤ 9223372036854775807) (h2 : s.size ≤ maxLen) (h : okL l) : okL ((t, s) :: l) := fun y hy => by
  rcases List.mem_cons.1 hy with rfl | h3
  · exact ⟨h1, h2⟩
  · exact h y h3
theorem okL_nil : okL [] := fun y hy => by cases hy
theorem neq_lit (a b : XCommand) (V W : Value) (hV : V = valCommand a) (hW : W = valCommand b) (w : World) : (binOp .neq 80 V W).run Tryd.prog w = .ok (.bool (!decide (a = b))) w := by
  rw [hV, hW]; exact neq_command a b w
theorem guard_lit (op : BinOp) (x y : Operand) (a b : XCommand) (V W : Value) (hV : V = valCommand a) (hW : W = valCommand b) (w : World) : (eqGuard op 80 x y V W).run Tryd.prog w = .ok () w := by
  rw [hV, hW]
  exact run_eqGuard_agg w op _ x y _ _ (by kernel_rfl)
set_option maxRecDepth 100000 in
set_option maxHeartbeats 8000000 in
theorem command_any (c : XCommand) (w : World) (hok : okCommand w c) (hbk : bulkCommand c ≤ 0x100000) :
    Calls Tryd.prog 30 #[valCommand c] w fun e w' => e = .returned (.tuple #[.string (commandS c), .int .i64 (commandE c)]) ∧ Below w.heap.size w w' := by
  have n1 := fun w => isDo_any c.dO w
  obtain ⟨S, hS⟩ : ∃ S, S = commandS c := ⟨_, rfl⟩
  obtain ⟨E, hE⟩ : ∃ E, E = commandE c := ⟨_, rfl⟩
  rw [← hS, ← hE]
  unfold commandS at hS
  unfold commandE at hE
  obtain ⟨V, hV⟩ : ∃ V, V = valCommand (ownC c) := ⟨_, rfl⟩
  have n2 := fun w => own_any c w
  rw [← hV] at n2
  have hne := fun w => neq_lit c (ownC c) (valCommand c) V rfl hV w
  have hgd := fun x y w => guard_lit .neq x y c (ownC c) (valCommand c) V rfl hV w
  generalize hbe : decide (c = ownC c) = be at *
  have HBE := hide hbe
  clear hbe hV
  obtain ⟨dO, nm, dg, wt, ⟨sh, tr, am, ca, dy, bt, no⟩, ex, an, od⟩ := c
  obtain ⟨⟨q1, q2⟩, q3, q4, ⟨q5, q6⟩, hokd, q7, q8, q9⟩ := hok
  simp only at q1 q2 q3 q4 q5 q6 q7 q8 q9
  unfold bulkCommand bulkDeal at hbk
  simp only at hbk
  have hvc : valCommand ⟨dO, nm, dg, wt, ⟨sh, tr, am, ca, dy, bt, no⟩, ex, an, od⟩ = .agg #[.int .i64 dO, .string nm, .string dg, .int .i64 wt, .int .i64 sh, .int .i64 tr, .int .i64 am, .bool ca, .int .i64 dy, .int .i64 bt, .string no, .string ex, .string an, .string od] := rfl
  rw [hvc] at n2 hne hgd ⊢
  simp only at n1 hS hE
  have HB0 := hide ((Below.refl w.heap.size w).alloc (Nat.le_refl _) (.cells #[.int .i64 dO, .string nm, .string dg, .int .i64 wt, .int .i64 sh, .int .i64 tr, .int .i64 am, .bool ca, .int .i64 dy, .int .i64 bt, .string no, .string ex, .string an, .string od] 80))
  have HK0 := hide (heap_alloc_new w (.cells #[.int .i64 dO, .string nm, .string dg, .int .i64 wt, .int .i64 sh, .int .i64 tr, .int .i64 am, .bool ca, .int .i64 dy, .int .i64 bt, .string no, .string ex, .string an, .string od] 80))
  cases hin : inT dO 1 7 with
  | false =>
    rw [hin] at hS hE n1
    obtain rfl : S = ⟨#[]⟩ := hS
    obtain rfl : E = 4 := hE
    have N1 := hide n1
    clear n1 n2 hne hgd hvc hin
    go_enter Tryd.func30, Tryd.ntmps30
    go_wp2_with fail
    refine (unhide N1 _).mono ?_
    rintro e w1 ⟨rfl, rfl⟩
    go_wp2
    go_ret2
    exact ⟨rfl, unhide HB0⟩
  | true =>
  rw [hin] at hS hE n1
  obtain ⟨hd1, hd7⟩ := inT_true.1 hin
  have hS1 : S = bif be then tellS 161 (cmdL ⟨dO, nm, dg, wt, ⟨sh, tr, am, ca, dy, bt, no⟩, ex, an, od⟩) (cmdW ⟨dO, nm, dg, wt, ⟨sh, tr, am, ca, dy, bt, no⟩, ex, an, od⟩) else ⟨#[]⟩ := hS
  have hE1 : E = bif be then tellE 161 (cmdL ⟨dO, nm, dg, wt, ⟨sh, tr, am, ca, dy, bt, no⟩, ex, an, od⟩) (cmdW ⟨dO, nm, dg, wt, ⟨sh, tr, am, ca, dy, bt, no⟩, ex, an, od⟩) else 1 := hE
  have N1 := hide n1; have N2 := hide n2
  clear n1 n2 hvc hin hS hE
  have HS := hide hS1; have HE := hide hE1
  clear hS1 hE1
  go_enter Tryd.func30, Tryd.ntmps30
  go_wp2_with fail
  refine (unhide N1 _).mono ?_
  rintro e wb ⟨rfl, hwb⟩
  obtain ⟨wa, hwa⟩ : ∃ wa, wa = w.alloc (.cells #[.int .i64 dO, .string nm, .string dg, .int .i64 wt, .int .i64 sh, .int .i64 tr, .int .i64 am, .bool ca, .int .i64 dy, .int .i64 bt, .string no, .string ex, .string an, .string od] 80) := ⟨_, rfl⟩
  rw [hwb, ← hwa]
  have hk := unhide HK0
  have hb0 := unhide HB0
  rw [← hwa] at hk hb0
  have hgs : wa.heap.size = w.heap.size + 1 := by rw [hwa]; simp
  have HGS := hide hgs
  clear hwb hwa HK0 HB0 hgs
  have C : ∀ (w2 : World) (j : Nat), Below wa.heap.size wa w2 → w2.cell? ⟨w.heap.size, j, none⟩ = (#[.int .i64 dO, .string nm, .string dg, .int .i64 wt, .int .i64 sh, .int .i64 tr, .int .i64 am, .bool ca, .int .i64 dy, .int .i64 bt, .string no, .string ex, .string an, .string od] : Array Value)[j]? := fun w2 j hb => by
    rw [cell_of_row _ _ j _ _ _ ((hb.block _ (block_ltQ hk)).trans hk)]
  have C0 := hide (fun (w2 : World) (hb : Below wa.heap.size wa w2) => (C w2 0 hb : w2.cell? ⟨w.heap.size, 0, none⟩ = some (.int .i64 dO)))
  have C1 := hide (fun (w2 : World) (hb : Below wa.heap.size wa w2) => (C w2 1 hb : w2.cell? ⟨w.heap.size, 1, none⟩ = some (.string nm)))
  have C2 := hide (fun (w2 : World) (hb : Below wa.heap.size wa w2) => (C w2 2 hb : w2.cell? ⟨w.heap.size, 2, none⟩ = some (.string dg)))
  have C3 := hide (fun (w2 : World) (hb : Below wa.heap.size wa w2) => (C w2 3 hb : w2.cell? ⟨w.heap.size, 3, none⟩ = some (.int .i64 wt)))
  have C4 := hide (fun (w2 : World) (hb : Below wa.heap.size wa w2) => (C w2 4 hb : w2.cell? ⟨w.heap.size, 4, none⟩ = some (.int .i64 sh)))
  have C5 := hide (fun (w2 : World) (hb : Below wa.heap.size wa w2) => (C w2 5 hb : w2.cell? ⟨w.heap.size, 5, none⟩ = some (.int .i64 tr)))
  have C6 := hide (fun (w2 : World) (hb : Below wa.heap.size wa w2) => (C w2 6 hb : w2.cell? ⟨w.heap.size, 6, none⟩ = some (.int .i64 am)))
  have C7 := hide (fun (w2 : World) (hb : Below wa.heap.size wa w2) => (C w2 7 hb : w2.cell? ⟨w.heap.size, 7, none⟩ = some (.bool ca)))
  have C8 := hide (fun (w2 : World) (hb : Below wa.heap.size wa w2) => (C w2 8 hb : w2.cell? ⟨w.heap.size, 8, none⟩ = some (.int .i64 dy)))
  have C9 := hide (fun (w2 : World) (hb : Below wa.heap.size wa w2) => (C w2 9 hb : w2.cell? ⟨w.heap.size, 9, none⟩ = some (.int .i64 bt)))
  have C10 := hide (fun (w2 : World) (hb : Below wa.heap.size wa w2) => (C w2 10 hb : w2.cell? ⟨w.heap.size, 10, none⟩ = some (.string no)))
  have C11 := hide (fun (w2 : World) (hb : Below wa.heap.size wa w2) => (C w2 11 hb : w2.cell? ⟨w.heap.size, 11, none⟩ = some (.string ex)))
  have C12 := hide (fun (w2 : World) (hb : Below wa.heap.size wa w2) => (C w2 12 hb : w2.cell? ⟨w.heap.size, 12, none⟩ = some (.string an)))
  have C13 := hide (fun (w2 : World) (hb : Below wa.heap.size wa w2) => (C w2 13 hb : w2.cell? ⟨w.heap.size, 13, none⟩ = some (.string od)))
  have HK := hide hk; have HB := hide hb0
  have c0 := unhide C0 wa (Below.refl _ _)
  have c1 := unhide C1 wa (Below.refl _ _)
  have c2 := unhide C2 wa (Below.refl _ _)
  have c3 := unhide C3 wa (Below.refl _ _)
  have c4 := unhide C4 wa (Below.refl _ _)
  have c5 := unhide C5 wa (Below.refl _ _)
  have c6 := unhide C6 wa (Below.refl _ _)
  have c7 := unhide C7 wa (Below.refl _ _)
  have c8 := unhide C8 wa (Below.refl _ _)
  have c9 := unhide C9 wa (Below.refl _ _)
  have c10 := unhide C10 wa (Below.refl _ _)
  have c11 := unhide C11 wa (Below.refl _ _)
  have c12 := unhide C12 wa (Below.refl _ _)
  have c13 := unhide C13 wa (Below.refl _ _)
  clear C hk hb0
  go_wp2_with fail
  go_region_held3 (fun w' => w'.cell? ⟨w.heap.size, 0, none⟩ = some (.int .i64 dO) ∧ w'.cell? ⟨w.heap.size, 1, none⟩ = some (.string nm) ∧ w'.cell? ⟨w.heap.size, 2, none⟩ = some (.string dg) ∧ w'.cell? ⟨w.heap.size, 3, none⟩ = some (.int .i64 wt) ∧ w'.cell? ⟨w.heap.size, 4, none⟩ = some (.int .i64 sh) ∧ w'.cell? ⟨w.heap.size, 5, none⟩ = some (.int .i64 tr) ∧ w'.cell? ⟨w.heap.size, 6, none⟩ = some (.int .i64 am) ∧ w'.cell? ⟨w.heap.size, 7, none⟩ = some (.bool ca) ∧ w'.cell? ⟨w.heap.size, 8, none⟩ = some (.int .i64 dy) ∧ w'.cell? ⟨w.heap.size, 9, none⟩ = some (.int .i64 bt) ∧ w'.cell? ⟨w.heap.size, 10, none⟩ = some (.string no) ∧ w'.cell? ⟨w.heap.size, 11, none⟩ = some (.string ex) ∧ w'.cell? ⟨w.heap.size, 12, none⟩ = some (.string an) ∧ w'.cell? ⟨w.heap.size, 13, none⟩ = some (.string od))
    (first | go_keep | (have hq := hc; go_split_ands; exact ⟨keep_cellQ hc (by with_reducible assumption), keep_cellQ hc (by with_reducible assumption), keep_cellQ hc (by with_reducible assumption), keep_cellQ hc (by with_reducible assumption), keep_cellQ hc (by with_reducible assumption), keep_cellQ hc (by with_reducible assumption), keep_cellQ hc (by with_reducible assumption), keep_cellQ hc (by with_reducible assumption), keep_cellQ hc (by with_reducible assumption), keep_cellQ hc (by with_reducible assumption), keep_cellQ hc (by with_reducible assumption), keep_cellQ hc (by with_reducible assumption), keep_cellQ hc (by with_reducible assumption), keep_cellQ hc (by with_reducible assumption)⟩))
    ((go_at_call 41; refine (unhide N2 _).mono ?_; rintro e w2 ⟨rfl, hc⟩))
  have hbx : Below w.heap.size w w2 := (unhide HB).trans (((Below.refl w.heap.size wa).drew).trans (hc.mono (by show w.heap.size ≤ wa.heap.size; have := unhide HGS; omega)))
  have hkx : w2.heap[w.heap.size]? = some (.cells #[.int .i64 dO, .string nm, .string dg, .int .i64 wt, .int .i64 sh, .int .i64 tr, .int .i64 am, .bool ca, .int .i64 dy, .int .i64 bt, .string no, .string ex, .string an, .string od] 80) := (hc.block _ (block_ltQ (unhide HK))).trans (unhide HK)
  have HBX := hide hbx; have HKX := hide hkx
  clear hbx hkx hc HK HB HGS hne hgd N1 N2 C0 c0 C1 c1 C2 c2 C3 c3 C4 c4 C5 c5 C6 c6 C7 c7 C8 c8 C9 c9 C10 c10 C11 c11 C12 c12 C13 c13
  cases be with
  | false =>
    obtain rfl : S = ⟨#[]⟩ := unhide HS
    obtain rfl : E = 1 := unhide HE
    go_wp2
    go_ret2
    exact ⟨rfl, unhide HBX⟩
  | true =>
  have hS2 : S = tellS 161 (cmdL ⟨dO, nm, dg, wt, ⟨sh, tr, am, ca, dy, bt, no⟩, ex, an, od⟩) (cmdW ⟨dO, nm, dg, wt, ⟨sh, tr, am, ca, dy, bt, no⟩, ex, an, od⟩) := unhide HS
  have hE2 : E = tellE 161 (cmdL ⟨dO, nm, dg, wt, ⟨sh, tr, am, ca, dy, bt, no⟩, ex, an, od⟩) (cmdW ⟨dO, nm, dg, wt, ⟨sh, tr, am, ca, dy, bt, no⟩, ex, an, od⟩) := unhide HE
  have HS2 := hide hS2; have HE2 := hide hE2
  have hlx : w.heap.size < w2.heap.size := block_ltQ (unhide HKX)
  have hkp := alloc_keepQT (o' := (.cells #[.slice none 0 0, .int .i64 0] 103)) (unhide HKX)
  have z0 : (w2.alloc (.cells #[.slice none 0 0, .int .i64 0] 103)).cell? ⟨w.heap.size, 0, none⟩ = some (.int .i64 dO) := cell_of_row _ _ 0 _ _ _ hkp
  have n3 := pnumber_any w2.heap.size [] 0 128 dO 1 _ (parts_new w2) (by simp) (by omega)
  have HP0 := hide hkp
  have HBP := hide ((unhide HBX).alloc (unhide HBX).size (.cells #[.slice none 0 0, .int .i64 0] 103))
  rw [if_pos rfl, numE_do ⟨hd1, hd7⟩, List.nil_append] at n3
  have z1 := numS_size1 dO
  have N3 := hide n3
  clear n3 hS2 hE2 HS HE hkp HBE
  obtain ⟨b, hb⟩ : ∃ b, b = w2.heap.size := ⟨_, rfl⟩
  rw [← hb] at hlx N3
  go_wp2_with fail
  rw [← hb]
  refine (unhide N3).mono ?_
  rintro e w3 ⟨rfl, hp3, hb3⟩
  have hbs : b ≤ (w2.alloc (.cells #[.slice none 0 0, .int .i64 0] 103)).heap.size := by rw [hb]; simp
  have hk3 := (hb3.block w.heap.size hlx).trans (unhide HP0)
  have hB3 : Below w.heap.size w w3 := (unhide HBP).trans (hb3.mono (Nat.le_of_lt hlx))
  have HK3 := hide hk3; have HP3 := hide hp3; have HB3 := hide hB3
  clear hk3 hp3 hB3 hb3 hbs HP0 HBP HBX HKX N3 z0 hb
  have hdo : dO = 1 ∨ dO = 2 ∨ dO = 3 ∨ dO = 4 ∨ dO = 5 ∨ dO = 6 ∨ dO = 7 := by omega
  clear hd1 hd7 q1 q2
  have y0 : w3.cell? ⟨w.heap.size, 0, none⟩ = some (.int .i64 dO) := cell_of_row _ _ 0 _ _ _ (unhide HK3)
  rcases hdo with rfl | rfl | rfl | rfl | rfl | rfl | rfl
  · have HT : Hid (cmdL ⟨1, nm, dg, wt, ⟨sh, tr, am, ca, dy, bt, no⟩, ex, an, od⟩ = [(128, numS 1 1)]) := hide rfl
    have HW : Hid (cmdW ⟨1, nm, dg, wt, ⟨sh, tr, am, ca, dy, bt, no⟩, ex, an, od⟩ = 0) := hide rfl
    have NP := hide (tprint_any b [(128, numS 1 1)] 0 161 w3 (unhide HP3) (by simp) (okL_cons (by decide) (by have := numS_size1 1; show (numS 1 1).size ≤ maxLen; unfold maxLen; omega) okL_nil) (by decide) (by have z1 := numS_size1 1; simp only [wtL, List.map_cons, List.map_nil, List.sum_cons, List.sum_nil]; omega))
    go_wp2_with fail
    refine (unhide NP).mono ?_
    rintro e wz ⟨rfl, hbz⟩
    have HBZ := hide ((unhide HB3).trans (hbz.mono (unhide HB3).size))
    have hS3 := unhide HS2
    have hE3 := unhide HE2
    rw [unhide HT, unhide HW] at hS3 hE3
    rw [← hS3, ← hE3]
    clear hbz hS3 hE3
    go_wp2
    go_ret2
    exact ⟨rfl, unhide HBZ⟩
  · have HT : Hid (cmdL ⟨2, nm, dg, wt, ⟨sh, tr, am, ca, dy, bt, no⟩, ex, an, od⟩ = [(128, numS 2 1), (129, nm)]) := hide rfl
    have HW : Hid (cmdW ⟨2, nm, dg, wt, ⟨sh, tr, am, ca, dy, bt, no⟩, ex, an, od⟩ = 0) := hide rfl
    have y1 : w3.cell? ⟨w.heap.size, 1, none⟩ = some (.string nm) := cell_of_row _ _ 1 _ _ _ (unhide HK3)
    have nn := text_any b [(128, numS 2 1)] 0 129 nm w3 (unhide HP3) (by simp)
    have NN3 := hide nn
    clear nn
    go_wp2_with fail
    refine (unhide NN3).mono ?_
    rintro e w4 ⟨rfl, hp, hb4⟩
    have hp' : Parts w4 b [(128, numS 2 1), (129, nm)] 0 := hp
    have HK4 := hide ((hb4.block _ hlx).trans (unhide HK3))
    have HP4 := hide hp'
    have HB4 := hide ((unhide HB3).trans (hb4.mono (Nat.le_of_lt hlx)))
    clear hb4 HK3 HP3 HB3 NN3 hp hp' y0 y1
    have NP := hide (tprint_any b [(128, numS 2 1), (129, nm)] 0 161 w4 (unhide HP4) (by simp) (okL_cons (by decide) (by have := numS_size1 2; show (numS 2 1).size ≤ maxLen; unfold maxLen; omega) (okL_cons (by decide) q3 okL_nil)) (by decide) (by have z1 := numS_size1 2; simp only [wtL, List.map_cons, List.map_nil, List.sum_cons, List.sum_nil]; omega))
    go_wp2_with fail
    refine (unhide NP).mono ?_
    rintro e wz ⟨rfl, hbz⟩
    have HBZ := hide ((unhide HB4).trans (hbz.mono (unhide HB4).size))
    have hS3 := unhide HS2
    have hE3 := unhide HE2
    rw [unhide HT, unhide HW] at hS3 hE3
    rw [← hS3, ← hE3]
    clear hbz hS3 hE3
    go_wp2
    go_ret2
    exact ⟨rfl, unhide HBZ⟩
  · have HT : Hid (cmdL ⟨3, nm, dg, wt, ⟨sh, tr, am, ca, dy, bt, no⟩, ex, an, od⟩ = [(128, numS 3 1)]) := hide rfl
    have HW : Hid (cmdW ⟨3, nm, dg, wt, ⟨sh, tr, am, ca, dy, bt, no⟩, ex, an, od⟩ = 0) := hide rfl
    have NP := hide (tprint_any b [(128, numS 3 1)] 0 161 w3 (unhide HP3) (by simp) (okL_cons (by decide) (by have := numS_size1 3; show (numS 3 1).size ≤ maxLen; unfold maxLen; omega) okL_nil) (by decide) (by have z1 := numS_size1 3; simp only [wtL, List.map_cons, List.map_nil, List.sum_cons, List.sum_nil]; omega))
    go_wp2_with fail
    refine (unhide NP).mono ?_
    rintro e wz ⟨rfl, hbz⟩
    have HBZ := hide ((unhide HB3).trans (hbz.mono (unhide HB3).size))
    have hS3 := unhide HS2
    have hE3 := unhide HE2
    rw [unhide HT, unhide HW] at hS3 hE3
    rw [← hS3, ← hE3]
    clear hbz hS3 hE3
    go_wp2
    go_ret2
    exact ⟨rfl, unhide HBZ⟩
  · have HT : Hid (cmdL ⟨4, nm, dg, wt, ⟨sh, tr, am, ca, dy, bt, no⟩, ex, an, od⟩ = [(128, numS 4 1), (130, dg)]) := hide rfl
    have HW : Hid (cmdW ⟨4, nm, dg, wt, ⟨sh, tr, am, ca, dy, bt, no⟩, ex, an, od⟩ = 0) := hide rfl
    have y2 : w3.cell? ⟨w.heap.size, 2, none⟩ = some (.string dg) := cell_of_row _ _ 2 _ _ _ (unhide HK3)
    have nn := text_any b [(128, numS 4 1)] 0 130 dg w3 (unhide HP3) (by simp)
    have NN3 := hide nn
    clear nn
    go_wp2_with fail
    refine (unhide NN3).mono ?_
    rintro e w4 ⟨rfl, hp, hb4⟩
    have hp' : Parts w4 b [(128, numS 4 1), (130, dg)] 0 := hp
    have HK4 := hide ((hb4.block _ hlx).trans (unhide HK3))
    have HP4 := hide hp'
    have HB4 := hide ((unhide HB3).trans (hb4.mono (Nat.le_of_lt hlx)))
    clear hb4 HK3 HP3 HB3 NN3 hp hp' y0 y2
    have NP := hide (tprint_any b [(128, numS 4 1), (130, dg)] 0 161 w4 (unhide HP4) (by simp) (okL_cons (by decide) (by have := numS_size1 4; show (numS 4 1).size ≤ maxLen; unfold maxLen; omega) (okL_cons (by decide) q4 okL_nil)) (by decide) (by have z1 := numS_size1 4; simp only [wtL, List.map_cons, List.map_nil, List.sum_cons, List.sum_nil]; omega))
    go_wp2_with fail
    refine (unhide NP).mono ?_
    rintro e wz ⟨rfl, hbz⟩
    have HBZ := hide ((unhide HB4).trans (hbz.mono (unhide HB4).size))
    have hS3 := unhide HS2
    have hE3 := unhide HE2
    rw [unhide HT, unhide HW] at hS3 hE3
    rw [← hS3, ← hE3]
    clear hbz hS3 hE3
    go_wp2
    go_ret2
    exact ⟨rfl, unhide HBZ⟩
  · have HT : Hid (cmdL ⟨5, nm, dg, wt, ⟨sh, tr, am, ca, dy, bt, no⟩, ex, an, od⟩ = [(128, numS 5 1), (131, numS wt 1), (132, dealS ⟨sh, tr, am, ca, dy, bt, no⟩), (133, ex)]) := hide rfl
    have HW : Hid (cmdW ⟨5, nm, dg, wt, ⟨sh, tr, am, ca, dy, bt, no⟩, ex, an, od⟩ = (if dealE ⟨sh, tr, am, ca, dy, bt, no⟩ = 0 then numE wt 1 else dealE ⟨sh, tr, am, ca, dy, bt, no⟩)) := hide rfl
    have n9 := fun w => dealText_any ⟨sh, tr, am, ca, dy, bt, no⟩ w hokd
    have zds := dealS_size ⟨sh, tr, am, ca, dy, bt, no⟩
    generalize dealS ⟨sh, tr, am, ca, dy, bt, no⟩ = ds at *
    generalize dealE ⟨sh, tr, am, ca, dy, bt, no⟩ = de at *
    have hvd : valDeal ⟨sh, tr, am, ca, dy, bt, no⟩ = .agg #[.int .i64 sh, .int .i64 tr, .int .i64 am, .bool ca, .int .i64 dy, .int .i64 bt, .string no] := rfl
    rw [hvd] at n9
    have N9 := hide n9
    clear n9 hvd
    have y4 : w3.cell? ⟨w.heap.size, 4, none⟩ = some (.int .i64 sh) := cell_of_row _ _ 4 _ _ _ (unhide HK3)
    have y5 : w3.cell? ⟨w.heap.size, 5, none⟩ = some (.int .i64 tr) := cell_of_row _ _ 5 _ _ _ (unhide HK3)
    have y6 : w3.cell? ⟨w.heap.size, 6, none⟩ = some (.int .i64 am) := cell_of_row _ _ 6 _ _ _ (unhide HK3)
    have y7 : w3.cell? ⟨w.heap.size, 7, none⟩ = some (.bool ca) := cell_of_row _ _ 7 _ _ _ (unhide HK3)
    have y8 : w3.cell? ⟨w.heap.size, 8, none⟩ = some (.int .i64 dy) := cell_of_row _ _ 8 _ _ _ (unhide HK3)
    have y9 : w3.cell? ⟨w.heap.size, 9, none⟩ = some (.int .i64 bt) := cell_of_row _ _ 9 _ _ _ (unhide HK3)
    have y10 : w3.cell? ⟨w.heap.size, 10, none⟩ = some (.string no) := cell_of_row _ _ 10 _ _ _ (unhide HK3)
    go_wp2_with fail
    refine (unhide N9 _).mono ?_
    rintro e w4 ⟨rfl, hb4⟩
    have HK4 := hide ((hb4.block _ (block_ltQ (unhide HK3))).trans (unhide HK3))
    have HP4 := hide ((unhide HP3).below hb4)
    have HB4 := hide ((unhide HB3).trans (hb4.mono (unhide HB3).size))
    clear hb4 HK3 HP3 HB3 y0 y4 y5 y6 y7 y8 y9 y10
    have nn := blame_any b [(128, numS 5 1)] 0 de w4 (unhide HP4)
    rw [if_pos rfl] at nn
    have NN4 := hide nn
    clear nn
    go_wp2_with fail
    refine (unhide NN4).mono ?_
    rintro e w5 ⟨rfl, hp, hb5⟩
    have hp' : Parts w5 b [(128, numS 5 1)] de := hp
    have HK5 := hide ((hb5.block _ hlx).trans (unhide HK4))
    have HP5 := hide hp'
    have HB5 := hide ((unhide HB4).trans (hb5.mono (Nat.le_of_lt hlx)))
    clear hb5 HK4 HP4 HB4 NN4 hp hp'
    have y3 : w5.cell? ⟨w.heap.size, 3, none⟩ = some (.int .i64 wt) := cell_of_row _ _ 3 _ _ _ (unhide HK5)
    have nn := pnumber_any b [(128, numS 5 1)] de 131 wt 1 w5 (unhide HP5) (by simp) (by omega)
    have NN5 := hide nn
    clear nn
    go_wp2_with fail
    refine (unhide NN5).mono ?_
    rintro e w6 ⟨rfl, hp, hb6⟩
    have hp' : Parts w6 b [(128, numS 5 1), (131, numS wt 1)] (if de = 0 then numE wt 1 else de) := hp
    have HK6 := hide ((hb6.block _ hlx).trans (unhide HK5))
    have HP6 := hide hp'
    have HB6 := hide ((unhide HB5).trans (hb6.mono (Nat.le_of_lt hlx)))
    clear hb6 HK5 HP5 HB5 NN5 hp hp' y3
    have nn := text_any b [(128, numS 5 1), (131, numS wt 1)] (if de = 0 then numE wt 1 else de) 132 ds w6 (unhide HP6) (by simp)
    have NN6 := hide nn
    clear nn
    go_wp2_with fail
    refine (unhide NN6).mono ?_
    rintro e w7 ⟨rfl, hp, hb7⟩
    have hp' : Parts w7 b [(128, numS 5 1), (131, numS wt 1), (132, ds)] (if de = 0 then numE wt 1 else de) := hp
    have HK7 := hide ((hb7.block _ hlx).trans (unhide HK6))
    have HP7 := hide hp'
    have HB7 := hide ((unhide HB6).trans (hb7.mono (Nat.le_of_lt hlx)))
    clear hb7 HK6 HP6 HB6 NN6 hp hp'
    have y11 : w7.cell? ⟨w.heap.size, 11, none⟩ = some (.string ex) := cell_of_row _ _ 11 _ _ _ (unhide HK7)
    have nn := text_any b [(128, numS 5 1), (131, numS wt 1), (132, ds)] (if de = 0 then numE wt 1 else de) 133 ex w7 (unhide HP7) (by simp)
    have NN7 := hide nn
    clear nn
    go_wp2_with fail
    refine (unhide NN7).mono ?_
    rintro e w8 ⟨rfl, hp, hb8⟩
    have hp' : Parts w8 b [(128, numS 5 1), (131, numS wt 1), (132, ds), (133, ex)] (if de = 0 then numE wt 1 else de) := hp
    have HK8 := hide ((hb8.block _ hlx).trans (unhide HK7))
    have HP8 := hide hp'
    have HB8 := hide ((unhide HB7).trans (hb8.mono (Nat.le_of_lt hlx)))
    clear hb8 HK7 HP7 HB7 NN7 hp hp' y11
    have NP := hide (tprint_any b [(128, numS 5 1), (131, numS wt 1), (132, ds), (133, ex)] (if de = 0 then numE wt 1 else de) 161 w8 (unhide HP8) (by simp) (okL_cons (by decide) (by have := numS_size1 5; show (numS 5 1).size ≤ maxLen; unfold maxLen; omega) (okL_cons (by decide) (by have := numS_size1 wt; show (numS wt 1).size ≤ maxLen; unfold maxLen; omega) (okL_cons (by decide) (by unfold maxLen; omega) (okL_cons (by decide) q7 okL_nil)))) (by decide) (by have z1 := numS_size1 5; have z2 := numS_size1 wt; simp only [wtL, List.map_cons, List.map_nil, List.sum_cons, List.sum_nil]; omega))
    go_wp2_with fail
    refine (unhide NP).mono ?_
    rintro e wz ⟨rfl, hbz⟩
    have HBZ := hide ((unhide HB8).trans (hbz.mono (unhide HB8).size))
    have hS3 := unhide HS2
    have hE3 := unhide HE2
    rw [unhide HT, unhide HW] at hS3 hE3
    rw [← hS3, ← hE3]
    clear hbz hS3 hE3
    go_wp2
    go_ret2
    exact ⟨rfl, unhide HBZ⟩
  · have HT : Hid (cmdL ⟨6, nm, dg, wt, ⟨sh, tr, am, ca, dy, bt, no⟩, ex, an, od⟩ = [(128, numS 6 1), (131, numS wt 1), (134, an)]) := hide rfl
    have HW : Hid (cmdW ⟨6, nm, dg, wt, ⟨sh, tr, am, ca, dy, bt, no⟩, ex, an, od⟩ = (numE wt 1)) := hide rfl
    have y3 : w3.cell? ⟨w.heap.size, 3, none⟩ = some (.int .i64 wt) := cell_of_row _ _ 3 _ _ _ (unhide HK3)
    have nn := pnumber_any b [(128, numS 6 1)] 0 131 wt 1 w3 (unhide HP3) (by simp) (by omega)
    rw [if_pos rfl] at nn
    have NN3 := hide nn
    clear nn
    go_wp2_with fail
    refine (unhide NN3).mono ?_
    rintro e w4 ⟨rfl, hp, hb4⟩
    have hp' : Parts w4 b [(128, numS 6 1), (131, numS wt 1)] (numE wt 1) := hp
    have HK4 := hide ((hb4.block _ hlx).trans (unhide HK3))
    have HP4 := hide hp'
    have HB4 := hide ((unhide HB3).trans (hb4.mono (Nat.le_of_lt hlx)))
    clear hb4 HK3 HP3 HB3 NN3 hp hp' y0 y3
    have y12 : w4.cell? ⟨w.heap.size, 12, none⟩ = some (.string an) := cell_of_row _ _ 12 _ _ _ (unhide HK4)
    have nn := text_any b [(128, numS 6 1), (131, numS wt 1)] (numE wt 1) 134 an w4 (unhide HP4) (by simp)
    have NN4 := hide nn
    clear nn
    go_wp2_with fail
    refine (unhide NN4).mono ?_
    rintro e w5 ⟨rfl, hp, hb5⟩
    have hp' : Parts w5 b [(128, numS 6 1), (131, numS wt 1), (134, an)] (numE wt 1) := hp
    have HK5 := hide ((hb5.block _ hlx).trans (unhide HK4))
    have HP5 := hide hp'
    have HB5 := hide ((unhide HB4).trans (hb5.mono (Nat.le_of_lt hlx)))
    clear hb5 HK4 HP4 HB4 NN4 hp hp' y12
    have NP := hide (tprint_any b [(128, numS 6 1), (131, numS wt 1), (134, an)] (numE wt 1) 161 w5 (unhide HP5) (by simp) (okL_cons (by decide) (by have := numS_size1 6; show (numS 6 1).size ≤ maxLen; unfold maxLen; omega) (okL_cons (by decide) (by have := numS_size1 wt; show (numS wt 1).size ≤ maxLen; unfold maxLen; omega) (okL_cons (by decide) q8 okL_nil))) (by decide) (by have z1 := numS_size1 6; have z2 := numS_size1 wt; simp only [wtL, List.map_cons, List.map_nil, List.sum_cons, List.sum_nil]; omega))
    go_wp2_with fail
    refine (unhide NP).mono ?_
    rintro e wz ⟨rfl, hbz⟩
    have HBZ := hide ((unhide HB5).trans (hbz.mono (unhide HB5).size))
    have hS3 := unhide HS2
    have hE3 := unhide HE2
    rw [unhide HT, unhide HW] at hS3 hE3
    rw [← hS3, ← hE3]
    clear hbz hS3 hE3
    go_wp2
    go_ret2
    exact ⟨rfl, unhide HBZ⟩
  · have HT : Hid (cmdL ⟨7, nm, dg, wt, ⟨sh, tr, am, ca, dy, bt, no⟩, ex, an, od⟩ = [(128, numS 7 1), (135, od)]) := hide rfl
    have HW : Hid (cmdW ⟨7, nm, dg, wt, ⟨sh, tr, am, ca, dy, bt, no⟩, ex, an, od⟩ = 0) := hide rfl
    have y13 : w3.cell? ⟨w.heap.size, 13, none⟩ = some (.string od) := cell_of_row _ _ 13 _ _ _ (unhide HK3)
    have nn := text_any b [(128, numS 7 1)] 0 135 od w3 (unhide HP3) (by simp)
    have NN3 := hide nn
    clear nn
    go_wp2_with fail
    refine (unhide NN3).mono ?_
    rintro e w4 ⟨rfl, hp, hb4⟩
    have hp' : Parts w4 b [(128, numS 7 1), (135, od)] 0 := hp
    have HK4 := hide ((hb4.block _ hlx).trans (unhide HK3))
    have HP4 := hide hp'
    have HB4 := hide ((unhide HB3).trans (hb4.mono (Nat.le_of_lt hlx)))
    clear hb4 HK3 HP3 HB3 NN3 hp hp' y0 y13
    have NP := hide (tprint_any b [(128, numS 7 1), (135, od)] 0 161 w4 (unhide HP4) (by simp) (okL_cons (by decide) (by have := numS_size1 7; show (numS 7 1).size ≤ maxLen; unfold maxLen; omega) (okL_cons (by decide) q9 okL_nil)) (by decide) (by have z1 := numS_size1 7; simp only [wtL, List.map_cons, List.map_nil, List.sum_cons, List.sum_nil]; omega))
    go_wp2_with fail
    refine (unhide NP).mono ?_
    rintro e wz ⟨rfl, hbz⟩
    have HBZ := hide ((unhide HB4).trans (hbz.mono (unhide HB4).size))
    have hS3 := unhide HS2
    have hE3 := unhide HE2
    rw [unhide HT, unhide HW] at hS3 hE3
    rw [← hS3, ← hE3]
    clear hbz hS3 hE3
    go_wp2
    go_ret2
    exact ⟨rfl, unhide HBZ⟩
end Go.Proofs.YtfpglpefofcdeaaDoor
