/- The step of a fold as the program does it. -/
import Derived.Test.YtajkbkljonejnaaGreatDoorM07
namespace Go.Proofs.YtajkbkljonejnaaGreatDoor
open Go.RowKit
set_option linter.unusedVariables false
theorem chain3 {b : Nat} {w W w2 w3 : World} (hlt : b < w.heap.size) (h1 : Below w.heap.size w W) (h2 : Below W.drew.heap.size W.drew w2) (h3 : Below w2.heap.size w2 w3) : Below b w w3 := by
  have s1 : w.heap.size ≤ W.drew.heap.size := h1.size
  have s2 : W.drew.heap.size ≤ w2.heap.size := h2.size
  have a1 : Below b w W.drew := (h1.mono (Nat.le_of_lt hlt)).drew
  have a2 : Below b w w2 := a1.trans (h2.mono (by omega))
  exact a2.trans (h3.mono (by omega))
theorem BlkAt.put4 {w : World} {b : Nat} {h : Blk} (H : BlkAt w b h) (t : Blk) : BlkAt ((((w.setCell ⟨b, 0, none⟩ (.int .u32 (t.a : Nat))).setCell ⟨b, 1, none⟩ (.int .u32 (t.b : Nat))).setCell ⟨b, 2, none⟩ (.int .u32 (t.c : Nat))).setCell ⟨b, 3, none⟩ (.int .u32 (t.d : Nat))) b t :=
  (((H.set 0 (by decide) t.a).set 1 (by decide) t.b).set 2 (by decide) t.c).set 3 (by decide) t.d
set_option maxHeartbeats 2000000 in
set_option maxRecDepth 100000 in
theorem fold1_any (p h : Blk) (hp : p.ok) (hh : h.ok) (b : Nat) (w : World) (hb : BlkAt w b h) :
    Calls Tryz.prog 116 #[blkV p, .pointer (some ⟨b, 0, none⟩)] w fun e w' => e = .returned (.tuple #[]) ∧ BlkAt w' b (foldStep h p) ∧ Below b w w' := by
  have r1 := fun w => forth_any p h hp hh w
  have r2 := fun w => xorw_any (fwd p 12 h) h (fwd_ok p 12 h hh) hh w
  have e2 : xorB (fwd p 12 h) h = foldStep h p := rfl
  rw [e2] at r2
  generalize foldStep h p = t at *
  generalize fwd p 12 h = f at *
  have hblt := hb.lt
  unfold blkV at *
  have R1 := hide r1
  have R2 := hide r2
  have HB := hide hb
  clear r1 r2 e2 hb
  go_enter Tryz.func116, Tryz.ntmps116
  go_wp2
  obtain ⟨hbel, q0, hsz⟩ := one_new w (.cells #[.int .u32 (p.a : Nat), .int .u32 (p.b : Nat), .int .u32 (p.c : Nat), .int .u32 (p.d : Nat)] 131)
  generalize w.alloc _ = W at hbel q0 hsz ⊢
  have hP : BlkAt W w.heap.size p := q0
  have hH : BlkAt W b h := (unhide HB).below hbel
  have p0 := hP.cell0
  have p1 := hP.cell1
  have p2 := hP.cell2
  have p3 := hP.cell3
  have c0 := hH.cell0
  have c1 := hH.cell1
  have c2 := hH.cell2
  have c3 := hH.cell3
  have H1 := hide hH
  have HBl := hide hbel
  clear q0 hsz hP hH hbel HB
  go_region_with (first
    | (go_at_call 78; refine (unhide R1 _).mono ?_; rintro e w2 ⟨rfl, hb2⟩; have H2 := hide (BlkAt.below (BlkAt.drew (unhide H1)) hb2); have d0 := (unhide H2).cell0; have d1 := (unhide H2).cell1; have d2 := (unhide H2).cell2; have d3 := (unhide H2).cell3)
    | (go_at_call 117; refine (unhide R2 _).mono ?_; rintro e w3 ⟨rfl, hb3⟩; have H3 := hide (BlkAt.below (unhide H2) hb3); have e0 := (unhide H3).cell0; have e1 := (unhide H3).cell1; have e2 := (unhide H3).cell2; have e3 := (unhide H3).cell3; have f0 := (unhide H3).frozen 0; have f1 := (unhide H3).frozen 1; have f2 := (unhide H3).frozen 2; have f3 := (unhide H3).frozen 3))
  all_goals
    go_wp2
    go_end0
    exact ⟨rfl, (unhide H3).put4 t, ((((chain3 hblt (unhide HBl) hb2 hb3).setCell (Nat.le_refl _) _).setCell (Nat.le_refl _) _).setCell (Nat.le_refl _) _).setCell (Nat.le_refl _) _⟩
end Go.Proofs.YtajkbkljonejnaaGreatDoor
