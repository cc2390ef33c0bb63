/- What an order does to a card's state, case by case. (Made by drafts/genCdC3.py.) -/
import Derived.Test.YtajkbkljonejnaaGreatDoorM18
import Derived.Test.YtajkbkljonejnaaGreatDoorM19
import Derived.Test.YtajkbkljonejnaaGreatDoorM20
import Derived.Test.YtajkbkljonejnaaGreatDoorM21
import Derived.Test.YtajkbkljonejnaaGreatDoorM14
import Derived.Deep.AppendLies
import Derived.Test.YtajkbkljonejnaaGreatDoorM05
import Derived.Test.YtajkbkljonejnaaGreatDoorM01
import Derived.Test.YtajkbkljonejnaaGreatDoorM00
namespace Go.Proofs.YtajkbkljonejnaaGreatDoor
open Go.RowKit
set_option linter.unusedVariables false
set_option linter.unusedSimpArgs false
set_option maxRecDepth 100000
set_option maxHeartbeats 8000000 in
theorem ordered_7 (tr : Int) (k : Ks) (x : XOrder) (w : World) (hx : x.what = 7) : Calls Tryz.prog 33 #[valK k, .agg #[.int .i64 x.what, .int .i64 x.n, .string x.text], .int .i64 tr] w fun e w' => e = .returned (valK (orderedK tr k x)) ∧ Below w.heap.size w w' := by
  obtain ⟨W, hW⟩ : ∃ W, W = (((w.alloc (.cells #[.int .i64 k.count, .int .i64 k.last, .int .i64 k.spent, .int .i64 k.run, .int .i64 k.left, .int .i64 k.orders, .bool k.blocked, .bool k.owing, .int .i64 k.purse, .int .i64 k.one, .int .i64 k.runs, .int .i64 k.version, .string k.key, .string k.pin] 60)).alloc (.cells #[.int .i64 x.what, .int .i64 x.n, .string x.text] 94)).alloc (.cells #[.int .i64 0, .int .i64 0, .int .i64 0, .int .i64 0, .int .i64 0, .int .i64 0, .bool false, .bool false, .int .i64 0, .int .i64 0, .int .i64 0, .int .i64 0, .string ⟨#[]⟩, .string ⟨#[]⟩] 60)) := ⟨_, rfl⟩; have hO := orW_new w k x; rw [← hW] at hO; obtain ⟨g1, hg1⟩ : ∃ g1, g1 = w.heap.size := ⟨_, rfl⟩; obtain ⟨g2, hg2⟩ : ∃ g2, g2 = w.heap.size + 1 := ⟨_, rfl⟩; obtain ⟨g3, hg3⟩ : ∃ g3, g3 = w.heap.size + 1 + 1 := ⟨_, rfl⟩; rw [← hg3, ← hg2, ← hg1] at hO; obtain ⟨x1, x2, x3, hb, l1, l3, n12, n13, n23⟩ := hO
  have c0 : W.cell? ⟨g2, 0, none⟩ = some (.int .i64 x.what) := by simp [World.cell?, x2]
  have c1 : W.cell? ⟨g2, 1, none⟩ = some (.int .i64 x.n) := by simp [World.cell?, x2]
  have c2 : W.cell? ⟨g2, 2, none⟩ = some (.string x.text) := by simp [World.cell?, x2]
  have a0 : W.cell? ⟨g1, 0, none⟩ = some (.int .i64 k.count) := by simp [World.cell?, x1]
  have z0 : W.cell? ⟨g3, 0, none⟩ = some (.int .i64 0) := by simp [World.cell?, x3]
  have d0 : W.frozen? ⟨g3, 0, none⟩ = false := by simp [World.frozen?, x3]
  have a1 : W.cell? ⟨g1, 1, none⟩ = some (.int .i64 k.last) := by simp [World.cell?, x1]
  have z1 : W.cell? ⟨g3, 1, none⟩ = some (.int .i64 0) := by simp [World.cell?, x3]
  have d1 : W.frozen? ⟨g3, 1, none⟩ = false := by simp [World.frozen?, x3]
  have a2 : W.cell? ⟨g1, 2, none⟩ = some (.int .i64 k.spent) := by simp [World.cell?, x1]
  have z2 : W.cell? ⟨g3, 2, none⟩ = some (.int .i64 0) := by simp [World.cell?, x3]
  have d2 : W.frozen? ⟨g3, 2, none⟩ = false := by simp [World.frozen?, x3]
  have a3 : W.cell? ⟨g1, 3, none⟩ = some (.int .i64 k.run) := by simp [World.cell?, x1]
  have z3 : W.cell? ⟨g3, 3, none⟩ = some (.int .i64 0) := by simp [World.cell?, x3]
  have d3 : W.frozen? ⟨g3, 3, none⟩ = false := by simp [World.frozen?, x3]
  have a4 : W.cell? ⟨g1, 4, none⟩ = some (.int .i64 k.left) := by simp [World.cell?, x1]
  have z4 : W.cell? ⟨g3, 4, none⟩ = some (.int .i64 0) := by simp [World.cell?, x3]
  have d4 : W.frozen? ⟨g3, 4, none⟩ = false := by simp [World.frozen?, x3]
  have a5 : W.cell? ⟨g1, 5, none⟩ = some (.int .i64 k.orders) := by simp [World.cell?, x1]
  have z5 : W.cell? ⟨g3, 5, none⟩ = some (.int .i64 0) := by simp [World.cell?, x3]
  have d5 : W.frozen? ⟨g3, 5, none⟩ = false := by simp [World.frozen?, x3]
  have a6 : W.cell? ⟨g1, 6, none⟩ = some (.bool k.blocked) := by simp [World.cell?, x1]
  have z6 : W.cell? ⟨g3, 6, none⟩ = some (.bool false) := by simp [World.cell?, x3]
  have d6 : W.frozen? ⟨g3, 6, none⟩ = false := by simp [World.frozen?, x3]
  have a7 : W.cell? ⟨g1, 7, none⟩ = some (.bool k.owing) := by simp [World.cell?, x1]
  have z7 : W.cell? ⟨g3, 7, none⟩ = some (.bool false) := by simp [World.cell?, x3]
  have d7 : W.frozen? ⟨g3, 7, none⟩ = false := by simp [World.frozen?, x3]
  have a8 : W.cell? ⟨g1, 8, none⟩ = some (.int .i64 k.purse) := by simp [World.cell?, x1]
  have z8 : W.cell? ⟨g3, 8, none⟩ = some (.int .i64 0) := by simp [World.cell?, x3]
  have d8 : W.frozen? ⟨g3, 8, none⟩ = false := by simp [World.frozen?, x3]
  have a9 : W.cell? ⟨g1, 9, none⟩ = some (.int .i64 k.one) := by simp [World.cell?, x1]
  have z9 : W.cell? ⟨g3, 9, none⟩ = some (.int .i64 0) := by simp [World.cell?, x3]
  have d9 : W.frozen? ⟨g3, 9, none⟩ = false := by simp [World.frozen?, x3]
  have a10 : W.cell? ⟨g1, 10, none⟩ = some (.int .i64 k.runs) := by simp [World.cell?, x1]
  have z10 : W.cell? ⟨g3, 10, none⟩ = some (.int .i64 0) := by simp [World.cell?, x3]
  have d10 : W.frozen? ⟨g3, 10, none⟩ = false := by simp [World.frozen?, x3]
  have a11 : W.cell? ⟨g1, 11, none⟩ = some (.int .i64 k.version) := by simp [World.cell?, x1]
  have f11 : W.frozen? ⟨g1, 11, none⟩ = false := by simp [World.frozen?, x1]
  have z11 : W.cell? ⟨g3, 11, none⟩ = some (.int .i64 0) := by simp [World.cell?, x3]
  have d11 : W.frozen? ⟨g3, 11, none⟩ = false := by simp [World.frozen?, x3]
  have a12 : W.cell? ⟨g1, 12, none⟩ = some (.string k.key) := by simp [World.cell?, x1]
  have f12 : W.frozen? ⟨g1, 12, none⟩ = false := by simp [World.frozen?, x1]
  have z12 : W.cell? ⟨g3, 12, none⟩ = some (.string ⟨#[]⟩) := by simp [World.cell?, x3]
  have d12 : W.frozen? ⟨g3, 12, none⟩ = false := by simp [World.frozen?, x3]
  have a13 : W.cell? ⟨g1, 13, none⟩ = some (.string k.pin) := by simp [World.cell?, x1]
  have z13 : W.cell? ⟨g3, 13, none⟩ = some (.string ⟨#[]⟩) := by simp [World.cell?, x3]
  have d13 : W.frozen? ⟨g3, 13, none⟩ = false := by simp [World.frozen?, x3]
  have HW := hide hW; have HB := hide hb; have L1 := hide l1; have L3 := hide l3; have H1 := hide hg1; have H2 := hide hg2; have H3 := hide hg3; have X3 := hide x3; have X1 := hide x1; clear hW hb l1 l3 hg1 hg2 hg3 x1 x2 x3; have HE : Hid (Below w.heap.size w ((((((((((((((((W.drew.setCell ⟨g1, 12, none⟩ (.string x.text)).setCell ⟨g1, 11, none⟩ (.int .i64 x.n)).setCell ⟨g3, 0, none⟩ (.int .i64 k.count)).setCell ⟨g3, 1, none⟩ (.int .i64 k.last)).setCell ⟨g3, 2, none⟩ (.int .i64 k.spent)).setCell ⟨g3, 3, none⟩ (.int .i64 k.run)).setCell ⟨g3, 4, none⟩ (.int .i64 k.left)).setCell ⟨g3, 5, none⟩ (.int .i64 k.orders)).setCell ⟨g3, 6, none⟩ (.bool k.blocked)).setCell ⟨g3, 7, none⟩ (.bool k.owing)).setCell ⟨g3, 8, none⟩ (.int .i64 k.purse)).setCell ⟨g3, 9, none⟩ (.int .i64 k.one)).setCell ⟨g3, 10, none⟩ (.int .i64 k.runs)).setCell ⟨g3, 11, none⟩ (.int .i64 x.n)).setCell ⟨g3, 12, none⟩ (.string x.text)).setCell ⟨g3, 13, none⟩ (.string k.pin))) := hide ((((((((((((((((((unhide HB).drew.setCell (p := ⟨g1, 12, none⟩) (unhide L1) _).setCell (p := ⟨g1, 11, none⟩) (unhide L1) _).setCell (p := ⟨g3, 0, none⟩) (unhide L3) _).setCell (p := ⟨g3, 1, none⟩) (unhide L3) _).setCell (p := ⟨g3, 2, none⟩) (unhide L3) _).setCell (p := ⟨g3, 3, none⟩) (unhide L3) _).setCell (p := ⟨g3, 4, none⟩) (unhide L3) _).setCell (p := ⟨g3, 5, none⟩) (unhide L3) _).setCell (p := ⟨g3, 6, none⟩) (unhide L3) _).setCell (p := ⟨g3, 7, none⟩) (unhide L3) _).setCell (p := ⟨g3, 8, none⟩) (unhide L3) _).setCell (p := ⟨g3, 9, none⟩) (unhide L3) _).setCell (p := ⟨g3, 10, none⟩) (unhide L3) _).setCell (p := ⟨g3, 11, none⟩) (unhide L3) _).setCell (p := ⟨g3, 12, none⟩) (unhide L3) _).setCell (p := ⟨g3, 13, none⟩) (unhide L3) _))
  have hk : orderedK tr k x = ⟨k.count, k.last, k.spent, k.run, k.left, k.orders, k.blocked, k.owing, k.purse, k.one, k.runs, x.n, x.text, k.pin⟩ := by unfold orderedK; rw [if_neg (by omega), if_neg (by omega), if_neg (by omega), if_neg (by omega), if_neg (by omega), if_neg (by omega), if_pos hx]
  rw [hk]; have HK := hide hk; clear hk L1 L3 HB; rw [hx] at c0; clear hx
  go_enter Tryz.func33, Tryz.ntmps33
  unfold valK kvL
  go_upto_region 1 with fail
  rw [← unhide HW]; rw [← unhide H3, ← unhide H2, ← unhide H1]; clear HW
  go_wp2_with fail
  refine wp_drawnT (by kernel_rfl) 55 (by rfl) (by kernel_rfl) (by kernel_rfl) 5 8 (vals [.pointer (some ⟨g2, 2, none⟩), .string x.text, .pointer (some ⟨g2, 1, none⟩), .int .i64 x.n, .pointer (some ⟨g1, 12, none⟩), undef, .pointer (some ⟨g1, 0, none⟩), .pointer (some ⟨g1, 11, none⟩)]) (W.drew.setCell ⟨g1, 12, none⟩ (.string x.text)) ((W.drew.setCell ⟨g1, 12, none⟩ (.string x.text)).setCell ⟨g1, 11, none⟩ (.int .i64 x.n)) ?_ ?_
  · refine ⟨?_, ?_, ?_, ?_, ?_, ?_, ?_, ?_, ?_, trivial⟩
    · intro S ac wx hJ hS hw hoff; have eT4 : ac.eval (.tmp 4) = .pointer (some ⟨g2, 0, none⟩) := (hoff 4 (by kernel_rfl)).trans rfl; have hJ2 := hJ.val (i := 0) (by decide) (by decide) hw (.pointer (some ⟨g2, 2, none⟩)) rfl; have gT4 := evT eT4
      rcases hJ.worlds with hwx | hwx | hwx
      all_goals
        subst hwx; refine Does.value (.pointer (some ⟨g2, 2, none⟩)) _ ?_ hJ2; clear hJ hJ2 hw hoff; go_simp
    · intro S ac wx hJ hS hw hoff; have eT42 : ac.eval (.tmp 42) = .pointer (some ⟨g2, 2, none⟩) := hJ.v 0 (by decide) (by decide) (hw 0 (by kernel_rfl)); have hJ2 := hJ.val (i := 1) (by decide) (by decide) hw (.string x.text) rfl; have gT42 := evT eT42
      rcases hJ.worlds with hwx | hwx | hwx
      all_goals
        subst hwx; refine Does.value (.string x.text) _ ?_ hJ2; clear hJ hJ2 hw hoff; go_simp
    · intro S ac wx hJ hS hw hoff; have eT4 : ac.eval (.tmp 4) = .pointer (some ⟨g2, 0, none⟩) := (hoff 4 (by kernel_rfl)).trans rfl; have hJ2 := hJ.val (i := 2) (by decide) (by decide) hw (.pointer (some ⟨g2, 1, none⟩)) rfl; have gT4 := evT eT4
      rcases hJ.worlds with hwx | hwx | hwx
      all_goals
        subst hwx; refine Does.value (.pointer (some ⟨g2, 1, none⟩)) _ ?_ hJ2; clear hJ hJ2 hw hoff; go_simp
    · intro S ac wx hJ hS hw hoff; have eT44 : ac.eval (.tmp 44) = .pointer (some ⟨g2, 1, none⟩) := hJ.v 2 (by decide) (by decide) (hw 2 (by kernel_rfl)); have hJ2 := hJ.val (i := 3) (by decide) (by decide) hw (.int .i64 x.n) rfl; have gT44 := evT eT44
      rcases hJ.worlds with hwx | hwx | hwx
      all_goals
        subst hwx; refine Does.value (.int .i64 x.n) _ ?_ hJ2; clear hJ hJ2 hw hoff; go_simp
    · intro S ac wx hJ hS hw hoff; have eT3 : ac.eval (.tmp 3) = .pointer (some ⟨g1, 0, none⟩) := (hoff 3 (by kernel_rfl)).trans rfl; have hJ2 := hJ.val (i := 4) (by decide) (by decide) hw (.pointer (some ⟨g1, 12, none⟩)) rfl; have gT3 := evT eT3
      rcases hJ.worlds with hwx | hwx | hwx
      all_goals
        subst hwx; refine Does.value (.pointer (some ⟨g1, 12, none⟩)) _ ?_ hJ2; clear hJ hJ2 hw hoff; go_simp
    · intro S ac wx hJ hS hw hoff; have eT43 : ac.eval (.tmp 43) = .string x.text := hJ.v 1 (by decide) (by decide) (hw 1 (by kernel_rfl)); have eT46 : ac.eval (.tmp 46) = .pointer (some ⟨g1, 12, none⟩) := hJ.v 4 (by decide) (by decide) (hw 4 (by kernel_rfl)); obtain ⟨hwx, hJ2⟩ := hJ.one (by decide) hw hS (by kernel_rfl) undef; subst hwx; have gT43 := evT eT43; have gT46 := evT eT46; refine Does.skip _ ?_ hJ2; clear hJ hJ2 hw hoff; go_simp
    · intro S ac wx hJ hS hw hoff; have eT3 : ac.eval (.tmp 3) = .pointer (some ⟨g1, 0, none⟩) := (hoff 3 (by kernel_rfl)).trans rfl; have hJ2 := hJ.val (i := 6) (by decide) (by decide) hw (.pointer (some ⟨g1, 0, none⟩)) rfl; have gT3 := evT eT3
      rcases hJ.worlds with hwx | hwx | hwx
      all_goals
        subst hwx; refine Does.value (.pointer (some ⟨g1, 0, none⟩)) _ ?_ hJ2; clear hJ hJ2 hw hoff; go_simp
    · intro S ac wx hJ hS hw hoff; have eT47 : ac.eval (.tmp 47) = .pointer (some ⟨g1, 0, none⟩) := hJ.v 6 (by decide) (by decide) (hw 6 (by kernel_rfl)); have hJ2 := hJ.val (i := 7) (by decide) (by decide) hw (.pointer (some ⟨g1, 11, none⟩)) rfl; have gT47 := evT eT47
      rcases hJ.worlds with hwx | hwx | hwx
      all_goals
        subst hwx; refine Does.value (.pointer (some ⟨g1, 11, none⟩)) _ ?_ hJ2; clear hJ hJ2 hw hoff; go_simp
    · intro S ac wx hJ hS hw hoff; have eT45 : ac.eval (.tmp 45) = .int .i64 x.n := hJ.v 3 (by decide) (by decide) (hw 3 (by kernel_rfl)); have eT48 : ac.eval (.tmp 48) = .pointer (some ⟨g1, 11, none⟩) := hJ.v 7 (by decide) (by decide) (hw 7 (by kernel_rfl)); obtain ⟨hwx, hJ2⟩ := hJ.two hw hS (by kernel_rfl) undef; subst hwx; have gT45 := evT eT45; have gT48 := evT eT48; refine Does.skip _ ?_ hJ2; clear hJ hJ2 hw hoff; go_simp
  · intro ac wx S hdf hsz hoff hall hJ; have hwx := hJ.w; rw [hall 8 (by decide)] at hwx; replace hwx : wx = ((W.drew.setCell ⟨g1, 12, none⟩ (.string x.text)).setCell ⟨g1, 11, none⟩ (.int .i64 x.n)) := hwx; subst hwx; have hh42 : ac.tmps.getD 42 undef = .pointer (some ⟨g2, 2, none⟩) := hJ.v 0 (by decide) (by decide) (hall 0 (by decide)); have hh43 : ac.tmps.getD 43 undef = .string x.text := hJ.v 1 (by decide) (by decide) (hall 1 (by decide)); have hh44 : ac.tmps.getD 44 undef = .pointer (some ⟨g2, 1, none⟩) := hJ.v 2 (by decide) (by decide) (hall 2 (by decide)); have hh45 : ac.tmps.getD 45 undef = .int .i64 x.n := hJ.v 3 (by decide) (by decide) (hall 3 (by decide)); have hh46 : ac.tmps.getD 46 undef = .pointer (some ⟨g1, 12, none⟩) := hJ.v 4 (by decide) (by decide) (hall 4 (by decide)); have hh47 : ac.tmps.getD 47 undef = .pointer (some ⟨g1, 0, none⟩) := hJ.v 6 (by decide) (by decide) (hall 6 (by decide)); have hh48 : ac.tmps.getD 48 undef = .pointer (some ⟨g1, 11, none⟩) := hJ.v 7 (by decide) (by decide) (hall 7 (by decide)); have hmix := mix_eq [false, false, false, false, false, false, false, false, false, false, false, false, false, false, false, false, false, false, false, false, false, false, false, false, false, false, false, false, false, false, false, false, false, false, false, false, false, false, false, false, false, false, true, true, true, true, true, true, true, false, false, false, false, false, false] rfl rfl hsz hdf (by kernel_rfl) hoff; clear hoff hall hsz hdf hJ
    simp only [mixL, Nat.reduceAdd, hh42, hh43, hh44, hh45, hh46, hh47, hh48] at hmix
    rw [hmix]; clear hmix hh42 hh43 hh44 hh45 hh46 hh47 hh48; obtain ⟨Y, hY⟩ : ∃ Y, Y = ((W.drew.setCell ⟨g1, 12, none⟩ (.string x.text)).setCell ⟨g1, 11, none⟩ (.int .i64 x.n)) := ⟨_, rfl⟩; rw [← hY]; rw [← hY] at HE
    have y1 : Y.heap[g1]? = some (.cells #[.int .i64 k.count, .int .i64 k.last, .int .i64 k.spent, .int .i64 k.run, .int .i64 k.left, .int .i64 k.orders, .bool k.blocked, .bool k.owing, .int .i64 k.purse, .int .i64 k.one, .int .i64 k.runs, .int .i64 x.n, .string x.text, .string k.pin] 60) := by rw [hY]; simp [World.setCell, show W.drew.heap = W.heap from rfl, Array.getElem?_modify, unhide X1]
    have y3 : Y.heap[g3]? = some (.cells #[.int .i64 0, .int .i64 0, .int .i64 0, .int .i64 0, .int .i64 0, .int .i64 0, .bool false, .bool false, .int .i64 0, .int .i64 0, .int .i64 0, .int .i64 0, .string ⟨#[]⟩, .string ⟨#[]⟩] 60) := by rw [hY]; simp [World.setCell, show W.drew.heap = W.heap from rfl, Array.getElem?_modify, unhide X3, n13, Ne.symm n13]
    clear hY a0 z0 d0 a1 z1 d1 a2 z2 d2 a3 z3 d3 a4 z4 d4 a5 z5 d5 a6 z6 d6 a7 z7 d7 a8 z8 d8 a9 z9 d9 a10 z10 d10 a11 z11 d11 a12 z12 d12 a13 z13 d13 c0 c1 c2 f11 f12
    have a0 : Y.cell? ⟨g1, 0, none⟩ = some (.int .i64 k.count) := by simp [World.cell?, y1]
    have z0 : Y.cell? ⟨g3, 0, none⟩ = some (.int .i64 0) := by simp [World.cell?, y3]
    have d0 : Y.frozen? ⟨g3, 0, none⟩ = false := by simp [World.frozen?, y3]
    have a1 : Y.cell? ⟨g1, 1, none⟩ = some (.int .i64 k.last) := by simp [World.cell?, y1]
    have z1 : Y.cell? ⟨g3, 1, none⟩ = some (.int .i64 0) := by simp [World.cell?, y3]
    have d1 : Y.frozen? ⟨g3, 1, none⟩ = false := by simp [World.frozen?, y3]
    have a2 : Y.cell? ⟨g1, 2, none⟩ = some (.int .i64 k.spent) := by simp [World.cell?, y1]
    have z2 : Y.cell? ⟨g3, 2, none⟩ = some (.int .i64 0) := by simp [World.cell?, y3]
    have d2 : Y.frozen? ⟨g3, 2, none⟩ = false := by simp [World.frozen?, y3]
    have a3 : Y.cell? ⟨g1, 3, none⟩ = some (.int .i64 k.run) := by simp [World.cell?, y1]
    have z3 : Y.cell? ⟨g3, 3, none⟩ = some (.int .i64 0) := by simp [World.cell?, y3]
    have d3 : Y.frozen? ⟨g3, 3, none⟩ = false := by simp [World.frozen?, y3]
    have a4 : Y.cell? ⟨g1, 4, none⟩ = some (.int .i64 k.left) := by simp [World.cell?, y1]
    have z4 : Y.cell? ⟨g3, 4, none⟩ = some (.int .i64 0) := by simp [World.cell?, y3]
    have d4 : Y.frozen? ⟨g3, 4, none⟩ = false := by simp [World.frozen?, y3]
    have a5 : Y.cell? ⟨g1, 5, none⟩ = some (.int .i64 k.orders) := by simp [World.cell?, y1]
    have z5 : Y.cell? ⟨g3, 5, none⟩ = some (.int .i64 0) := by simp [World.cell?, y3]
    have d5 : Y.frozen? ⟨g3, 5, none⟩ = false := by simp [World.frozen?, y3]
    have a6 : Y.cell? ⟨g1, 6, none⟩ = some (.bool k.blocked) := by simp [World.cell?, y1]
    have z6 : Y.cell? ⟨g3, 6, none⟩ = some (.bool false) := by simp [World.cell?, y3]
    have d6 : Y.frozen? ⟨g3, 6, none⟩ = false := by simp [World.frozen?, y3]
    have a7 : Y.cell? ⟨g1, 7, none⟩ = some (.bool k.owing) := by simp [World.cell?, y1]
    have z7 : Y.cell? ⟨g3, 7, none⟩ = some (.bool false) := by simp [World.cell?, y3]
    have d7 : Y.frozen? ⟨g3, 7, none⟩ = false := by simp [World.frozen?, y3]
    have a8 : Y.cell? ⟨g1, 8, none⟩ = some (.int .i64 k.purse) := by simp [World.cell?, y1]
    have z8 : Y.cell? ⟨g3, 8, none⟩ = some (.int .i64 0) := by simp [World.cell?, y3]
    have d8 : Y.frozen? ⟨g3, 8, none⟩ = false := by simp [World.frozen?, y3]
    have a9 : Y.cell? ⟨g1, 9, none⟩ = some (.int .i64 k.one) := by simp [World.cell?, y1]
    have z9 : Y.cell? ⟨g3, 9, none⟩ = some (.int .i64 0) := by simp [World.cell?, y3]
    have d9 : Y.frozen? ⟨g3, 9, none⟩ = false := by simp [World.frozen?, y3]
    have a10 : Y.cell? ⟨g1, 10, none⟩ = some (.int .i64 k.runs) := by simp [World.cell?, y1]
    have z10 : Y.cell? ⟨g3, 10, none⟩ = some (.int .i64 0) := by simp [World.cell?, y3]
    have d10 : Y.frozen? ⟨g3, 10, none⟩ = false := by simp [World.frozen?, y3]
    have a11 : Y.cell? ⟨g1, 11, none⟩ = some (.int .i64 x.n) := by simp [World.cell?, y1]
    have z11 : Y.cell? ⟨g3, 11, none⟩ = some (.int .i64 0) := by simp [World.cell?, y3]
    have d11 : Y.frozen? ⟨g3, 11, none⟩ = false := by simp [World.frozen?, y3]
    have a12 : Y.cell? ⟨g1, 12, none⟩ = some (.string x.text) := by simp [World.cell?, y1]
    have z12 : Y.cell? ⟨g3, 12, none⟩ = some (.string ⟨#[]⟩) := by simp [World.cell?, y3]
    have d12 : Y.frozen? ⟨g3, 12, none⟩ = false := by simp [World.frozen?, y3]
    have a13 : Y.cell? ⟨g1, 13, none⟩ = some (.string k.pin) := by simp [World.cell?, y1]
    have z13 : Y.cell? ⟨g3, 13, none⟩ = some (.string ⟨#[]⟩) := by simp [World.cell?, y3]
    have d13 : Y.frozen? ⟨g3, 13, none⟩ = false := by simp [World.frozen?, y3]
    replace X3 := hide y3; clear y1 y3 X1
    go_wp2
    refine bodyPost_ret (v := valK (⟨k.count, k.last, k.spent, k.run, k.left, k.orders, k.blocked, k.owing, k.purse, k.one, k.runs, x.n, x.text, k.pin⟩)) ?_ rfl ⟨rfl, unhide HE⟩
    simp [results, Tryz.results33, go_sem, World.cell?, World.setCell, Array.getElem?_modify, show W.drew.heap = W.heap from rfl, unhide X3, n13, n12, n23, Ne.symm n13, valK, kvL]
end Go.Proofs.YtajkbkljonejnaaGreatDoor
namespace Go.Proofs.YtajkbkljonejnaaGreatDoor
open Go.RowKit
set_option linter.unusedVariables false
set_option linter.unusedSimpArgs false
set_option maxRecDepth 100000
theorem ordered_any (tr : Int) (k : Ks) (x : XOrder) (w : World) : Calls Tryz.prog 33 #[valK k, .agg #[.int .i64 x.what, .int .i64 x.n, .string x.text], .int .i64 tr] w fun e w' => e = .returned (valK (orderedK tr k x)) ∧ Below w.heap.size w w' := by
  rcases casesO x.what with hx | hx | hx | hx | hx | hx | hx | hx | hx
  · exact ordered_1 tr k x w hx
  · exact ordered_2 tr k x w hx
  · exact ordered_3 tr k x w hx
  · exact ordered_4 tr k x w hx
  · exact ordered_5 tr k x w hx
  · exact ordered_6 tr k x w hx
  · exact ordered_7 tr k x w hx
  · exact ordered_8 tr k x w hx
  · exact ordered_0 tr k x w hx
end Go.Proofs.YtajkbkljonejnaaGreatDoor
namespace Go.Proofs.YtajkbkljonejnaaGreatDoor
open Go.RowKit
set_option linter.unusedVariables false
structure SInvA (ops : Array Oper) (Lb La n : Nat) (V : Value → Nat → Value) (w0 w1 : World) (R : Value → World → Prop) (f0 : Nat → Value) (S : Nat → Bool) (f : Nat → Value) (w : World) : Prop where
  ex : ∃ va, (∀ k, k < n → S k = true → f k = V va k) ∧ (S La = true → R va w)
  o : S La = false → w = if S Lb = true then w1 else w0
  p : ∀ k, La < k → k < n → S k = true → S La = true
  c : ∀ k j, S k = true → waits ops k j = true → S j = true
  u : ∀ k, S k = false → f k = f0 k
theorem SInvA.v {ops : Array Oper} {Lb La n : Nat} {V : Value → Nat → Value} {w0 w1 w : World} {R : Value → World → Prop} {f0 : Nat → Value} {S : Nat → Bool} {f : Nat → Value} (h : SInvA ops Lb La n V w0 w1 R f0 S f w) (k : Nat) (hk : k < n) (hs : S k = true) (v : Value) (hv : ∀ va, V va k = v) : f k = v := by
  obtain ⟨va, h1, _⟩ := h.ex; rw [h1 k hk hs, hv]
theorem upd_old {f0 f : Nat → Value} {S : Nat → Bool} (h : ∀ k, S k = false → f k = f0 k) {i : Nat} {v : Value} : ∀ k, addD S i k = false → updD f i v k = f0 k := by
  intro k hk
  unfold addD at hk
  unfold updD
  by_cases e : k = i
  · rw [if_pos e] at hk; cases hk
  · rw [if_neg e] at hk ⊢; exact h k hk
theorem SInvA.val {ops : Array Oper} {Lb La n : Nat} {V : Value → Nat → Value} {w0 w1 w : World} {R : Value → World → Prop} {f0 : Nat → Value} {S : Nat → Bool} {f : Nat → Value} (h : SInvA ops Lb La n V w0 w1 R f0 S f w) {i : Nat} (hb : i ≠ Lb) (ha : i ≠ La) (hp : La < i → waits ops i La = true) (hw : ∀ j, waits ops i j = true → S j = true) (v : Value) (hv : ∀ va, (∀ k, k < n → S k = true → f k = V va k) → v = V va i) : SInvA ops Lb La n V w0 w1 R f0 (addD S i) (updD f i v) w := by
  obtain ⟨va, h1, h2⟩ := h.ex
  have e1 : addD S i La = S La := by unfold addD; rw [if_neg (Ne.symm ha)]
  have e2 : addD S i Lb = S Lb := by unfold addD; rw [if_neg (Ne.symm hb)]
  refine ⟨⟨va, fun k hk hx => ?_, by rw [e1]; exact h2⟩, by rw [e1, e2]; exact h.o, fun k hk hn hx => ?_, addD_closed h.c hw, upd_old h.u⟩
  · unfold addD at hx
    unfold updD
    by_cases e : k = i
    · rw [if_pos e, e]; exact hv va h1
    · rw [if_neg e] at hx ⊢; exact h1 k hk hx
  · rw [e1]
    unfold addD at hx
    by_cases e : k = i
    · subst e; exact hw La (hp hk)
    · rw [if_neg e] at hx; exact h.p k hk hn hx
theorem SInvA.make {ops : Array Oper} {Lb La n : Nat} {V : Value → Nat → Value} {w0 w1 w : World} {R : Value → World → Prop} {f0 : Nat → Value} {S : Nat → Bool} {f : Nat → Value} (h : SInvA ops Lb La n V w0 w1 R f0 S f w) (hab : Lb < La) (hs : S Lb = false) (hwt : waits ops La Lb = true) (hw : ∀ j, waits ops Lb j = true → S j = true) (v : Value) (hv : ∀ va, v = V va Lb) : w = w0 ∧ SInvA ops Lb La n V w0 w1 R f0 (addD S Lb) (updD f Lb v) w1 := by
  have hl : S La = false := by
    cases e : S La with
    | false => rfl
    | true => have := h.c La Lb e hwt; rw [hs] at this; cases this
  have e1 : addD S Lb La = S La := by unfold addD; rw [if_neg (by omega)]
  have e2 : addD S Lb Lb = true := by unfold addD; rw [if_pos rfl]
  obtain ⟨va, h1, h2⟩ := h.ex; refine ⟨by have := h.o hl; rw [hs] at this; exact this, ⟨va, fun k hk hx => ?_, fun hx => ?_⟩, fun _ => by rw [e2]; rfl, fun k hk hn hx => ?_, addD_closed h.c hw, upd_old h.u⟩
  · unfold addD at hx
    unfold updD
    by_cases e : k = Lb
    · rw [if_pos e, e]; exact hv va
    · rw [if_neg e] at hx ⊢; exact h1 k hk hx
  · rw [e1, hl] at hx; cases hx
  · rw [e1]
    unfold addD at hx
    rw [if_neg (by omega)] at hx; exact h.p k hk hn hx
theorem SInvA.app {ops : Array Oper} {Lb La n : Nat} {V : Value → Nat → Value} {w0 w1 w : World} {R : Value → World → Prop} {f0 : Nat → Value} {S : Nat → Bool} {f : Nat → Value} (h : SInvA ops Lb La n V w0 w1 R f0 S f w) (hs : S La = false) (hwt : waits ops La Lb = true) (hw : ∀ j, waits ops La j = true → S j = true) (hV : ∀ va vb k, k < La → V va k = V vb k) :
    w = w1 ∧ ∀ va w', V va La = va → R va w' → SInvA ops Lb La n V w0 w1 R f0 (addD S La) (updD f La va) w' := by
  have e1 : addD S La La = true := by unfold addD; rw [if_pos rfl]
  refine ⟨by have := h.o hs; rw [hw Lb hwt] at this; exact this, fun va w' hv hr => ?_⟩; obtain ⟨vb, h1, _⟩ := h.ex; refine ⟨⟨va, fun k hk hx => ?_, fun _ => hr⟩, fun hx => (by rw [e1] at hx; cases hx), fun k _ _ _ => e1, addD_closed h.c hw, upd_old h.u⟩
  unfold addD at hx
  unfold updD
  by_cases e : k = La
  · rw [if_pos e, e]; exact hv.symm
  · rw [if_neg e] at hx ⊢
    rcases Nat.lt_or_ge k La with hlt | hge
    · rw [h1 k hk hx]; exact hV _ _ k hlt
    · have := h.p k (by omega) hk hx; rw [hs] at this; cases this
theorem wp_drawnA {P : Program} {ops : Array Oper} {Q : Exit → Act → World → Prop} {id : Nat} {a0 : Act} {w0 : World} (hm : P.follows .mixedOrders = true)
    (N : Nat) (hN : a0.tmps.size = N) (ht : inOrder ops = true) (hd : apartD ops N = true) (Lb La n : Nat) (V : Value → Nat → Value) (w1 : World) (R : Value → World → Prop)
    (hstep : StepsJ P ops (SInvA ops Lb La n V w0.drew w1 R (valD ops a0)) a0 0 ops.toList)
    (hend : ∀ a w S, a.defers = a0.defers → a.tmps.size = N → (∀ t, offD ops t = true → a.tmps[t]? = a0.tmps[t]?) → (∀ k, k < ops.size → S k = true) → SInvA ops Lb La n V w0.drew w1 R (valD ops a0) S (valD ops a) w → Q .normal a w) :
    (Code.region id ops true).wp P Q a0 w0 :=
  wp_drawnJ hm N hN ht hd _ ⟨⟨undef, fun _ _ h => absurd h Bool.false_ne_true, fun h => absurd h Bool.false_ne_true⟩, fun _ => rfl, fun _ _ _ h => absurd h Bool.false_ne_true, fun _ _ h => absurd h Bool.false_ne_true, fun _ _ => rfl⟩ hstep hend
theorem does_append {P : Program} {o : Oper} {a : Act} {w : World} {K : Value → World → Prop} (s x : Operand) (t : TypeId)
    (ho : o.op = .call { callee := .builtin .append, args := #[s, x], argTypes := #[t, t] })
    (base : Nat) (e : TypeId) (i : TypeInfo) (z : Value) (size bytes : Nat) (ht : P.underlying t = some (.slice e)) (hi : P.info? e = some i) (hz : i.zero = some z)
    (hsize : i.size = size) (hby : i.bytes = bytes) (hzs : z.cells.size = size) (hsz : 0 < size)
    (v : Value) (n : Nat) (xs : List Value) (hs : a.eval s = v) (hown : w.ownsRow base e size v n xs)
    (ad : Addr) (m c : Nat) (news : List Value) (hx : a.eval x = .slice (some ad) m c) (hl : news.length = m * size) (hnews : ∀ j u, news[j]? = some u → w.cell? (ad.add j) = some u) (h1 : ∀ u ∈ news, u.oneCell' = true)
    (hm : 0 < m) (h63 : n + m ≤ maxLen) (hbytes : (n + m) * bytes ≤ 140737488355328) (hbase : base ≤ w.heap.size)
    (h : ∀ g cap w', w'.ownsRow base e size (.slice (some ⟨g, 0, none⟩) (n + m) cap) (n + m) (xs ++ news) → w.grownBy w' v.ownBlock → g < w'.heap.size → K (.slice (some ⟨g, 0, none⟩) (n + m) cap) w') : Does P o a w K := by
  obtain ⟨g, cap, w', hr, h2, h3, _, h5⟩ := run_append_lies (P := P) w t o.type base e i z size bytes ht hi hz hsize hby hzs hsz v n xs hown ad m c news hl hnews h1 hm h63 hbytes hbase _ rfl; refine Does.value (.slice (some ⟨g, 0, none⟩) (n + m) cap) w' ?_ (h g cap w' h2 h3 h5)
  unfold execOp
  simp only [ho, resolve, invoke, builtin, Sem.run_bind, Sem.run_pure, Result.andThen_ok, List.map_toArray, List.map_cons, List.map_nil, hs, hx, hr]
end Go.Proofs.YtajkbkljonejnaaGreatDoor
namespace Go.Proofs.YtajkbkljonejnaaGreatDoor
open Go.RowKit
set_option linter.unusedVariables false
set_option linter.unusedSimpArgs false
set_option maxRecDepth 100000
theorem infoOrd : (Tryz.prog.info? 94).map (fun i => (i.zero, i.size, i.bytes)) = some (some (.agg #[.int .i64 0, .int .i64 0, .string ⟨#[]⟩]), 3, 32) := by kernel_rfl
theorem info_partsO {P : Program} {t : TypeId} {z : Value} {s b : Nat} (h : (P.info? t).map (fun i => (i.zero, i.size, i.bytes)) = some (some z, s, b)) : ∃ i, P.info? t = some i ∧ i.zero = some z ∧ i.size = s ∧ i.bytes = b := by
  cases hi : P.info? t with
  | none => rw [hi] at h; cases h
  | some i =>
    rw [hi] at h
    simp only [Option.map_some, Option.some.injEq, Prod.mk.injEq] at h
    exact ⟨i, rfl, h.1, h.2.1, h.2.2⟩
def cellsO (x : XOrder) : List Value := [.int .i64 x.what, .int .i64 x.n, .string x.text]
theorem cellsO_len (x : XOrder) : (cellsO x).length = 3 := rfl
theorem readO_more : ∀ (f g : Nat) (t : ByteArray), t.size < f → t.size < g → readO f t = readO g t
  | 0, _, _, h, _ => absurd h (Nat.not_lt_zero _)
  | _ + 1, 0, _, _, h => absurd h (Nat.not_lt_zero _)
  | f + 1, g + 1, t, hf, hg => by
    unfold readO
    by_cases h0 : t.size = 0
    · rw [if_pos h0, if_pos h0]
    rw [if_neg h0, if_neg h0]
    by_cases h1 : t.size < 10 ∨ t.size < 10 + byteAt t 9
    · rw [if_pos h1, if_pos h1]
    rw [if_neg h1, if_neg h1]
    by_cases h2 : readE (t.extract 1 9) ≠ 0
    · rw [if_pos h2, if_pos h2]
    rw [if_neg h2, if_neg h2]
    have hsz : (t.extract (10 + byteAt t 9) t.size).size < t.size := by rw [ByteArray.size_extract]; omega
    rw [readO_more f g _ (by omega) (by omega)]
def ordAt (t : ByteArray) : XOrder := ⟨(byteAt t 0 : Int), readV (t.extract 1 9), t.extract 10 (10 + byteAt t 9)⟩
theorem readO_nil {t : ByteArray} (h : t.size = 0) : readO (t.size + 1) t = some [] := by unfold readO; rw [if_pos h]
theorem readO_short {t : ByteArray} (h : t.size ≠ 0) (h1 : t.size < 10 ∨ t.size < 10 + byteAt t 9) : readO (t.size + 1) t = none := by unfold readO; rw [if_neg h, if_pos h1]
theorem readO_bad {t : ByteArray} (h : t.size ≠ 0) (h1 : ¬ (t.size < 10 ∨ t.size < 10 + byteAt t 9)) (h2 : readE (t.extract 1 9) ≠ 0) : readO (t.size + 1) t = none := by unfold readO; rw [if_neg h, if_neg h1, if_pos h2]
theorem readO_step {t : ByteArray} (h : t.size ≠ 0) (h1 : ¬ (t.size < 10 ∨ t.size < 10 + byteAt t 9)) (h2 : readE (t.extract 1 9) = 0) : readO (t.size + 1) t = (readO ((t.extract (10 + byteAt t 9) t.size).size + 1) (t.extract (10 + byteAt t 9) t.size)).map (ordAt t :: ·) := by
  conv => lhs; unfold readO
  rw [if_neg h, if_neg h1, if_neg (by rw [h2]; decide)]
  have hsz : (t.extract (10 + byteAt t 9) t.size).size < t.size := by rw [ByteArray.size_extract]; omega
  rw [readO_more t.size ((t.extract (10 + byteAt t 9) t.size).size + 1) _ hsz (by omega)]
  rfl
theorem rowOrder_own {w : World} {B : Nat} {v : Value} {l : List XOrder} (h : OwnR w B 94 3 cellsO v l) (hl : l.length ≤ maxLen) (hx : ∀ x ∈ l, okOrder w x) : ∃ ao cap, v = .slice ao l.length cap ∧ RowOrder w ao l := by
  obtain ⟨⟨ao, cap, hv⟩, hc⟩ := h.form; refine ⟨ao, cap, hv, ?_, hx, hl⟩
  rcases hc with rfl | ⟨g, cap', hv', _, hg⟩
  · exact .inl rfl
  · rw [hv] at hv'
    injection hv' with e1 e2 e3
    subst e1; subst e3; rw [hv] at h; refine .inr ⟨g, 0, rfl, hg, fun i x hi => ?_⟩; have c0 := OwnR.cell cellsO_len h i x hi 0 (by decide); have c1 := OwnR.cell cellsO_len h i x hi 1 (by decide); have c2 := OwnR.cell cellsO_len h i x hi 2 (by decide); rw [Nat.zero_add]; exact ⟨c0.trans rfl, c1.trans rfl, c2.trans rfl⟩
theorem byte_lt (t : ByteArray) (i : Nat) : byteAt t i < 256 := by unfold byteAt; exact UInt8.toNat_lt _
theorem readV_boundO (s : ByteArray) : 0 ≤ readV s ∧ readV s ≤ 9223372036854775807 := by
  unfold readV
  split
  · omega
  · split
    · omega
    · omega
theorem ordAt_ok (w : World) (t : ByteArray) (h : t.size ≤ maxLen) : okOrder w (ordAt t) := by
  have h0 := byte_lt t 0; have h1 := readV_boundO (t.extract 1 9); refine ⟨⟨?_, ?_⟩, ⟨?_, ?_⟩, ?_⟩
  · show _ ≤ (byteAt t 0 : Int); omega
  · show (byteAt t 0 : Int) ≤ _; omega
  · show _ ≤ readV _; omega
  · exact h1.2
  · show (t.extract 10 (10 + byteAt t 9)).size ≤ maxLen
    rw [ByteArray.size_extract]; omega
structure RoR (w : World) (s t : ByteArray) (acc : List XOrder) (v : Value) (wr : World) : Prop where
  own : OwnR wr w.heap.size 94 3 cellsO v acc
  b : Below w.heap.size w wr
  r : readO (s.size + 1) s = (readO (t.size + 1) t).map (acc ++ ·)
  l : acc.length + t.size ≤ s.size
  k : ∀ x ∈ acc, okOrder w x
theorem okOrder_any {w w' : World} {x : XOrder} (h : okOrder w x) : okOrder w' x := h
set_option maxHeartbeats 8000000 in
theorem readOrders_any (s : ByteArray) (hs : s.size ≤ 1048576) (w : World) : Calls Tryz.prog 32 #[.string s] w fun e w' =>
    ((readO (s.size + 1) s = none ∧ e = .returned (.tuple #[.slice none 0 0, .bool false])) ∨ (∃ l ao cap, readO (s.size + 1) s = some l ∧ e = .returned (.tuple #[.slice ao l.length cap, .bool true]) ∧ RowOrder w' ao l)) ∧ Below w.heap.size w w' := by
  obtain ⟨i0, hi, hz0, hz1, hz2⟩ := info_partsO infoOrd; have HI := hide hi; have Z0 := hide hz0; have Z1 := hide hz1; have Z2 := hide hz2; have hR0 : RoR w s s [] (.slice none 0 0) w := ⟨OwnR.nil _ _ _ _ _, Below.refl _ _, by simp, by simp, by simp⟩; have HR0 := hide hR0; have HS := hide hs; clear hi hz0 hz1 hz2 hR0 hs
  go_enter Tryz.func32, Tryz.ntmps32
  go_wp2
  go_loopw [0, 4] (fun s0 s4 wr => ∃ t acc, s0 = .string t ∧ RoR w s t acc s4 wr) (fun s0 _ _ => szOf s0)
  case atStart => exact ⟨s, [], rfl, unhide HR0⟩
  case round =>
    obtain ⟨t, acc, rfl, hR⟩ := hrel
    have hts : t.size ≤ 1048576 := by have := hR.l; have := unhide HS; omega
    obtain ⟨⟨ao, cap, hv⟩, _⟩ := hR.own.form; subst hv
    by_cases h0 : t.size = 0
    · have hz := isEmptyK (b := true) (decide_eq_true h0)
      have hres : readO (s.size + 1) s = some acc := by rw [hR.r, readO_nil h0]; simp
      obtain ⟨ao', cap', hv', hrow⟩ := rowOrder_own hR.own (by have := hR.l; have := unhide HS; unfold maxLen; omega) (fun x hx => okOrder_any (hR.k x hx))
      injection hv' with e1 e2 e3
      subst e1; subst e3; have HE := hide (And.intro hres (And.intro hrow hR.b)); clear hR hres hrow h0 hts
      go_wp2
      go_ret2
      obtain ⟨q1, q2, q3⟩ := unhide HE
      first | exact ⟨.inr ⟨acc, ao, cap, q1, rfl, q2⟩, q3⟩ | exact ⟨.inr ⟨acc, q1, ao, cap, rfl, q2⟩, q3⟩ | exact ⟨.inr ⟨acc, q1, ao, ⟨cap, rfl⟩, q2⟩, q3⟩ | (trace_state; exact ⟨.inr ⟨acc, q1, ao, by simp, q2⟩, q3⟩)
    · have hz := isEmptyK (b := false) (decide_eq_false h0)
      by_cases h1 : t.size < 10
      · have hres : readO (s.size + 1) s = none := by rw [hR.r, readO_short h0 (.inl h1)]; rfl
        have h1i : (t.size : Int) < 10 := by omega
        have HE := hide (And.intro hres hR.b); clear hR hres h0 hts h1
        go_wp2
        go_ret2
        obtain ⟨q1, q3⟩ := unhide HE; exact ⟨.inl ⟨q1, rfl⟩, q3⟩
      · have h1i : ¬ (t.size : Int) < 10 := by omega
        have h9 : 9 < t.size := by omega
        have hb9 := byte_lt t 9
        have hgb : ∀ h, ((t[9]'h).toNat : Int) = (byteAt t 9 : Int) := fun h => get_byte t 9 h
        have hgb0 : ∀ h, ((t[0]'h).toNat : Int) = (byteAt t 0 : Int) := fun h => get_byte t 0 h
        have hb0 := byte_lt t 0; obtain ⟨b, hb⟩ : ∃ b, b = byteAt t 9 := ⟨_, rfl⟩; rw [← hb] at hgb hb9
        have hw1 : wrap64 (b : Int) = (b : Int) := by unfold wrap64; omega
        have hw2 : wrap64 (10 + (b : Int)) = 10 + (b : Int) := by unfold wrap64; omega
        by_cases h2 : t.size < 10 + b
        · have hres : readO (s.size + 1) s = none := by rw [hR.r, readO_short h0 (.inr (by rw [← hb]; exact h2))]; rfl
          have h2i : (t.size : Int) < 10 + (b : Int) := by omega
          have HE := hide (And.intro hres hR.b); have HB := hide hb; clear hR hres h0 hts h1 h2 hb hgb0
          go_wp2
          go_ret2
          obtain ⟨q1, q3⟩ := unhide HE; exact ⟨.inl ⟨q1, rfl⟩, q3⟩
        · have h2i : ¬ (t.size : Int) < 10 + (b : Int) := by omega
          have hn12 : ¬ (t.size < 10 ∨ t.size < 10 + byteAt t 9) := by rw [← hb]; omega
          have N := hide (read_all (t.extract 1 9) wr (by rw [ByteArray.size_extract]; unfold maxLen; omega))
          have i1 : (9 : Int) ≤ (t.size : Int) := by omega
          have i2 : 9 ≤ t.size := by omega
          by_cases hE : readE (t.extract 1 9) = 0
          case neg =>
            have hres : readO (s.size + 1) s = none := by rw [hR.r, readO_bad h0 hn12 hE]; rfl
            have hEb : (readE (t.extract 1 9) == 0) = false := by simpa using hE
            have HE := hide (And.intro hres hR.b); have HB := hide hb; generalize readV (t.extract 1 9) = rv at *; generalize readE (t.extract 1 9) = re at *; clear hR hres h0 hts h1 h2 hb hgb0 hn12
            go_wp2_with fail
            refine (unhide N).mono ?_; rintro r y1 ⟨rfl, hy⟩; have hy' := hy.symm; subst hy'
            go_wp2
            go_ret2
            obtain ⟨q1, q3⟩ := unhide HE; exact ⟨.inl ⟨q1, rfl⟩, q3⟩
          have hstep := readO_step h0 hn12 hE; rw [← hb] at hstep; obtain ⟨t2, ht2⟩ : ∃ t2, t2 = t.extract (10 + b) t.size := ⟨_, rfl⟩
          have ht2s : t2.size = t.size - (10 + b) := by rw [ht2, ByteArray.size_extract]; omega
          rw [← ht2] at hstep
          have hord : cellsO (ordAt t) = [.int .i64 (byteAt t 0 : Int), .int .i64 (readV (t.extract 1 9)), .string (t.extract 10 (10 + b))] := by rw [hb]; rfl
          have HA : Hid (∀ vn wx, OwnR wx w.heap.size 94 3 cellsO vn (acc ++ [ordAt t]) → Below w.heap.size w wx → RoR w s t2 (acc ++ [ordAt t]) vn wx) := hide (fun vn wx hown hbw => by
            refine ⟨hown, hbw, ?_, ?_, fun x hx => ?_⟩
            · rw [hR.r, hstep]
              cases readO (t2.size + 1) t2 with
              | none => rfl
              | some l => simp
            · have := hR.l
              simp only [List.length_append, List.length_cons, List.length_nil]
              omega
            · rcases List.mem_append.1 hx with h | h
              · exact hR.k x h
              · rw [List.mem_singleton.1 h]; exact ordAt_ok w t (by unfold maxLen; omega))
          have HRB := hide hR.b; have HOW := hide hR.own; have HHL : Hid (w.heap.size ≤ wr.heap.size) := hide hR.b.size
          have hlen : acc.length ≤ 1048576 := by have := hR.l; have := unhide HS; omega
          have HM3 : Hid (acc.length + 1 ≤ maxLen) := hide (by unfold maxLen; omega); have HM4 : Hid ((acc.length + 1) * 32 ≤ 140737488355328) := hide (by omega); have HT2 := hide ht2s; have HORD := hide hord
          have i3 : (10 : Int) ≤ 10 + (b : Int) := by omega
          have i4 : 10 + (b : Int) ≤ (t.size : Int) := by omega
          have i5 : 10 ≤ 10 + b := by omega
          have i6 : 10 + b ≤ t.size := by omega
          have i7 : (10 + (b : Int)).toNat = 10 + b := by omega
          have i8 : (0 : Int) < (t.size : Int) := by omega
          have i9 : 0 < t.size := by omega
          have hw3 : IntKind.i64.wrap ((byteAt t 0 : Nat) : Int) = (byteAt t 0 : Int) := by rw [IntKind.wrap_i64]; omega
          have hw4 : wrap64 ((byteAt t 0 : Nat) : Int) = (byteAt t 0 : Int) := by unfold wrap64; omega
          rw [hE] at N; have HT := hide ht2; have HB := hide hb; generalize readV (t.extract 1 9) = rv at *; generalize byteAt t 0 = b0 at *; clear hR h0 hts h1 h2 hb hn12 hstep ht2s hord hlen hE ht2
          go_wp2_with fail
          refine (unhide N).mono ?_; rintro r y1 ⟨rfl, hy⟩; have hy' := hy.symm; subst hy'; clear N
          go_wp2_with fail
          refine wp_drawnA (by kernel_rfl) 49 (by rfl) (by kernel_rfl) (by kernel_rfl) 9 10 12 (fun va => vals [.slice ao acc.length cap, .string t, .int .u8 (b0 : Int), .int .i64 (b0 : Int), .int .i64 rv, .string t, .int .i64 (10 + (b : Int)), .string (t.extract 10 (10 + b)), .agg #[.int .i64 (b0 : Int), .int .i64 rv, .string (t.extract 10 (10 + b))], .slice (some ⟨wr.heap.size, 0, none⟩) 1 1, va, va]) (wr.drew.alloc (.cells #[.int .i64 (b0 : Int), .int .i64 rv, .string (t.extract 10 (10 + b))] 94)) (fun va w' => OwnR w' w.heap.size 94 3 cellsO va (acc ++ [ordAt t]) ∧ Below w.heap.size w w') ?_ ?_
          · refine ⟨?_, ?_, ?_, ?_, ?_, ?_, ?_, ?_, ?_, ?_, ?_, ?_, trivial⟩
            · intro S ac wx hJ hS hw hoff
              have hs11 : S 11 = false := by cases e : S 11 with | false => rfl | true => (have := hJ.c 11 0 e (by kernel_rfl); rw [hS] at this; cases this)
              have eT4 : ac.eval (.tmp 4) = .slice ao acc.length cap := (hJ.u 11 hs11).trans rfl; have gT4 := evT eT4; refine Does.value (.slice ao acc.length cap) _ ?_ (hJ.val (i := 0) (by decide) (by decide) (fun h => absurd h (by decide)) hw _ (fun _ _ => rfl)); clear hJ hw hoff; go_simp
            · intro S ac wx hJ hS hw hoff; have eT0 : ac.eval (.tmp 0) = .string t := (hoff 0 (by kernel_rfl)).trans rfl; have gT0 := evT eT0; refine Does.value (.string t) _ ?_ (hJ.val (i := 1) (by decide) (by decide) (fun h => absurd h (by decide)) hw _ (fun _ _ => rfl)); clear hJ hw hoff; go_simp
            · intro S ac wx hJ hS hw hoff; have eT35 : ac.eval (.tmp 35) = .string t := hJ.v 1 (by decide) (hw 1 (by kernel_rfl)) _ (fun _ => rfl); have gT35 := evT eT35; refine Does.value (.int .u8 (b0 : Int)) _ ?_ (hJ.val (i := 2) (by decide) (by decide) (fun h => absurd h (by decide)) hw _ (fun _ _ => rfl)); clear hJ hw hoff; go_simp
            · intro S ac wx hJ hS hw hoff; have eT36 : ac.eval (.tmp 36) = .int .u8 (b0 : Int) := hJ.v 2 (by decide) (hw 2 (by kernel_rfl)) _ (fun _ => rfl); have gT36 := evT eT36; refine Does.value (.int .i64 (b0 : Int)) _ ?_ (hJ.val (i := 3) (by decide) (by decide) (fun h => absurd h (by decide)) hw _ (fun _ _ => rfl)); clear hJ hw hoff; go_simp
            · intro S ac wx hJ hS hw hoff; have eT6 : ac.eval (.tmp 6) = .int .i64 rv := (hoff 6 (by kernel_rfl)).trans rfl; have gT6 := evT eT6; refine Does.value (.int .i64 rv) _ ?_ (hJ.val (i := 4) (by decide) (by decide) (fun h => absurd h (by decide)) hw _ (fun _ _ => rfl)); clear hJ hw hoff; go_simp
            · intro S ac wx hJ hS hw hoff; have eT0 : ac.eval (.tmp 0) = .string t := (hoff 0 (by kernel_rfl)).trans rfl; have gT0 := evT eT0; refine Does.value (.string t) _ ?_ (hJ.val (i := 5) (by decide) (by decide) (fun h => absurd h (by decide)) hw _ (fun _ _ => rfl)); clear hJ hw hoff; go_simp
            · intro S ac wx hJ hS hw hoff; have eT5 : ac.eval (.tmp 5) = .int .i64 (10 + (b : Int)) := (hoff 5 (by kernel_rfl)).trans rfl; have gT5 := evT eT5; refine Does.value (.int .i64 (10 + (b : Int))) _ ?_ (hJ.val (i := 6) (by decide) (by decide) (fun h => absurd h (by decide)) hw _ (fun _ _ => rfl)); clear hJ hw hoff; go_simp
            · intro S ac wx hJ hS hw hoff; have eT39 : ac.eval (.tmp 39) = .string t := hJ.v 5 (by decide) (hw 5 (by kernel_rfl)) _ (fun _ => rfl); have eT40 : ac.eval (.tmp 40) = .int .i64 (10 + (b : Int)) := hJ.v 6 (by decide) (hw 6 (by kernel_rfl)) _ (fun _ => rfl); have gT39 := evT eT39; have gT40 := evT eT40; refine Does.value (.string (t.extract 10 (10 + b))) _ ?_ (hJ.val (i := 7) (by decide) (by decide) (fun h => absurd h (by decide)) hw _ (fun _ _ => rfl)); clear hJ hw hoff; go_simp
            · intro S ac wx hJ hS hw hoff; have eT37 : ac.eval (.tmp 37) = .int .i64 (b0 : Int) := hJ.v 3 (by decide) (hw 3 (by kernel_rfl)) _ (fun _ => rfl); have eT38 : ac.eval (.tmp 38) = .int .i64 rv := hJ.v 4 (by decide) (hw 4 (by kernel_rfl)) _ (fun _ => rfl); have eT41 : ac.eval (.tmp 41) = .string (t.extract 10 (10 + b)) := hJ.v 7 (by decide) (hw 7 (by kernel_rfl)) _ (fun _ => rfl); have gT37 := evT eT37; have gT38 := evT eT38; have gT41 := evT eT41; refine Does.value (.agg #[.int .i64 (b0 : Int), .int .i64 rv, .string (t.extract 10 (10 + b))]) _ ?_ (hJ.val (i := 8) (by decide) (by decide) (fun h => absurd h (by decide)) hw _ (fun _ _ => rfl)); clear hJ hw hoff; go_simp
            · intro S ac wx hJ hS hw hoff; have eT42 : ac.eval (.tmp 42) = .agg #[.int .i64 (b0 : Int), .int .i64 rv, .string (t.extract 10 (10 + b))] := hJ.v 8 (by decide) (hw 8 (by kernel_rfl)) _ (fun _ => rfl); obtain ⟨hwx, hJ2⟩ := hJ.make (by decide) hS (by kernel_rfl) hw (.slice (some ⟨wr.heap.size, 0, none⟩) 1 1) (fun _ => rfl); subst hwx; have gT42 := evT eT42; refine Does.value (.slice (some ⟨wr.heap.size, 0, none⟩) 1 1) _ ?_ hJ2; clear hJ hJ2 hw hoff; go_simp
            · intro S ac wx hJ hS hw hoff; have eT34 : ac.eval (.tmp 34) = .slice ao acc.length cap := hJ.v 0 (by decide) (hw 0 (by kernel_rfl)) _ (fun _ => rfl); have eT43 : ac.eval (.tmp 43) = .slice (some ⟨wr.heap.size, 0, none⟩) 1 1 := hJ.v 9 (by decide) (hw 9 (by kernel_rfl)) _ (fun _ => rfl)
              obtain ⟨hwx, hK⟩ := hJ.app hS (by kernel_rfl) hw (fun va vb k hk => by
                have hd : k = 0 ∨ k = 1 ∨ k = 2 ∨ k = 3 ∨ k = 4 ∨ k = 5 ∨ k = 6 ∨ k = 7 ∨ k = 8 ∨ k = 9 := by omega
                rcases hd with rfl | rfl | rfl | rfl | rfl | rfl | rfl | rfl | rfl | rfl <;> rfl)
              subst hwx; refine does_append _ _ _ (by rfl) w.heap.size 94 i0 (.agg #[.int .i64 0, .int .i64 0, .string ⟨#[]⟩]) 3 32 Tryz.underlying27 (unhide HI) (unhide Z0) (unhide Z1) (unhide Z2) rfl (by decide) (.slice ao acc.length cap) acc.length (rowC cellsO acc) eT34 ((unhide HOW).drew.alloc _) ⟨wr.heap.size, 0, none⟩ 1 1 [.int .i64 (b0 : Int), .int .i64 rv, .string (t.extract 10 (10 + b))] eT43 rfl (World.news_of_block (cs := #[.int .i64 (b0 : Int), .int .i64 rv, .string (t.extract 10 (10 + b))]) (t := 94) (fr := (0, 0)) (heap_alloc_new wr.drew _)) (by simp [Value.oneCell']) (by decide) (unhide HM3) (unhide HM4) (Nat.le_trans (unhide HHL) (by rw [World.size_alloc]; exact Nat.le_succ _)) ?_; intro g cap2 w4 hown hgrow hlt; refine hK _ _ rfl ⟨OwnR.snoc _ (by rw [unhide HORD]; exact hown), ?_⟩; exact Below.grown (((unhide HRB).drew).alloc (unhide HHL) _) hgrow (Nat.le_trans (unhide HHL) (by rw [World.size_alloc]; exact Nat.le_succ _)) (fun k hk => ((unhide HOW).lt k hk).1)
            · intro S ac wx hJ hS hw hoff; have g44 : ac.tmps[44]?.getD undef = ac.eval (.tmp 44) := evT rfl; have hJ2 := hJ.val (i := 11) (by decide) (by decide) (fun _ => by kernel_rfl) hw (ac.eval (.tmp 44)) (fun va h => h 10 (by decide) (hw 10 (by kernel_rfl))); generalize ac.eval (.tmp 44) = u44 at *; refine Does.value u44 _ ?_ hJ2; clear hJ hJ2 hw hoff; go_simp
          · intro ac wx S hdf hsz hoff hall hJ; obtain ⟨va, hv, hr⟩ := hJ.ex; obtain ⟨hown, hbw⟩ := hr (hall 10 (by decide)); have hh34 : ac.tmps.getD 34 undef = .slice ao acc.length cap := hv 0 (by decide) (hall 0 (by decide)); have hh35 : ac.tmps.getD 35 undef = .string t := hv 1 (by decide) (hall 1 (by decide)); have hh36 : ac.tmps.getD 36 undef = .int .u8 (b0 : Int) := hv 2 (by decide) (hall 2 (by decide)); have hh37 : ac.tmps.getD 37 undef = .int .i64 (b0 : Int) := hv 3 (by decide) (hall 3 (by decide)); have hh38 : ac.tmps.getD 38 undef = .int .i64 rv := hv 4 (by decide) (hall 4 (by decide)); have hh39 : ac.tmps.getD 39 undef = .string t := hv 5 (by decide) (hall 5 (by decide)); have hh40 : ac.tmps.getD 40 undef = .int .i64 (10 + (b : Int)) := hv 6 (by decide) (hall 6 (by decide)); have hh41 : ac.tmps.getD 41 undef = .string (t.extract 10 (10 + b)) := hv 7 (by decide) (hall 7 (by decide)); have hh42 : ac.tmps.getD 42 undef = .agg #[.int .i64 (b0 : Int), .int .i64 rv, .string (t.extract 10 (10 + b))] := hv 8 (by decide) (hall 8 (by decide)); have hh43 : ac.tmps.getD 43 undef = .slice (some ⟨wr.heap.size, 0, none⟩) 1 1 := hv 9 (by decide) (hall 9 (by decide)); have hh44 : ac.tmps.getD 44 undef = va := hv 10 (by decide) (hall 10 (by decide)); have hh4 : ac.tmps.getD 4 undef = va := hv 11 (by decide) (hall 11 (by decide)); have hmix := mix_eq [false, false, false, false, true, false, false, false, false, false, false, false, false, false, false, false, false, false, false, false, false, false, false, false, false, false, false, false, false, false, false, false, false, false, true, true, true, true, true, true, true, true, true, true, true, false, false, false, false] rfl rfl hsz hdf (by kernel_rfl) hoff; have HN := hide (unhide HA _ _ hown hbw); clear hoff hall hsz hdf hJ hv hr hown hbw
            simp only [mixL, Nat.reduceAdd, hh34, hh35, hh36, hh37, hh38, hh39, hh40, hh41, hh42, hh43, hh44, hh4] at hmix
            rw [hmix]; clear hmix hh34 hh35 hh36 hh37 hh38 hh39 hh40 hh41 hh42 hh43 hh44 hh4
            go_wp2
            go_roundw
            case rel => exact ⟨t2, _, by rw [unhide HT], unhide HN⟩
            case measure => have := unhide HT2; have := unhide HT; simp only [szOf]; rw [← this]; omega
end Go.Proofs.YtajkbkljonejnaaGreatDoor
namespace Go.Proofs.YtajkbkljonejnaaGreatDoor
open Go.RowKit
set_option linter.unusedVariables false
set_option linter.unusedSimpArgs false
set_option maxRecDepth 100000
theorem ent_twoD (args : Array Value) (w : World) : (callFunc 28 args).run Tryz.prog w = .ok (.enter 28 args) w := by kernel_rfl
theorem ent_sealedD (args : Array Value) (w : World) : (callFunc 31 args).run Tryz.prog w = .ok (.enter 31 args) w := by kernel_rfl
theorem ent_orderedD (args : Array Value) (w : World) : (callFunc 33 args).run Tryz.prog w = .ok (.enter 33 args) w := by kernel_rfl
structure CdOk (K0 : Ks) (c : Cd) : Prop where
  st : StOk K0 c.M c.sd c.H c.K
  k : OkK c.K
  tr : 0 ≤ c.tries ∧ c.tries ≤ 15
section
variable {w w' : World} {B cb bb mb : Nat} {v : Value} {c : Cd} {K0 : Ks}
theorem keep_any (h : CdAt w B cb bb mb v c) (hk : CdOk K0 c) (N : Ks) (hN : OkK N) :
    Calls Tryz.prog 34 #[.pointer (some ⟨cb, 0, none⟩), valK N] w fun e w' => (c.M.off = false → e = .returned (.int .i64 (keepE c N))) ∧ CdAt w' B cb bb mb v (keepC c N) ∧ Chg (cdF cb bb mb v) w w' := by
  by_cases e : N = c.K
  · refine (keep_same h N e).mono ?_; rintro r w' ⟨hr, h1, h2⟩
    have hkc : keepC c N = c := by unfold keepC; rw [if_pos e]
    refine ⟨fun ho => ?_, by rw [hkc]; exact h1, h2⟩
    unfold keepE
    rw [hkc, ho]; exact hr
  · refine (keep_new h N e hN hk.st.len.2.1 (by have := hk.st.len.1; omega)).mono ?_; rintro r w' ⟨hr, h1, h2⟩; exact ⟨fun _ => hr, h1, h2⟩
theorem valN_twoD : ∀ {l : List UInt8}, l.length ≤ 2 → valN l < 65536
  | [], _ => by decide
  | [a], _ => by have := UInt8.toNat_lt a; simp [valN]; omega
  | [a, b], _ => by have := UInt8.toNat_lt a; have := UInt8.toNat_lt b; simp [valN]; omega
  | _ :: _ :: _ :: _, h => by simp at h
theorem ordersE_lists {key : ByteArray} {number : Int} {l : List XOrder} (h : ordersE key number l = 0) : l.any okindB = false ∧ l.any orangeB = false ∧ l.any oformB = false := by
  unfold ordersE at h
  by_cases h1 : key.size = 16
  case neg => rw [if_pos h1] at h; cases h
  rw [if_neg (by omega)] at h
  cases h2 : inBO number 1 65535 with
  | false => rw [h2] at h; cases h
  | true =>
  rw [h2] at h
  simp only [Bool.not_true, cond_false] at h
  by_cases h3 : 8 < l.length
  · rw [if_pos h3] at h; cases h
  rw [if_neg h3] at h
  cases h4 : l.any okindB with
  | true => rw [h4] at h; cases h
  | false =>
  cases h5 : l.any orangeB with
  | true => rw [h4, h5] at h; cases h
  | false =>
  cases h6 : l.any oformB with
  | true => rw [h4, h5, h6] at h; cases h
  | false => exact ⟨rfl, rfl, rfl⟩
theorem did_ok {tr : Int} (ht : 0 ≤ tr ∧ tr ≤ 15) {k : Ks} (hk : OkK k) (s : ByteArray) (l : List XOrder) (hn : k.orders < numO s) (he : ordersE k.key (numO s) l = 0) : OkK (l.foldl (orderedK tr) { k with orders := numO s }) := by
  obtain ⟨_, hnum, _, _⟩ := ordersE_zero he; refine fold_ok ht l { hk with orders := ⟨by show 0 ≤ numO s; omega, hnum.2⟩ } ?_; have hz := ordersE_lists he
  exact fun o ho => ⟨any_false hz.1 o ho, any_false hz.2.1 o ho, any_false hz.2.2 o ho⟩
end
end Go.Proofs.YtajkbkljonejnaaGreatDoor
namespace Go.Proofs.YtajkbkljonejnaaGreatDoor
open Go.RowKit
set_option linter.unusedVariables false
def B32 : Nat := 4294967296
theorem B32_pos : 0 < B32 := by unfold B32; decide
theorem B32_two : 2 ≤ B32 := by unfold B32; decide
def natV : List Nat → Nat
  | [] => 0
  | x :: r => x + B32 * natV r
def okV (l : List Nat) : Prop := ∀ x ∈ l, x < B32
theorem okV_nil : okV [] := fun x hx => by cases hx
theorem okV_get {l : List Nat} (h : okV l) {i x : Nat} (hi : l[i]? = some x) : x < B32 := h x (List.mem_of_getElem? hi)
theorem okV_cons {x : Nat} {l : List Nat} (h : okV (x :: l)) : x < B32 ∧ okV l := ⟨h x (by simp), fun y hy => h y (by simp [hy])⟩
theorem okV_append {a b : List Nat} (ha : okV a) (hb : okV b) : okV (a ++ b) := fun x hx => by
  rcases List.mem_append.1 hx with h | h
  · exact ha x h
  · exact hb x h
theorem okV_take {a : List Nat} (h : okV a) (n : Nat) : okV (a.take n) := fun x hx => h x (List.mem_of_mem_take hx)
theorem okV_set {a : List Nat} (h : okV a) (i x : Nat) (hx : x < B32) : okV (a.set i x) := fun y hy => by
  rcases List.mem_or_eq_of_mem_set hy with h1 | h1
  · exact h y h1
  · rw [h1]; exact hx
theorem okV_zeros (n : Nat) : okV (List.replicate n 0) := fun x hx => by
  rw [(List.mem_replicate.1 hx).2]; exact B32_pos
theorem natV_append (a b : List Nat) : natV (a ++ b) = natV a + B32 ^ a.length * natV b := by
  induction a with
  | nil => simp [natV]
  | cons x r ih =>
    simp only [List.cons_append, natV, List.length_cons, Nat.pow_succ, ih]
    grind
theorem natV_lt {l : List Nat} (h : okV l) : natV l < B32 ^ l.length := by
  induction l with
  | nil => simp [natV]
  | cons x r ih =>
    obtain ⟨hx, hr'⟩ := okV_cons h; have hr := ih hr'
    simp only [natV, List.length_cons, Nat.pow_succ]
    have h2 : B32 * (natV r + 1) ≤ B32 * B32 ^ r.length := Nat.mul_le_mul_left _ hr
    have h3 : B32 * (natV r + 1) = B32 * natV r + B32 := by rw [Nat.mul_add, Nat.mul_one]
    have h4 : B32 ^ r.length * B32 = B32 * B32 ^ r.length := Nat.mul_comm _ _
    omega
theorem natV_zeros (n : Nat) : natV (List.replicate n 0) = 0 := by
  induction n with
  | zero => rfl
  | succ n ih => simp [List.replicate_succ, natV, ih]
theorem natV_take_succ (l : List Nat) (i x : Nat) (h : l[i]? = some x) : natV (l.take (i + 1)) = natV (l.take i) + x * B32 ^ i := by
  have hi : i < l.length := (List.getElem?_eq_some_iff.1 h).1; rw [List.take_add_one, h, natV_append, List.length_take, Nat.min_eq_left (by omega)]
  simp [natV, Nat.mul_comm]
def dig (n : Nat) : List Nat := if h : n = 0 then [] else n % B32 :: dig (n / B32)
termination_by n
decreasing_by exact Nat.div_lt_self (by omega) B32_two
theorem dig_zero : dig 0 = [] := by rw [dig]; simp
theorem dig_pos {n : Nat} (h : n ≠ 0) : dig n = n % B32 :: dig (n / B32) := by rw [dig]; simp [h]
theorem natV_dig (n : Nat) : natV (dig n) = n := by
  induction n using Nat.strongRecOn with
  | _ n ih =>
    by_cases h : n = 0
    · subst h; rw [dig_zero]; rfl
    · rw [dig_pos h, natV, ih _ (Nat.div_lt_self (by omega) B32_two)]; have := Nat.div_add_mod n B32
      omega
theorem okV_dig (n : Nat) : okV (dig n) := by
  induction n using Nat.strongRecOn with
  | _ n ih =>
    by_cases h : n = 0
    · subst h; rw [dig_zero]; exact okV_nil
    · rw [dig_pos h]; intro x hx
      rcases List.mem_cons.1 hx with rfl | hx
      · exact Nat.mod_lt _ B32_pos
      · exact ih _ (Nat.div_lt_self (by omega) B32_two) x hx
theorem natV_cons_div {x : Nat} {r : List Nat} (hx : x < B32) : (x + B32 * natV r) / B32 = natV r ∧ (x + B32 * natV r) % B32 = x := by
  constructor
  · rw [Nat.add_mul_div_left _ _ B32_pos, Nat.div_eq_of_lt hx, Nat.zero_add]
  · rw [Nat.add_mul_mod_self_left, Nat.mod_eq_of_lt hx]
theorem dig_of {l : List Nat} (h : okV l) (hl : ∀ x, l.getLast? = some x → x ≠ 0) : dig (natV l) = l := by
  induction l with
  | nil => exact dig_zero
  | cons x r ih =>
    obtain ⟨hx, hr⟩ := okV_cons h; obtain ⟨e1, e2⟩ := natV_cons_div (r := r) hx
    have hr0 : r = [] ∨ natV r ≠ 0 := by
      rcases Decidable.em (r = []) with h0 | h0
      · exact .inl h0
      · right
        have := ih hr (fun y hy => hl y (by rw [List.getLast?_cons, hy]; rfl)); intro hz; rw [hz, dig_zero] at this; exact h0 this.symm
    have hne : natV (x :: r) ≠ 0 := by
      rcases hr0 with rfl | h0
      · have := hl x rfl
        simp only [natV]; omega
      · simp only [natV]
        have := Nat.mul_pos B32_pos (Nat.pos_of_ne_zero h0)
        omega
    rw [dig_pos hne]
    simp only [natV] at *
    rw [e1, e2]
    congr 1
    rcases hr0 with rfl | h0
    · exact dig_zero
    · exact ih hr (fun y hy => hl y (by rw [List.getLast?_cons, hy]; rfl))
theorem dig_take {l : List Nat} (h : okV l) (n : Nat) (hn : n ≤ l.length) (hz : ∀ i x, n ≤ i → l[i]? = some x → x = 0) (hl : n = 0 ∨ ∃ x, l[n - 1]? = some x ∧ x ≠ 0) : dig (natV l) = l.take n := by
  have e : l = l.take n ++ l.drop n := (List.take_append_drop n l).symm
  have hd : l.drop n = List.replicate (l.length - n) 0 := by
    rw [← List.length_drop]
    apply List.eq_replicate_of_mem
    intro x hx; obtain ⟨i, hi⟩ := List.getElem?_of_mem hx; rw [List.getElem?_drop] at hi; exact hz _ x (by omega) hi
  have hv : natV l = natV (l.take n) := by
    conv => lhs; rw [e]
    rw [natV_append, hd, natV_zeros, Nat.mul_zero, Nat.add_zero]
  rw [hv]; refine dig_of (okV_take h n) (fun x hx => ?_)
  rcases hl with rfl | ⟨y, hy, hy0⟩
  · simp at hx
  · rw [List.getLast?_eq_getElem?, List.length_take, Nat.min_eq_left hn] at hx
    have hn0 : n - 1 < n := by
      rcases Nat.eq_zero_or_pos n with h0 | h0
      · subst h0; simp at hx
      · omega
    rw [List.getElem?_take_of_lt hn0, hy] at hx
    obtain rfl : y = x := by simpa using hx
    exact hy0
theorem dig_len (k : Nat) : ∀ n, n < B32 ^ k → (dig n).length ≤ k := by
  induction k with
  | zero =>
    intro n h
    obtain rfl : n = 0 := by simpa using h
    rw [dig_zero]; simp
  | succ k ih =>
    intro n h
    by_cases h0 : n = 0
    · subst h0; rw [dig_zero]; simp
    · rw [dig_pos h0, List.length_cons]; have := ih (n / B32) (Nat.div_lt_of_lt_mul (by rw [Nat.mul_comm, ← Nat.pow_succ]; exact h))
      omega
theorem lt_dig (n : Nat) : n < B32 ^ (dig n).length := by
  have := natV_lt (okV_dig n)
  rwa [natV_dig] at this
theorem dig_last {n : Nat} (h : n ≠ 0) : ∃ x, (dig n).getLast? = some x ∧ x ≠ 0 := by
  induction n using Nat.strongRecOn with
  | _ n ih =>
    rw [dig_pos h]
    by_cases h0 : n / B32 = 0
    · rw [h0, dig_zero]; refine ⟨n % B32, rfl, fun e => h ?_⟩; have := Nat.div_add_mod n B32; rw [h0, e] at this
      omega
    · obtain ⟨x, hx, hx0⟩ := ih _ (Nat.div_lt_self (by omega) B32_two) h0; exact ⟨x, by rw [List.getLast?_cons, hx]; rfl, hx0⟩
end Go.Proofs.YtajkbkljonejnaaGreatDoor
