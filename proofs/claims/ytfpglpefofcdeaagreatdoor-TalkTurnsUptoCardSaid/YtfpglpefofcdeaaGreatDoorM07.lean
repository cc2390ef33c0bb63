/- cutItem of the program. -/
import Derived.Test.YtfpglpefofcdeaaGreatDoorM06
import Derived.Deep.RegionWith
import Derived.Deep.RegionHeld3
import Derived.Deep.DeepCutAuto
namespace Go.Proofs.YtfpglpefofcdeaaGreatDoor
open Go.RowKit
set_option linter.unusedVariables false

/-- what a list that was read answers, called in W, in W' -/
def ListRet (W W' : World) (d : Nat) (r : Option (List It)) (e : Ending) : Prop :=
  match r with
  | some l => ∃ ao cap, e = .returned (.tuple #[.slice ao l.length cap, .bool true]) ∧ l.length ≤ cap ∧ IRowA W' (fun b => W.heap.size ≤ b) d ao l
  | none => ∃ v n cap, e = .returned (.tuple #[.slice v n cap, .bool false])
/-- .. and an item -/
def ItemRet (W W' : World) (d : Nat) (r : Option (It × ByteArray)) (e : Ending) : Prop :=
  match r with
  | some (x, s) => ∃ co cc, e = .returned (.tuple #[.agg #[.int .i64 x.tag, .string x.text, .slice co x.list.length cc], .string s, .bool true]) ∧ x.list.length ≤ cc ∧ IRowA W' (fun b => W.heap.size ≤ b) d co x.list
  | none => ∃ (t : Int) (tx : ByteArray) (co : Option Addr) (n cc : Nat) (s : ByteArray), e = .returned (.tuple #[.agg #[.int .i64 t, .string tx, .slice co n cc], .string s, .bool false])

def ParseIH (d : Nat) : Prop := ∀ (s : ByteArray) (w : World), (s.size : Int) ≤ 65535 →
    Calls Tryz.prog 57 #[.string s, .int .i64 (9 - (d : Int))] w fun e w' => ListRet w w' d (parseD d s) e ∧ Below w.heap.size w w'

theorem set_block {w : World} {g j : Nat} {cs : Array Value} {e : TypeId} {fr : Nat × Nat} {v : Value} (h : w.heap[g]? = some (.cells cs e fr)) : (w.setCell ⟨g, j, none⟩ v).heap[g]? = some (.cells (cs.setIfInBounds j v) e fr) := by
  simp [World.setCell, Array.getElem?_modify, h]
theorem below_cell {B : Nat} {a w : World} (h : Below B a w) (j : Nat) (u : Value) {g : Nat} (hg : B ≤ g) : Below B a (w.setCell ⟨g, j, none⟩ u) := h.setCell hg u
theorem below_draws {a b : World} (h : Below a.heap.size a b) (q : Nat) : Below a.heap.size a (b.drewN q) := ⟨h.os, h.tape, h.output, h.size, h.block⟩

/-- one world as another, but for one block -/
def SameBut (g : Nat) (w w' : World) : Prop := w'.heap.size = w.heap.size ∧ ∀ b, b ≠ g → w'.heap[b]? = w.heap[b]?
theorem SameBut.refl (g : Nat) (w : World) : SameBut g w w := ⟨rfl, fun _ _ => rfl⟩
theorem SameBut.cell {g : Nat} {w w' : World} (h : SameBut g w w') (j : Nat) (u : Value) : SameBut g w (w'.setCell ⟨g, j, none⟩ u) :=
  ⟨by have := h.1; simpa using this, fun b hb => (Below.heap_setCell _ _ _ _ hb).trans (h.2 b hb)⟩
theorem SameBut.drew {g : Nat} {w w' : World} (h : SameBut g w w') : SameBut g w w'.drew := h
theorem SameBut.drewN {g : Nat} {w w' : World} (h : SameBut g w w') (q : Nat) : SameBut g w (w'.drewN q) := h
theorem IRowA.but {w w' : World} {g B base d : Nat} {ao : Option Addr} {l : List It} (h : IRowA w (fun b => B ≤ b) d ao l) (hs : SameBut g w w') (hg : g < B) (hB : base ≤ B) : IRowA w' (fun b => base ≤ b) d ao l :=
  IRowA.kept (Nat.le_of_eq hs.1.symm) (fun b _ hb => ⟨hs.2 b (by have : B ≤ b := hb; omega), Nat.le_trans hB hb⟩) d h

set_option maxRecDepth 1000000 in
set_option maxHeartbeats 4000000 in
theorem cutItem_any (d : Nat) (hd : d ≤ 7) (ih : ParseIH d) (s : ByteArray) (w : World) (hs : (s.size : Int) ≤ 65535) :
    Calls Tryz.prog 91 #[.string s, .int .i64 (8 - (d : Int))] w fun e w' => ItemRet w w' d (itemAt (parseD d) s) e ∧ Below w.heap.size w w' := by
  have hm : s.size ≤ maxLen := by unfold maxLen; omega
  obtain ⟨R, hres⟩ : ∃ R, R = itemAt (parseD d) s := ⟨_, rfl⟩
  rw [← hres]
  unfold itemAt at hres
  have h3 := tagSz_le s.data.toList
  by_cases hz : s.size < tagSz s.data.toList
  · rw [if_pos hz] at hres
    have HR := hide hres
    have N1 := hide (fun w => cutTag_no s w hm hz)
    clear hres hz h3
    go_enter Tryz.func91, Tryz.ntmps91
    go_wp2_with fail
    refine (unhide N1 _).mono ?_
    rintro e w1 ⟨rfl, hw1⟩
    subst hw1
    go_wp2_with fail
    try simp only [Exit.inBlock, Exit.then]
    exact bodyPost_ret (v := .tuple #[.agg #[.int .i64 0, .string ⟨#[]⟩, .slice none 0 0], .string ⟨#[]⟩, .bool false]) (by simp [results, Tryz.results91, go_sem]) rfl ⟨by rw [unhide HR]; exact ⟨_, _, _, _, _, _, rfl⟩, (Below.refl _ _).alloc (Nat.le_refl _) _⟩
  · rw [if_neg hz] at hres
    have n1 := fun w => cutTag_yes s w hm (by omega)
    have hm6 := valN_take3 s (tagSz s.data.toList) h3.2
    have hta : tagAt s = valN (s.data.toList.take (tagSz s.data.toList)) := rfl
    rw [← hta] at n1 hm6
    have hbs := behind_size s (tagSz s.data.toList)
    rw [show s.extract (tagSz s.data.toList) s.size = behind s (tagSz s.data.toList) from rfl] at n1
    generalize behind s (tagSz s.data.toList) = r1 at *
    generalize tagAt s = m at *
    cases hv : validB (m : Int) with
    | false =>
      rw [hv] at hres n1
      simp only [if_true] at hres
      have N1 := hide n1; have HR := hide hres
      clear n1 hres hv hbs hta h3 hz hm6
      go_enter Tryz.func91, Tryz.ntmps91
      go_wp2_with fail
      refine (unhide N1 _).mono ?_
      rintro e w1 ⟨rfl, q1, hw1⟩
      have hblk : w1.heap[w.heap.size]? = some (.cells #[.int .i64 0, .string ⟨#[]⟩, .slice none 0 0] 101 (0, 0)) := by rw [hw1]; exact heap_alloc_new w _
      have hbel : Below w.heap.size w w1 := by rw [hw1]; exact below_draws ((Below.refl _ _).alloc (Nat.le_refl _) _) _
      have hsze : w.heap.size < w1.heap.size := by rw [hw1]; simp
      have z0 : w1.cell? ⟨w.heap.size, 0, none⟩ = some (.int .i64 0) := cell_of_row _ _ 0 _ _ _ hblk
      have z1 : w1.cell? ⟨w.heap.size, 1, none⟩ = some (.string ⟨#[]⟩) := cell_of_row _ _ 1 _ _ _ hblk
      have z2 : w1.cell? ⟨w.heap.size, 2, none⟩ = some (.slice none 0 0) := cell_of_row _ _ 2 _ _ _ hblk
      have zf : ∀ o, w1.frozen? ⟨w.heap.size, o, none⟩ = false := fun o => frozen_of_row _ _ o _ _ hblk
      clear hw1
      go_wp2_with fail
      try simp only [Exit.inBlock, Exit.then]
      exact bodyPost_ret (v := .tuple #[.agg #[.int .i64 0, .string ⟨#[]⟩, .slice none 0 0], .string ⟨#[]⟩, .bool false]) (by simp [results, Tryz.results91, go_sem, z0, z1, z2]) rfl ⟨by rw [unhide HR]; exact ⟨_, _, _, _, _, _, rfl⟩, by first | exact hbel | exact below_draws hbel _ | exact below_cell (below_cell (below_cell hbel _ _ (Nat.le_refl _)) _ _ (Nat.le_refl _)) _ _ (Nat.le_refl _) | exact below_cell (below_cell (below_cell (below_draws hbel _) _ _ (Nat.le_refl _)) _ _ (Nat.le_refl _)) _ _ (Nat.le_refl _)⟩
    | true =>
      rw [hv] at hres n1
      simp only [Bool.true_eq_false, if_false] at hres
      have n2 := fun w => cutLength_any r1 w (by unfold maxLen; omega)
      have hrs : (r1.size : Int) ≤ 65535 := by omega
      have n3 := fun w => made_any m w hm6 hv
      clear hbs hta h3 hz hm6
      cases hl : lenAt r1 with
      | none =>
        rw [hl] at n2 hres
        simp only [] at hres
        simp only [lenRet] at n2
        have N1 := hide n1; have N2 := hide n2; have HR := hide hres
        clear n1 n2 n3 hres hv hl
        go_enter Tryz.func91, Tryz.ntmps91
        go_wp2_with fail
        refine (unhide N1 _).mono ?_
        rintro e w1 ⟨rfl, q1, hw1⟩
        have hblk : w1.heap[w.heap.size]? = some (.cells #[.int .i64 0, .string ⟨#[]⟩, .slice none 0 0] 101 (0, 0)) := by rw [hw1]; exact heap_alloc_new w _
        have hbel : Below w.heap.size w w1 := by rw [hw1]; exact below_draws ((Below.refl _ _).alloc (Nat.le_refl _) _) _
        have hsze : w.heap.size < w1.heap.size := by rw [hw1]; simp
        have z0 : w1.cell? ⟨w.heap.size, 0, none⟩ = some (.int .i64 0) := cell_of_row _ _ 0 _ _ _ hblk
        have z1 : w1.cell? ⟨w.heap.size, 1, none⟩ = some (.string ⟨#[]⟩) := cell_of_row _ _ 1 _ _ _ hblk
        have z2 : w1.cell? ⟨w.heap.size, 2, none⟩ = some (.slice none 0 0) := cell_of_row _ _ 2 _ _ _ hblk
        have zf : ∀ o, w1.frozen? ⟨w.heap.size, o, none⟩ = false := fun o => frozen_of_row _ _ o _ _ hblk
        clear hw1
        go_wp2_with fail
        refine (unhide N2 _).mono ?_
        rintro e w2 ⟨⟨m2, r2, hm2, rfl⟩, q2, hw2⟩
        subst hw2
        go_wp2_with fail
        try simp only [Exit.inBlock, Exit.then]
        exact bodyPost_ret (v := .tuple #[.agg #[.int .i64 0, .string ⟨#[]⟩, .slice none 0 0], .string ⟨#[]⟩, .bool false]) (by simp [results, Tryz.results91, go_sem, z0, z1, z2]) rfl ⟨by rw [unhide HR]; exact ⟨_, _, _, _, _, _, rfl⟩, by first | exact hbel | exact below_draws hbel _ | exact below_cell (below_cell (below_cell hbel _ _ (Nat.le_refl _)) _ _ (Nat.le_refl _)) _ _ (Nat.le_refl _) | exact below_cell (below_cell (below_cell (below_draws hbel _) _ _ (Nat.le_refl _)) _ _ (Nat.le_refl _)) _ _ (Nat.le_refl _)⟩
      | some nk =>
        obtain ⟨n, k⟩ := nk
        have hlk := lenAt_lt hl
        rw [hl] at n2 hres
        simp only [] at hres
        have hb2 := behind_size r1 k
        simp only [lenRet] at n2
        rw [show r1.extract k r1.size = behind r1 k from rfl] at n2
        generalize behind r1 k = r2 at *
        by_cases hn : r2.size < n
        · rw [if_pos hn] at hres
          have N1 := hide n1; have N2 := hide n2; have HR := hide hres
          have hn' : (r2.size : Int) < (n : Int) := by omega
          have t1 : decide ((r2.size : Int) < (n : Int)) = true := by simp; omega
          clear n1 n2 n3 hres hv hl hlk hn hb2
          go_enter Tryz.func91, Tryz.ntmps91
          go_wp2_with fail
          refine (unhide N1 _).mono ?_
          rintro e w1 ⟨rfl, q1, hw1⟩
          have hblk : w1.heap[w.heap.size]? = some (.cells #[.int .i64 0, .string ⟨#[]⟩, .slice none 0 0] 101 (0, 0)) := by rw [hw1]; exact heap_alloc_new w _
          have hbel : Below w.heap.size w w1 := by rw [hw1]; exact below_draws ((Below.refl _ _).alloc (Nat.le_refl _) _) _
          have hsze : w.heap.size < w1.heap.size := by rw [hw1]; simp
          have z0 : w1.cell? ⟨w.heap.size, 0, none⟩ = some (.int .i64 0) := cell_of_row _ _ 0 _ _ _ hblk
          have z1 : w1.cell? ⟨w.heap.size, 1, none⟩ = some (.string ⟨#[]⟩) := cell_of_row _ _ 1 _ _ _ hblk
          have z2 : w1.cell? ⟨w.heap.size, 2, none⟩ = some (.slice none 0 0) := cell_of_row _ _ 2 _ _ _ hblk
          have zf : ∀ o, w1.frozen? ⟨w.heap.size, o, none⟩ = false := fun o => frozen_of_row _ _ o _ _ hblk
          clear hw1
          go_wp2_with fail
          refine (unhide N2 _).mono ?_
          rintro e w2 ⟨rfl, q2, hw2⟩
          subst hw2
          go_wp2_with fail
          try simp only [Exit.inBlock, Exit.then]
          exact bodyPost_ret (v := .tuple #[.agg #[.int .i64 0, .string ⟨#[]⟩, .slice none 0 0], .string ⟨#[]⟩, .bool false]) (by simp [results, Tryz.results91, go_sem, z0, z1, z2]) rfl ⟨by rw [unhide HR]; exact ⟨_, _, _, _, _, _, rfl⟩, by first | exact hbel | exact below_draws hbel _ | exact below_cell (below_cell (below_cell hbel _ _ (Nat.le_refl _)) _ _ (Nat.le_refl _)) _ _ (Nat.le_refl _) | exact below_cell (below_cell (below_cell (below_draws hbel _) _ _ (Nat.le_refl _)) _ _ (Nat.le_refl _)) _ _ (Nat.le_refl _)⟩
        · rw [if_neg hn] at hres
          cases hmd : madeB m with
          | true =>
            rw [hmd] at hres n3
            simp only [if_true] at hres
            have n4 := fun w => ih (r2.extract 0 n) w (by rw [ByteArray.size_extract]; omega)
            have N1 := hide n1; have N2 := hide n2; have N3 := hide n3; have N4 := hide n4; have HR := hide hres
            have hn' : (n : Int) ≤ (r2.size : Int) := by omega
            have hn0 : (0 : Int) ≤ (n : Int) := by omega
            have hd1 : (9 : Int) - (d : Int) = 8 - (d : Int) + 1 := by omega
            have t1 : decide ((r2.size : Int) < (n : Int)) = false := by simp; omega
            clear n1 n2 n3 n4 hres hv hl hlk hmd hn hb2
            go_enter Tryz.func91, Tryz.ntmps91
            go_wp2_with fail
            refine (unhide N1 _).mono ?_
            rintro e w1 ⟨rfl, q1, hw1⟩
            have hblk : w1.heap[w.heap.size]? = some (.cells #[.int .i64 0, .string ⟨#[]⟩, .slice none 0 0] 101 (0, 0)) := by rw [hw1]; exact heap_alloc_new w _
            have hbel : Below w.heap.size w w1 := by rw [hw1]; exact below_draws ((Below.refl _ _).alloc (Nat.le_refl _) _) _
            have hsze : w.heap.size < w1.heap.size := by rw [hw1]; simp
            have z0 : w1.cell? ⟨w.heap.size, 0, none⟩ = some (.int .i64 0) := cell_of_row _ _ 0 _ _ _ hblk
            have z1 : w1.cell? ⟨w.heap.size, 1, none⟩ = some (.string ⟨#[]⟩) := cell_of_row _ _ 1 _ _ _ hblk
            have z2 : w1.cell? ⟨w.heap.size, 2, none⟩ = some (.slice none 0 0) := cell_of_row _ _ 2 _ _ _ hblk
            have zf : ∀ o, w1.frozen? ⟨w.heap.size, o, none⟩ = false := fun o => frozen_of_row _ _ o _ _ hblk
            clear hw1
            go_wp2_with fail
            refine (unhide N2 _).mono ?_
            rintro e w2 ⟨rfl, q2, hw2⟩
            subst hw2
            go_wp2_with fail
            refine (unhide N3 _).mono ?_
            rintro e w3 ⟨rfl, hw3⟩
            subst hw3
            go_wp2_with fail
            have hblkc : ((w1.drewN q2).setCell ⟨w.heap.size, 0, none⟩ (.int .i64 m)).heap[w.heap.size]? = some (.cells #[.int .i64 m, .string ⟨#[]⟩, .slice none 0 0] 101 (0, 0)) := set_block (w := w1.drewN q2) hblk
            have hbelc := below_cell (below_draws hbel q2) 0 (.int .i64 m) (Nat.le_refl w.heap.size)
            have hszc : w.heap.size < ((w1.drewN q2).setCell ⟨w.heap.size, 0, none⟩ (.int .i64 m)).heap.size := by simpa using hsze
            have N5 := hide (unhide N4 ((w1.drewN q2).setCell ⟨w.heap.size, 0, none⟩ (.int .i64 m)))
            rw [hd1] at N5
            clear N4 hblk hbel hsze z0 z1 z2 zf
            generalize (w1.drewN q2).setCell ⟨w.heap.size, 0, none⟩ (.int .i64 m) = wc at *
            refine (unhide N5).mono ?_
            rintro e w5 ⟨hret, hb5⟩
            have hblk5 : w5.heap[w.heap.size]? = _ := (hb5.block _ hszc).trans hblkc
            have hbel : Below w.heap.size w w5 := below_more hbelc hbelc.size hb5
            have hsze : w.heap.size < w5.heap.size := Nat.lt_of_lt_of_le hszc hb5.size
            have z0 : w5.cell? ⟨w.heap.size, 0, none⟩ = some (.int .i64 m) := cell_of_row _ _ 0 _ _ _ hblk5
            have z1 : w5.cell? ⟨w.heap.size, 1, none⟩ = some (.string ⟨#[]⟩) := cell_of_row _ _ 1 _ _ _ hblk5
            have z2 : w5.cell? ⟨w.heap.size, 2, none⟩ = some (.slice none 0 0) := cell_of_row _ _ 2 _ _ _ hblk5
            have zf : ∀ o, w5.frozen? ⟨w.heap.size, o, none⟩ = false := fun o => frozen_of_row _ _ o _ _ hblk5
            cases hp : parseD d (r2.extract 0 n) with
            | none =>
              rw [hp] at hret HR
              obtain ⟨pv, pn, pc, rfl⟩ := hret
              clear hb5 hbelc hblkc hblk5 N5 hp
              go_wp2_with fail
              go_region
              all_goals
                go_wp2_with fail
                try simp only [Exit.inBlock, Exit.then]
                refine bodyPost_ret (v := .tuple #[.agg #[.int .i64 m, .string ⟨#[]⟩, .slice pv pn pc], .string (r2.extract n r2.size), .bool false]) (by simp [results, Tryz.results91, go_sem, z0, z1, z2]) rfl ⟨by rw [unhide HR]; exact ⟨_, _, _, _, _, _, rfl⟩, ?_⟩
                repeat' first | exact hbel | (refine below_cell ?_ _ _ (Nat.le_refl _)) | (refine Below.drew ?_) | (refine below_draws ?_ _)
            | some l =>
              rw [hp] at hret HR
              obtain ⟨po, pc, rfl, hpl, hrow⟩ := hret
              have HW := hide hrow
              have HB := hide hszc
              clear hb5 hbelc hblkc hblk5 N5 hp hrow
              go_wp2_with fail
              go_region
              all_goals
                go_wp2_with fail
                try simp only [Exit.inBlock, Exit.then]
                refine bodyPost_ret (v := .tuple #[.agg #[.int .i64 m, .string ⟨#[]⟩, .slice po l.length pc], .string (r2.extract n r2.size), .bool true]) (by simp [results, Tryz.results91, go_sem, z0, z1, z2]) rfl ⟨by rw [unhide HR]; exact ⟨po, pc, rfl, hpl, IRowA.but (unhide HW) (by repeat' first | exact SameBut.refl _ _ | (refine SameBut.cell ?_ _ _) | (refine SameBut.drew ?_) | (refine SameBut.drewN ?_ _)) (unhide HB) (Nat.le_of_lt (unhide HB))⟩, ?_⟩
                repeat' first | exact hbel | (refine below_cell ?_ _ _ (Nat.le_refl _)) | (refine Below.drew ?_) | (refine below_draws ?_ _)
          | false =>
            rw [hmd] at hres n3
            simp only [Bool.false_eq_true, if_false] at hres
            have N1 := hide n1; have N2 := hide n2; have N3 := hide n3; have HR := hide hres
            have hn' : (n : Int) ≤ (r2.size : Int) := by omega
            have hn0 : (0 : Int) ≤ (n : Int) := by omega
            have t1 : decide ((r2.size : Int) < (n : Int)) = false := by simp; omega
            clear n1 n2 n3 hres hv hl hlk hmd hn hb2
            go_enter Tryz.func91, Tryz.ntmps91
            go_wp2_with fail
            refine (unhide N1 _).mono ?_
            rintro e w1 ⟨rfl, q1, hw1⟩
            have hblk : w1.heap[w.heap.size]? = some (.cells #[.int .i64 0, .string ⟨#[]⟩, .slice none 0 0] 101 (0, 0)) := by rw [hw1]; exact heap_alloc_new w _
            have hbel : Below w.heap.size w w1 := by rw [hw1]; exact below_draws ((Below.refl _ _).alloc (Nat.le_refl _) _) _
            have hsze : w.heap.size < w1.heap.size := by rw [hw1]; simp
            have z0 : w1.cell? ⟨w.heap.size, 0, none⟩ = some (.int .i64 0) := cell_of_row _ _ 0 _ _ _ hblk
            have z1 : w1.cell? ⟨w.heap.size, 1, none⟩ = some (.string ⟨#[]⟩) := cell_of_row _ _ 1 _ _ _ hblk
            have z2 : w1.cell? ⟨w.heap.size, 2, none⟩ = some (.slice none 0 0) := cell_of_row _ _ 2 _ _ _ hblk
            have zf : ∀ o, w1.frozen? ⟨w.heap.size, o, none⟩ = false := fun o => frozen_of_row _ _ o _ _ hblk
            clear hw1
            go_wp2_with fail
            refine (unhide N2 _).mono ?_
            rintro e w2 ⟨rfl, q2, hw2⟩
            subst hw2
            go_wp2_with fail
            refine (unhide N3 _).mono ?_
            rintro e w3 ⟨rfl, hw3⟩
            subst hw3
            go_wp2_with fail
            have hblkc : (((w1.drewN q2).setCell ⟨w.heap.size, 0, none⟩ (.int .i64 m)).setCell ⟨w.heap.size, 1, none⟩ (.string (r2.extract 0 n))).heap[w.heap.size]? = some (.cells #[.int .i64 m, .string (r2.extract 0 n), .slice none 0 0] 101 (0, 0)) := set_block (set_block (w := w1.drewN q2) hblk)
            have hbelc := below_cell (below_cell (below_draws hbel q2) 0 (.int .i64 m) (Nat.le_refl w.heap.size)) 1 (.string (r2.extract 0 n)) (Nat.le_refl w.heap.size)
            clear hblk hbel hsze z0 z1 z2 zf
            generalize ((w1.drewN q2).setCell ⟨w.heap.size, 0, none⟩ (.int .i64 m)).setCell ⟨w.heap.size, 1, none⟩ (.string (r2.extract 0 n)) = wc at *
            have z0 : wc.cell? ⟨w.heap.size, 0, none⟩ = some (.int .i64 m) := cell_of_row _ _ 0 _ _ _ hblkc
            have z1 : wc.cell? ⟨w.heap.size, 1, none⟩ = some (.string (r2.extract 0 n)) := cell_of_row _ _ 1 _ _ _ hblkc
            have z2 : wc.cell? ⟨w.heap.size, 2, none⟩ = some (.slice none 0 0) := cell_of_row _ _ 2 _ _ _ hblkc
            have zf : ∀ o, wc.frozen? ⟨w.heap.size, o, none⟩ = false := fun o => frozen_of_row _ _ o _ _ hblkc
            have hbel := hbelc
            clear hblkc hbelc
            go_region
            all_goals
              go_wp2_with fail
              try simp only [Exit.inBlock, Exit.then]
              refine bodyPost_ret (v := .tuple #[.agg #[.int .i64 m, .string (r2.extract 0 n), .slice none 0 0], .string (r2.extract n r2.size), .bool true]) (by simp [results, Tryz.results91, go_sem, z0, z1, z2]) rfl ⟨by rw [unhide HR]; exact ⟨none, 0, rfl, Nat.le_refl _, IRowA.nil _ _ _ _⟩, ?_⟩
              repeat' first | exact hbel | (refine below_cell ?_ _ _ (Nat.le_refl _)) | (refine Below.drew ?_) | (refine below_draws ?_ _)
end Go.Proofs.YtfpglpefofcdeaaGreatDoor
