/- A plain memory, new. -/
import Derived.Test.YtbiipeapcclbkaaBkA1
import Derived.Test.YtbiipeapcclbkaaBkZ2
namespace Go.Proofs.Ytbiipeapcclbkaa
open Go.RowKit Go.Shelf
set_option linter.unusedVariables false
set_option linter.unusedSimpArgs false
set_option maxRecDepth 100000

def zCells : Array Value := Array.replicate 16 (.int .u8 0)
theorem infoU8 : (Try.prog.info? 5).map (fun i => (i.zero, i.size, i.bytes)) = some (some (.int .u8 0), 1, 1) := by kernel_rfl
theorem mk_zero (w : World) : (Instr.makeSlice 51 (.int .i64 16) (.int .i64 16)).run Try.prog w = .ok (.slice (some ⟨w.heap.size, 0, none⟩) 16 16) (w.alloc (.cells zCells 5)) := by
  obtain ⟨i0, hi, hz0, hz1, hz2⟩ := info_partsB infoU8
  have := run_make (P := Try.prog) w 51 5 i0 (.int .u8 0) Try.underlying51 hi hz0 .i64 .i64 16 16 (by decide) (by decide) (by rw [hz2]; decide) (by decide)
  rw [hz1] at this
  rw [show zCells = madeCells (Value.int .u8 0).cells (Int.toNat 16 * 1) by kernel_rfl]
  exact this
theorem cv_zero (w : World) : (convert 51 9 (.slice (some ⟨w.heap.size, 0, none⟩) 16 16)).run Try.prog (w.alloc (.cells zCells 5)) = .ok (.string zeroC) (w.alloc (.cells zCells 5)) := by
  have := run_convert_bytes_arg (P := Try.prog) (w.alloc (.cells zCells 5)) 51 5 Try.underlying51 Try.underlying5 w.heap.size 0 16 16 (List.replicate 16 0) (by simp) (fun i hi => by
    rw [Nat.zero_add]
    have := new_cells w zCells 5 i
    rw [Addr.add_lit] at this
    rw [Nat.zero_add] at this
    rw [this]
    rw [zCells, Array.getElem?_replicate, if_pos hi, List.getD_eq_getElem?_getD, List.getElem?_replicate, if_pos hi]; rfl) 9 Try.underlying9
  rw [this]
  congr 1
section
variable {W w3 : World} {B mb : Nat} {v : Value} {M : Mm}
theorem new_keep {o1 o2 : Obj} (h : MemAt W B mb v M) (hg : ((W.alloc o1).alloc o2).drew.grownBy w3 v.ownBlock) : w3.heap[mb]? = W.heap[mb]? := by
  have hb : Below W.heap.size W ((W.alloc o1).alloc o2).drew := (((Below.refl W.heap.size W).alloc (Nat.le_refl _) o1).alloc (by simp) o2).drew
  exact (hg.block mb (Nat.lt_of_lt_of_le h.lt hb.size) (fun e => h.ne e.symm)).trans (hb.block mb h.lt)
theorem new_last {o1 o2 : Obj} {s : ByteArray} {g cap : Nat} (h : MemAt W B mb v M) (hg : ((W.alloc o1).alloc o2).drew.grownBy w3 v.ownBlock)
    (own : w3.ownsRow B 9 1 (.slice (some ⟨g, 0, none⟩) (M.C.length + 1) cap) (M.C.length + 1) (rowC cellsS M.C ++ cellsS s)) (hat : v.ownBlock = some g ∨ g = W.heap.size + 1 + 1) (hl : M.C.length + 1 ≤ 100000) :
    MemAt (w3.setCell ⟨mb, 0, none⟩ (.slice (some ⟨g, 0, none⟩) (M.C.length + 1) cap)) B mb (.slice (some ⟨g, 0, none⟩) (M.C.length + 1) cap) ⟨M.C ++ [s], M.pw, M.off⟩ := by
  have hgm : g ≠ mb := fun e => by
    rcases hat with hat | hat
    · exact h.ne (by rw [hat, e])
    · have := h.lt; omega
  have hb := (new_keep h hg).trans h.box
  have o3 : OwnR w3 B 9 1 cellsS (.slice (some ⟨g, 0, none⟩) (M.C.length + 1) cap) (M.C ++ [s]) := OwnR.snoc _ own
  refine ⟨?_, o3.other (a := ⟨mb, 0, none⟩) (fun e => hgm (Option.some.inj e)) _, by simpa using hl, fun e => hgm (Option.some.inj e), h.pwb⟩
  simp [World.setCell, Array.getElem?_modify, hb]
end
set_option maxHeartbeats 4000000 in
theorem newMemory_any (c p : Int) (hp : -9223372036854775808 ≤ p ∧ p ≤ 9223372036854775807) (w : World) :
    Calls Try.prog 4 #[.int .i64 c, .int .i64 p] w fun r w' => (∃ v, r = .returned (.pointer (some ⟨w.heap.size, 0, none⟩)) ∧ MemAt w' w.heap.size w.heap.size v ⟨List.replicate (min (max c 0) 100000).toNat zeroC, p, false⟩) ∧ Below w.heap.size w w' := by
  obtain ⟨i0, hi, hz0, hz1, hz2⟩ := info_partsB infoSt
  obtain ⟨n, hn⟩ : ∃ n : Nat, n = (min (max c 0) 100000).toNat := ⟨_, rfl⟩
  rw [← hn]
  have hnl : n ≤ 100000 := by omega
  have hni : (n : Int) ≤ 100000 := by omega
  have hmn : min (max c 0) 100000 = (n : Int) := by omega
  have hmk := mk_zero
  have hcv := cv_zero
  have hM0 : MemAt (w.alloc (.cells #[.slice none 0 0, .int .i64 p, .bool false] 50)) w.heap.size w.heap.size (.slice none 0 0) ⟨List.replicate 0 zeroC, p, false⟩ := ⟨heap_alloc_new _ _, OwnR.nil _ _ _ _ _, Nat.zero_le _, (fun e => by cases e), hp⟩
  have HM0 := hide hM0
  have HB0 := hide ((Below.refl w.heap.size w).alloc (Nat.le_refl _) (.cells #[.slice none 0 0, .int .i64 p, .bool false] 50))
  have HI := hide hi; have Z0 := hide hz0; have Z1 := hide hz1; have Z2 := hide hz2; have HNL := hide hnl
  generalize zCells = Z at *
  generalize zeroC = zc at *
  clear hn hi hz0 hz1 hz2 hM0 hnl
  go_enter Try.func4, Try.ntmps4
  go_wp2
  go_loopw [12] (fun iv wx => ∃ (i : Nat) (v : Value), i ≤ n ∧ iv = .int .i64 (i : Int) ∧ MemAt wx w.heap.size w.heap.size v ⟨List.replicate i zc, p, false⟩ ∧ Below w.heap.size w wx) (fun iv _ => n - (intOf iv).toNat)
  case atStart => exact ⟨0, _, Nat.zero_le _, rfl, unhide HM0, unhide HB0⟩
  case round =>
    obtain ⟨i, v, hi, rfl, hM, hbw⟩ := hrel
    obtain ⟨c0, c1, c2⟩ := hM.cells
    by_cases hlt : i < n
    · have hii : (i : Int) < (n : Int) := by omega
      have HM := hide hM; have HB := hide hbw
      have hwl : w.heap.size ≤ wr.heap.size := hbw.size
      have hwl2 : w.heap.size < wr.heap.size := hM.lt
      have hcv1 : (convert 51 9 (.slice (some ⟨wr.heap.size, 0, none⟩) 16 16)).run Try.prog (wr.alloc (.cells Z 5)).drew = .ok (.string zc) (wr.alloc (.cells Z 5)).drew := hcv wr.drew
      have hnb : (((wr.alloc (.cells Z 5)).alloc (.cells #[.string zc] 9)).drew).heap[wr.heap.size + 1]? = some (.cells #[.string zc] 9) := by
        have := heap_alloc_new (wr.alloc (.cells Z 5)) (.cells #[.string zc] 9)
        rw [show (wr.alloc (.cells Z 5)).heap.size = wr.heap.size + 1 by simp] at this
        exact this
      have HNB := hide hnb
      clear hM hbw hnb
      go_wp2_with fail
      go_region_law ((refine step_append_lies _ (by rfl) _ _ _ (by rfl) w.heap.size 9 i0 _ 1 16 Try.underlying48 (unhide HI) (unhide Z0) (unhide Z1) (unhide Z2) rfl (by omega) _ _ _ (by rfl) (((unhide HM).row.alloc _).alloc _).drew ⟨wr.heap.size + 1, 0, none⟩ 1 1 [.string zc] (by rfl) (by rfl) (World.news_of_block (unhide HNB)) (by simp [Value.oneCell']) (by omega) (by have := unhide HNL; unfold maxLen; simp; omega) (by have := unhide HNL; simp; omega) (by simp; omega) (wr.heap.size + 1 + 1) (by simp) ?_; intro g3 cap3 w3 own3 hgrow hat3 hlt3; have qb := (new_keep (unhide HM) hgrow).trans (unhide HM).box; have q7 : w3.cell? ⟨w.heap.size, 0, none⟩ = some v := (by simp [World.cell?, qb]); have qf : w3.frozen? ⟨w.heap.size, 0, none⟩ = false := (by simp [World.frozen?, qb])))
      all_goals
        have hla := new_last (unhide HM) hgrow own3 hat3 (by have := unhide HNL; simp; omega)
        have hsn : List.replicate i zc ++ [zc] = List.replicate (i + 1) zc := by rw [List.replicate_succ']
        dsimp only at hla
        rw [hsn] at hla
        have hlr : (List.replicate i zc).length = i := by simp
        rw [hlr] at hla
        have hb3 : Below w.heap.size w (w3.setCell ⟨w.heap.size, 0, none⟩ (.slice (some ⟨g3, 0, none⟩) (i + 1) cap3)) := ((((unhide HB).alloc (unhide HB).size _).alloc (by simp; omega) _).drew.grown hgrow (by simp; omega) (fun j hj => ((unhide HM).row.lt j hj).1)).setCell (p := ⟨w.heap.size, 0, none⟩) (Nat.le_refl _) _
        have HL := hide hla; have HB3 := hide hb3
        clear hla hb3 hlr hsn own3 hgrow hat3 hlt3 c0 c1 c2 hcv1 q7 qf qb
        go_wp2
        go_roundw
        case rel => exact ⟨i + 1, _, by omega, by go_num, unhide HL, unhide HB3⟩
        case measure => simp [intOf]; omega
    · have hii : ¬ (i : Int) < (n : Int) := by omega
      obtain rfl : i = n := by omega
      have HM := hide hM; have HB := hide hbw
      clear hM hbw c0 c1 c2
      go_wp2
      go_ret
      exact ⟨⟨rfl, v, unhide HM⟩, unhide HB⟩
end Go.Proofs.Ytbiipeapcclbkaa
