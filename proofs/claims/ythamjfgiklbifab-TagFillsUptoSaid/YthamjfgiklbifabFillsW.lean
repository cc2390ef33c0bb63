/- The law on Fill: its walk. -/
import Derived.Test.YthamjfgiklbifabRFill
namespace Go.Proofs.Ythamjfgiklbifab
open Go.RowKit
set_option linter.unusedVariables false

theorem fill_sum {d : Nat} {l : List It} {fs : List (Int × Int)} (k : Nat) (h : k < fs.length) (h0 : 0 ≤ (fs.getD k (0, 0)).2) : ((fillL d l (fs.take (k + 1))).length : Int) = (fillL d l (fs.take k)).length + (fs.getD k (0, 0)).2 := by
  rw [fill_take h, List.length_append]
  have : (fieldS d l (fs.getD k (0, 0))).data.toList.length = (fs.getD k (0, 0)).2.toNat := by
    have h1 : (fieldS d l (fs.getD k (0, 0))).data.toList.length = (fieldS d l (fs.getD k (0, 0))).size := by simp
    rw [h1]; exact fitS_size _ _ _
  rw [this]
  omega

set_option maxRecDepth 1000000 in
set_option maxHeartbeats 4000000 in
theorem walkTagFills (fs : List (Int × Int)) (ao : Option Addr) (cap : Nat) (d : Nat) (l : List It) (bo : Option Addr) (cap' : Nat) (w : World) (hr : FRow w ao fs) (hn : FNums fs) (hl : (fs.length : Int) ≤ 9000000000000) (hv : IRow w d bo l) (hw : wt d l ≤ 1048576) :
    Calls Try.prog 7 #[.slice ao fs.length cap, .slice bo l.length cap'] w fun e w' => e = .returned (.bool true) ∧ Below w.heap.size w w' := by
  have n1 := fill_any fs ao cap d l bo cap' w hr hn hl hv hw
  have n2 := fun (w2 : World) (h : Below w.heap.size w w2) => rfill_any fs ao cap d l bo cap' w2 (hr.below h) hn hl (IRow.below h d hv) hw
  by_cases he : fieldsE fs = 0
  · obtain ⟨hall, h100⟩ := fieldsE_zero he
    have hS : (fillS d l fs).size = (fillL d l fs).length := by
      unfold fillS
      rw [if_pos he]
      simp [ByteArray.size]
    rw [he] at n1 n2
    generalize fillS d l fs = S at *
    have N1 := hide n1; have N2 := hide n2; have HA := hide hall; have HS := hide hS
    clear n1 n2 hall he hn hv hw hS
    go_enter Try.func7, Try.ntmps7
    go_wp2_with fail
    refine (unhide N1).mono ?_
    rintro e w1 ⟨rfl, hb1⟩
    go_wp2_with fail
    refine (unhide N2 _ hb1).mono ?_
    rintro e w2 ⟨rfl, hb2'⟩
    have hb2 := below_more hb1 hb1.size hb2'
    have hr2 := hr.below hb2
    clear hr hb1 hb2'
    go_wp2
    go_loopw [9, 34] (fun n i wr => ∃ k : Nat, k ≤ fs.length ∧ n = .int .i64 ((fillL d l (fs.take k)).length : Int) ∧ i = .int .i64 k ∧ Below w2.heap.size w2 wr) (fun _ i _ => fs.length - (intOf i).toNat)
    case atStart => exact ⟨0, Nat.zero_le _, rfl, rfl, Below.refl _ _⟩
    case round =>
      obtain ⟨k, hk, rfl, rfl, hbw⟩ := hrel
      by_cases hlt : k < fs.length
      · rcases hr2 with hnil | ⟨b, off, rfl, hb, hc⟩
        · rw [hnil] at hlt; simp at hlt
        obtain ⟨c0, c1⟩ := hc k hlt
        have d0 : wr.cell? ⟨b, off + k * 2, none⟩ = _ := (hbw.cell (p := ⟨b, off + k * 2, none⟩) hb).trans c0
        have d1 : wr.cell? ⟨b, off + k * 2 + 1, none⟩ = _ := (hbw.cell (p := ⟨b, off + k * 2 + 1, none⟩) hb).trans c1
        have hbk : b < wr.heap.size := World.block_lt_of_cell? _ _ d0
        obtain ⟨o1, o2, o3, o4⟩ := okF_of (unhide HA) k hlt
        have hsum := fill_sum (d := d) (l := l) k hlt o3
        have hfl : (fillL d l (fs.take k)).length ≤ 25500 := by
          have h1 := fill_len (d := d) (l := l) (fs.take k) (fun f hf => by
            obtain ⟨i, hi, rfl⟩ := List.mem_iff_getElem.1 (List.mem_of_mem_take hf)
            have := (okF_of (unhide HA) i hi).2.2.2
            rw [List.getD_eq_getElem?_getD, List.getElem?_eq_getElem hi] at this
            exact this)
          have h2 : (fs.take k).length ≤ 100 := by have := List.length_take_le k fs; omega
          omega
        have hfi : ((fillL d l (fs.take k)).length : Int) ≤ 25500 := by omega
        generalize fs.getD k (0, 0) = f at *
        obtain ⟨ft, fl⟩ := f
        simp only at d0 d1 o1 o2 o3 o4 hsum
        generalize (fillL d l (fs.take k)).length = m at *
        have HX := hide hsum
        clear c0 c1 hc hsum hfl
        go_wp2
        go_roundw
        case rel => exact ⟨k + 1, by omega, by rw [unhide HX], by go_num, hbw.alloc hbw.size _⟩
        case measure => simp [intOf]; omega
      · have hke : k = fs.length := by omega
        subst hke
        rw [List.take_of_length_le (Nat.le_refl _)]
        have t5 : ((S.size : Int) == ((fillL d l fs).length : Int)) = true := by rw [beq_iff_eq, unhide HS]
        generalize (fillL d l fs).length = m at *
        go_wp2
        all_goals
          go_ret
          exact ⟨by first | rfl | simp_all, below_more hb2 hb2.size hbw⟩
  · have t1 : (fieldsE fs != 0) = true := by simpa using he
    generalize fieldsE fs = er at *
    generalize fillS d l fs = S at *
    have N1 := hide n1; have N2 := hide n2
    clear n1 n2 he hn hv hw
    go_enter Try.func7, Try.ntmps7
    go_wp2_with fail
    refine (unhide N1).mono ?_
    rintro e w1 ⟨rfl, hb1⟩
    go_wp2_with fail
    refine (unhide N2 _ hb1).mono ?_
    rintro e w2 ⟨rfl, hb2'⟩
    have hb2 := below_more hb1 hb1.size hb2'
    have hr2 := hr.below hb2
    clear hr hb1 hb2'
    go_wp2
    go_loopw [9, 34] (fun n i wr => ∃ (k : Nat) (m : Int), k ≤ fs.length ∧ n = .int .i64 m ∧ i = .int .i64 k ∧ Below w2.heap.size w2 wr) (fun _ i _ => fs.length - (intOf i).toNat)
    case atStart => exact ⟨0, 0, Nat.zero_le _, rfl, rfl, Below.refl _ _⟩
    case round =>
      obtain ⟨k, m, hk, rfl, rfl, hbw⟩ := hrel
      by_cases hlt : k < fs.length
      · rcases hr2 with hnil | ⟨b, off, rfl, hb, hc⟩
        · rw [hnil] at hlt; simp at hlt
        obtain ⟨c0, c1⟩ := hc k hlt
        have d0 : wr.cell? ⟨b, off + k * 2, none⟩ = _ := (hbw.cell (p := ⟨b, off + k * 2, none⟩) hb).trans c0
        have d1 : wr.cell? ⟨b, off + k * 2 + 1, none⟩ = _ := (hbw.cell (p := ⟨b, off + k * 2 + 1, none⟩) hb).trans c1
        have hbk : b < wr.heap.size := World.block_lt_of_cell? _ _ d0
        generalize fs.getD k (0, 0) = f at *
        obtain ⟨ft, fl⟩ := f
        simp only at d0 d1
        clear c0 c1 hc
        go_wp2
        go_roundw
        case rel => exact ⟨k + 1, _, by omega, rfl, by go_num, hbw.alloc hbw.size _⟩
        case measure => simp [intOf]; omega
      · go_wp2
        all_goals
          go_ret
          exact ⟨by first | rfl | simp_all, below_more hb2 hb2.size hbw⟩
end Go.Proofs.Ythamjfgiklbifab
