/- Share of the program. -/
import Derived.Test.YtbnpajijbdddiaaShrB
import Derived.Test.YtbnpajijbdddiaaStS
namespace Go.Proofs.Ytbnpajijbdddiaa
open Go.RowKit
set_option linter.unusedVariables false

theorem infoInt : (Try.prog.info? 3).map (fun i => (i.zero, i.size, i.bytes)) = some (some (.int .i64 0), 1, 8) := by kernel_rfl
theorem lo_in (A S : Int) (ps : List Int) (hA : 0 ≤ A ∧ A ≤ 999999999999) (hS : 0 < S) (hw : ∀ x ∈ ps, wrongI x = false) (i : Nat) : 0 ≤ A * pt ps i ∧ A * pt ps i ≤ 999999999999000000 ∧ 0 ≤ loS A S ps i ∧ loS A S ps i ≤ 999999999999000000 := by
  have hp := pt_in hw i
  have h1 : 0 ≤ A * pt ps i := Int.mul_nonneg hA.1 hp.1
  have h2 : A * pt ps i ≤ 999999999999 * 1000000 := Int.mul_le_mul hA.2 hp.2 hp.1 (by omega)
  refine ⟨h1, by omega, Int.ediv_nonneg h1 (by omega), ?_⟩
  have := Int.ediv_le_self S h1
  unfold loS; omega
/-- what lies in the two rows, k of them done -/
def shF (f : Nat → Int) (k i : Nat) : Value := .int .i64 (if i < k then f i else 0)
/-- behind part of the shares, what is left lies between 0 and the amount -/
theorem left_part (A S : Int) (ps : List Int) (n : Nat) (hA : 0 ≤ A ∧ A ≤ 999999999999) (h0 : 0 < S) (hw : ∀ x ∈ ps, wrongI x = false) (hS : sumTo (pt ps) n = S) (k : Nat) (hk : k ≤ n) : 0 ≤ leftS A S ps k ∧ leftS A S ps k ≤ A := by
  have hnn : ∀ m, sumTo (loS A S ps) k ≤ sumTo (loS A S ps) (k + m) := by
    intro m
    induction m with
    | zero => exact Int.le_refl _
    | succ m ih =>
      have := (lo_in A S ps hA h0 hw (k + m)).2.2.1
      show _ ≤ sumTo (loS A S ps) (k + m) + loS A S ps (k + m)
      omega
  have h1 := hnn (n - k)
  rw [show k + (n - k) = n by omega] at h1
  have h2 := sumTo_nonneg (loS A S ps) k (fun i _ => (lo_in A S ps hA h0 hw i).2.2.1)
  have h3 : 0 ≤ leftS A S ps n := by
    rcases Nat.eq_zero_or_pos n with h | h
    · subst h; simp only [leftS, sumTo]; omega
    · exact (left_in A S ps n hS h0 h).1
  unfold leftS at *
  omega
set_option maxRecDepth 100000 in
set_option maxHeartbeats 8000000 in
theorem share_yes (A : Int) (ps : List Int) (ao : Option Addr) (cap : Nat) (w : World) (hr : Rowint w ao ps) (he : partE A ps = 0) :
    Calls Try.prog 9 #[.int .i64 A, .slice ao ps.length cap] w fun e w' => (∃ (D : Nat → Nat) (g : Nat), Bk (reS A (allS ps) ps) D 0 ps.length ∧ e = .returned (.tuple #[.slice (some ⟨g, 0, none⟩) ps.length ps.length, .int .i64 0]) ∧ w'.rowIs g 3 ps.length (fun i => .int .i64 (shS A (allS ps) ps D (leftS A (allS ps) ps ps.length).toNat i)) ∧ w.heap.size ≤ g) ∧ Below w.heap.size w w' := by
  obtain ⟨hA, hw, hn, hS0⟩ := partE_zero he
  have n1 := fun w' (hb : Below w.heap.size w w') => checkParts_any A ps ao cap w' (hr.below hb)
  rw [he] at n1
  simp only [if_true] at n1
  have hsn := sum_in hw ps.length hn
  have hSS : sumTo (pt ps) ps.length = allS ps := rfl
  have h0 : 0 < ps.length := by
    rcases Nat.eq_zero_or_pos ps.length with h | h
    · exfalso; apply hS0; unfold allS; rw [h]; rfl
    · exact h
  have hrow : ∃ b off, ao = some ⟨b, off, none⟩ ∧ b < w.heap.size ∧ ∀ i x, ps[i]? = some x → w.cell? ⟨b, off + i, none⟩ = some (.int .i64 x) := by
    rcases hr.1 with h | h
    · rw [h] at h0; simp at h0
    · exact h
  obtain ⟨b, off, rfl, hb, hc⟩ := hrow
  rw [hSS] at hsn
  generalize hSv : allS ps = S at *
  have hS : 0 < S ∧ S ≤ 1000000000 := by omega
  have hni : (ps.length : Int) ≤ 1000 := by omega
  have hn0 : (0 : Int) < (ps.length : Int) := by omega
  have hmk := run_make_row' (P := Try.prog) 31 3 (.int .i64 0) 8 Try.underlying31 infoInt rfl .i64 .i64 ps.length (by omega) (by omega)
  have N1 := hide n1; have HC := hide hc; have HW := hide hw; have HSS := hide hSS; have HA := hide hA; have HS := hide hS
  have HHN := hide hn; have HH0 := hide h0
  clear n1 hc hw hSS hr he hS0 hSv hsn hA hS
  go_enter Try.func9, Try.ntmps9
  go_wp2_with fail
  have hb0 : Below w.heap.size w ((w.alloc (.cells #[.int .i64 A] 3)).alloc (.cells #[.slice (some ⟨b, off, none⟩) ps.length cap] 31)) := ((Below.refl _ _).alloc (Nat.le_refl _) _).alloc (by simp) _
  refine (unhide N1 _ hb0).mono ?_
  rintro e w1 ⟨rfl, hb1⟩
  have hbw1 := ext_b hb0 hb1 (by simp; omega)
  obtain ⟨W2, hW2⟩ : ∃ W2, W2 = w1.alloc (.cells #[.int .i64 S] 3) := ⟨_, rfl⟩
  have hsz1 : w.heap.size + 2 ≤ w1.heap.size := by have := hb1.size; simp at this; omega
  have hsz2 : W2.heap.size = w1.heap.size + 1 := by rw [hW2]; simp
  have hbw2 : Below w.heap.size w W2 := by rw [hW2]; exact hbw1.alloc hbw1.size _
  have hb12 : Below w1.heap.size w1 W2 := by rw [hW2]; exact (Below.refl _ _).alloc (Nat.le_refl _) _
  have henv : ShEnv W2 w.heap.size (w.heap.size + 1) w1.heap.size b off A S ps cap := by
    refine ⟨?_, ?_, ?_, ?_⟩
    · rw [hb12.cell (p := ⟨w.heap.size, 0, none⟩) (by show w.heap.size < _; omega), hb1.cell (p := ⟨w.heap.size, 0, none⟩) (by simp; omega)]
      simp
    · rw [hb12.cell (p := ⟨w.heap.size + 1, 0, none⟩) (by show w.heap.size + 1 < _; omega), hb1.cell (p := ⟨w.heap.size + 1, 0, none⟩) (by simp)]
      simp
    · rw [hW2]; simp
    · intro i x hx
      rw [hbw2.cell (p := ⟨b, off + i, none⟩) hb]
      exact unhide HC i x hx
  have d0 : w1.cell? ⟨w.heap.size, 0, none⟩ = some (.int .i64 A) := (hb12.cell (p := ⟨w.heap.size, 0, none⟩) (by show w.heap.size < _; omega)).symm.trans henv.a
  have d1 : w1.cell? ⟨w.heap.size + 1, 0, none⟩ = some (.slice (some ⟨b, off, none⟩) ps.length cap) := (hb12.cell (p := ⟨w.heap.size + 1, 0, none⟩) (by show w.heap.size + 1 < _; omega)).symm.trans henv.q
  have HW2 := hide hW2; have HENV := hide henv; have HBW2 := hide hbw2; have HSZ1 := hide hsz1; have HSZ2 := hide hsz2
  clear hb0 hb1 hbw1 hW2 hbw2 hb12 henv hsz1 hsz2 N1 d0 d1
  go_upto_region 4 with fail
  rw [← unhide HW2]
  have d0 := (unhide HENV).a; have d1 := (unhide HENV).q
  have hx0 : w.heap.size < W2.heap.size := by have := unhide HSZ1; have := unhide HSZ2; omega
  have hx1 : w.heap.size + 1 < W2.heap.size := by have := unhide HSZ1; have := unhide HSZ2; omega
  have d0a : ∀ o : Obj, (W2.alloc o).cell? ⟨w.heap.size, 0, none⟩ = some (.int .i64 A) := fun o => (World.cell?_of_block (w := W2) (a := ⟨w.heap.size, 0, none⟩) (heap_alloc_old W2 o hx0)).trans d0
  have d1a : ∀ o : Obj, (W2.alloc o).cell? ⟨w.heap.size + 1, 0, none⟩ = some (.slice (some ⟨b, off, none⟩) ps.length cap) := fun o => (World.cell?_of_block (w := W2) (a := ⟨w.heap.size + 1, 0, none⟩) (heap_alloc_old W2 o hx1)).trans d1
  have d0b : ∀ o o' : Obj, ((W2.alloc o).alloc o').cell? ⟨w.heap.size, 0, none⟩ = some (.int .i64 A) := fun o o' => (World.cell?_of_block (w := W2.alloc o) (a := ⟨w.heap.size, 0, none⟩) (heap_alloc_old (W2.alloc o) o' (by simp; omega))).trans (d0a o)
  have hrow1 := World.rowIs_made W2 (.int .i64 0) ps.length 3
  have hrow2 := hrow1.alloc (.cells (madeCells #[.int .i64 0] ps.length) 3)
  have hrow3 := World.rowIs_made (W2.alloc (.cells (madeCells #[.int .i64 0] ps.length) 3)) (.int .i64 0) ps.length 3
  have hbb : Below W2.heap.size W2 ((W2.alloc (.cells (madeCells #[.int .i64 0] ps.length) 3)).alloc (.cells (madeCells #[.int .i64 0] ps.length) 3)) := ((Below.refl _ _).alloc (Nat.le_refl _) _).alloc (by simp) _
  have hs3 : (W2.alloc (.cells (madeCells #[.int .i64 0] ps.length) 3)).heap.size = W2.heap.size + 1 := by simp
  rw [hs3] at hrow3
  have R2 := hide hrow2; have R3 := hide hrow3; have RB := hide hbb
  clear HW2 hrow1 hrow2 hrow3 hbb hs3 hx0 hx1
  go_cut [8, 9, 10] (fun x y z wx => ∃ ga gb : Nat, x = .slice (some ⟨ga, 0, none⟩) ps.length ps.length ∧ y = .slice (some ⟨gb, 0, none⟩) ps.length ps.length ∧ z = .int .i64 A ∧ W2.heap.size ≤ ga ∧ W2.heap.size ≤ gb ∧ ga ≠ gb ∧ wx.rowIs ga 3 ps.length (fun _ => .int .i64 0) ∧ wx.rowIs gb 3 ps.length (fun _ => .int .i64 0) ∧ Below W2.heap.size W2 wx)
  case first =>
    go_region
    all_goals
      go_wp2_with fail
      go_meet
      first
        | exact ⟨W2.heap.size, W2.heap.size + 1, rfl, rfl, rfl, Nat.le_refl _, by omega, by omega, unhide R2, unhide R3, below_drewN (unhide RB) 1⟩
        | exact ⟨W2.heap.size + 1, W2.heap.size, rfl, rfl, rfl, by omega, Nat.le_refl _, by omega, unhide R3, unhide R2, below_drewN (unhide RB) 1⟩
  case rest =>
  clear d0 d1 d0a d1a d0b R2 R3 RB
  obtain ⟨ga, gb, rfl, rfl, rfl, hga, hgb, hgab, hra, hrb, hbW⟩ := hcut
  generalize wc = w3 at *
  have henv3 : ShEnv w3 w.heap.size (w.heap.size + 1) w1.heap.size b off A S ps cap := (unhide HENV).kept (fun p hp => hbW.cell (by
    have := unhide HSZ1; have := unhide HSZ2
    rcases hp with e | e | e | e <;> rw [e] <;> omega))
  have d1 := henv3.q
  have HRA := hide hra; have HRB := hide hrb; have HBW := hide hbW; have HENV3 := hide henv3
  clear hra hrb hbW henv3 hmk
  go_wp2
  go_loopw [10, 34] (fun z i wr => ∃ k : Nat, k ≤ ps.length ∧ i = .int .i64 k ∧ z = .int .i64 (leftS A S ps k) ∧ wr.rowIs ga 3 ps.length (shF (loS A S ps) k) ∧ wr.rowIs gb 3 ps.length (shF (fun i => (i : Int)) k) ∧ Below W2.heap.size W2 wr) (fun _ i _ => ps.length - (intOf i).toNat)
  case atStart => exact ⟨0, Nat.zero_le _, rfl, by simp [leftS, sumTo], (unhide HRA).congr (fun i _ => by simp [shF]), (unhide HRB).congr (fun i _ => by simp [shF]), unhide HBW⟩
  case round =>
    clear HRA HRB HBW HENV3
    obtain ⟨k, hk, rfl, rfl, hra, hrb, hbW⟩ := hrel
    have henv : ShEnv wr w.heap.size (w.heap.size + 1) w1.heap.size b off A S ps cap := (unhide HENV).kept (fun p hp => hbW.cell (by
      have := unhide HSZ1; have := unhide HSZ2
      rcases hp with e | e | e | e <;> rw [e] <;> omega))
    by_cases hlt : k < ps.length
    · obtain ⟨x, hx⟩ : ∃ x, ps[k]? = some x := ⟨_, List.getElem?_eq_getElem hlt⟩
      have c0 := henv.a; have c1 := henv.l; have c2 := henv.row k x hx
      have hli := lo_in A S ps (unhide HA) (unhide HS).1 (unhide HW) k
      obtain ⟨l1, l2, l3, l4⟩ := hli
      have hlp := left_part A S ps ps.length (unhide HA) (unhide HS).1 (unhide HW) (unhide HSS) k (by omega)
      have hlp2 := left_part A S ps ps.length (unhide HA) (unhide HS).1 (unhide HW) (unhide HSS) (k + 1) (by omega)
      have hnx : leftS A S ps (k + 1) = leftS A S ps k - loS A S ps k := by simp only [leftS, sumTo]; omega
      rw [hnx] at hlp2
      rw [pt_at hx] at l1 l2
      have hq : wrap64 ((wrap64 (A * x)).tdiv S) = loS A S ps k := by
        have e : A * x / S = loS A S ps k := by unfold loS; rw [pt_at hx]
        rw [show wrap64 (A * x) = A * x by unfold wrap64; omega, Int.tdiv_eq_ediv_of_nonneg l1, e]
        unfold wrap64; omega
      have hki : (k : Int) < (ps.length : Int) := by omega
      have hSz : (S == 0) = false := by rw [beq_eq_false_iff_ne]; have := (unhide HS).1; omega
      have hra2 := hra.set k (.int .i64 (loS A S ps k))
      have hra3 : (wr.setCell ⟨ga, k, none⟩ (.int .i64 (loS A S ps k))).rowIs ga 3 ps.length (shF (loS A S ps) (k + 1)) := hra2.congr (fun i hi => by
        unfold shF
        by_cases e : i = k
        · rw [if_pos e, if_pos (by omega), e]
        · rw [if_neg e]
          by_cases e2 : i < k
          · rw [if_pos e2, if_pos (by omega)]
          · rw [if_neg e2, if_neg (by omega)])
      have hrb2 := hrb.setOther (a := ⟨ga, k, none⟩) (fun e => hgab e.symm) (.int .i64 (loS A S ps k))
      have hrb3 := hrb2.set k (.int .i64 (k : Int))
      have hrb4 : ((wr.setCell ⟨ga, k, none⟩ (.int .i64 (loS A S ps k))).setCell ⟨gb, k, none⟩ (.int .i64 (k : Int))).rowIs gb 3 ps.length (shF (fun i => (i : Int)) (k + 1)) := hrb3.congr (fun i hi => by
        unfold shF
        by_cases e : i = k
        · rw [if_pos e, if_pos (by omega), e]
        · rw [if_neg e]
          by_cases e2 : i < k
          · rw [if_pos e2, if_pos (by omega)]
          · rw [if_neg e2, if_neg (by omega)])
      have hra4 := hra3.setOther (a := ⟨gb, k, none⟩) hgab (.int .i64 (k : Int))
      have f0 := hra.frozen k
      have f1 := hrb2.frozen k
      have f2 := hra.cell hlt
      have f3 := hrb2.cell hlt
      have f4 : ((wr.setCell ⟨ga, k, none⟩ (.int .i64 (loS A S ps k))).setCell ⟨gb, k, none⟩ (.int .i64 (k : Int))).cell? ⟨ga, k, none⟩ = some (.int .i64 (loS A S ps k)) := by
        rw [hra4.cell hlt]; unfold shF; rw [if_pos (by omega)]
      have hbW2 := (hbW.setCell (p := ⟨ga, k, none⟩) hga (.int .i64 (loS A S ps k))).setCell (p := ⟨gb, k, none⟩) hgb (.int .i64 (k : Int))
      have R4 := hide hra4; have R5 := hide hrb4; have HBW := hide hbW2; have HNX := hide hnx
      generalize loS A S ps k = lk at *
      generalize leftS A S ps k = L at *
      obtain ⟨p1, p2⟩ := hlp
      obtain ⟨p3, p4⟩ := hlp2
      obtain ⟨a1, a2⟩ := unhide HA
      clear hra hrb hbW henv hx hra2 hra3 hrb2 hrb3 hrb4 hra4 hbW2 hnx l1 l2
      have hSp := (unhide HS).1
      go_wp2
      go_roundw
      case rel => exact ⟨k + 1, by omega, by go_num, by rw [unhide HNX], unhide R4, unhide R5, unhide HBW⟩
      case measure => simp [intOf]; omega
    · have hkl : k = ps.length := by omega
      have hrb2 : RI wr gb ps.length (fun i => if i < ps.length then i else 0) := hrb.congr (fun i hi => by
        unfold shF
        show Value.int .i64 _ = Value.int .i64 (((if i < ps.length then i else 0 : Nat)) : Int)
        rw [if_pos (by omega), if_pos hi])
      have hra2 : wr.rowIs ga 3 ps.length (fun i => .int .i64 (loS A S ps i)) := hra.congr (fun i hi => by
        unfold shF
        rw [if_pos (by omega)])
      obtain ⟨lf0, lf1⟩ := left_in A S ps ps.length (unhide HSS) (unhide HS).1 (unhide HH0)
      obtain ⟨t, ht⟩ : ∃ t, t = (leftS A S ps ps.length).toNat := ⟨_, rfl⟩
      have hlt2 : leftS A S ps k = (t : Int) := by rw [hkl]; omega
      have htn : t < ps.length := by omega
      rw [hlt2]
      obtain ⟨W4, hW4⟩ : ∃ W4, W4 = wr.alloc (.cells #[.func (.func 18) #[] #[.pointer (some ⟨w.heap.size, 0, none⟩), .pointer (some ⟨w.heap.size + 1, 0, none⟩), .pointer (some ⟨w1.heap.size, 0, none⟩)]] 50) := ⟨_, rfl⟩
      have hb34 : Below wr.heap.size wr W4 := by rw [hW4]; exact (Below.refl _ _).alloc (Nat.le_refl _) _
      have hrbs := World.rowIs.lt hrb2
      have hras := hra2.lt
      have hsz4 : W2.heap.size ≤ wr.heap.size := hbW.size
      have hrb4 : RI W4 gb ps.length (fun i => if i < ps.length then i else 0) := World.rowIs.of_block hrb2 (hb34.block gb hrbs)
      have hra4 : W4.rowIs ga 3 ps.length (fun i => .int .i64 (loS A S ps i)) := hra2.of_block (hb34.block ga hras)
      have hcw : ShCW wr.heap.size w.heap.size (w.heap.size + 1) w1.heap.size b off A S ps cap W4 := by
        refine ⟨henv.kept (fun p hp => hb34.cell ?_), by rw [hW4]; simp⟩
        have := unhide HSZ1; have := unhide HSZ2
        rcases hp with e | e | e | e <;> rw [e] <;> omega
      have hne : w.heap.size ≠ gb ∧ w.heap.size + 1 ≠ gb ∧ w1.heap.size ≠ gb ∧ b ≠ gb ∧ wr.heap.size ≠ gb := by
        have := unhide HSZ1; have := unhide HSZ2
        omega
      have hcm := shCmp gb wr.heap.size w.heap.size (w.heap.size + 1) w1.heap.size b off A S ps cap (unhide HA) (unhide HS) (unhide HW) hne.1 hne.2.1 hne.2.2.1 hne.2.2.2.1 hne.2.2.2.2
      have n2 := sortStable_int hcm (fun i => if i < ps.length then i else 0) ps.length W4 hrb4 hcw (fun x => by show (if x < ps.length then x else 0) < ps.length; split <;> omega) (fun x hx => by show (if x < ps.length then x else 0) = x; rw [if_pos hx]) (unhide HHN)
      unfold cmpV at n2
      have hbW4 : Below W2.heap.size W2 W4 := by rw [hW4]; exact hbW.alloc hbW.size _
      have N2 := hide n2; have HRA := hide hra4; have HB4 := hide hbW4; have HW4 := hide hW4; have HT := hide ht
      clear hra hrb henv hrb2 hra2 hb34 hrb4 hra4 hcw hne hcm n2 hbW hbW4 hW4 hrbs hras lf0 lf1 hkl hlt2 ht
      have hst : ∀ (fn : Fn) (f c : Array Value) (a : Addr) (m : Mode) (wx : World), (store a (.func fn f c) m).run Try.prog wx = stored Try.prog wx a (.func fn f c) m := fun fn f c a m wx => run_store _ wx a _ m rfl
      go_upto_region 12 with fail
      clear hst
      rw [← unhide HW4]
      go_wp2_with fail
      refine (unhide N2).mono ?_
      rintro e w5 ⟨rfl, ⟨D, hr5, hk5⟩, hb5⟩
      have hra5 : w5.rowIs ga 3 ps.length (fun i => .int .i64 (loS A S ps i)) := (unhide HRA).of_block (hb5.block ga hgab)
      have hbW5 : Below W2.heap.size W2 w5 := (unhide HB4).trans (hb5.below hgb)
      have HR5 := hide hr5; have HK5 := hide hk5; have HRA5 := hide hra5; have HB5 := hide hbW5
      have hti : (t : Int) ≤ (ps.length : Int) := by omega
      clear hr5 hk5 hb5 hra5 hbW5 N2 HRA HB4 HW4
      go_wp2
      go_loopw [66] (fun i wr => ∃ k : Nat, k ≤ t ∧ i = .int .i64 k ∧ wr.rowIs ga 3 ps.length (fun i => .int .i64 (shS A S ps D k i)) ∧ RI wr gb ps.length D ∧ Below W2.heap.size W2 wr) (fun i _ => t - (intOf i).toNat)
      case atStart => exact ⟨0, Nat.zero_le _, rfl, (unhide HRA5).congr (fun i _ => by simp [shS, chI_zero]), unhide HR5, unhide HB5⟩
      case round =>
        clear HRA5 HR5 HB5
        obtain ⟨k, hk, rfl, hra, hrb, hbW⟩ := hrel
        by_cases hlt : k < t
        · have hki : (k : Int) < (t : Int) := by omega
          have hDk := ((unhide HK5).own k (Nat.zero_le _) (by omega)).2
          have c0 := hrb.cell (i := k) (by omega)
          have c1 := hra.cell hDk
          have f1 := hra.frozen (D k)
          have hdi : ((D k : Nat) : Int) < (ps.length : Int) := by omega
          have hdt : (k : Int) < (ps.length : Int) := by omega
          have hli := lo_in A S ps (unhide HA) (unhide HS).1 (unhide HW) (D k)
          have hci := chI_in D k (D k)
          have hsb : 0 ≤ shS A S ps D k (D k) ∧ shS A S ps D k (D k) ≤ 999999999999000001 := by unfold shS; omega
          obtain ⟨s1, s2⟩ := hsb
          have hra2 := hra.set (D k) (.int .i64 (shS A S ps D k (D k) + 1))
          have hra3 : (wr.setCell ⟨ga, D k, none⟩ (.int .i64 (shS A S ps D k (D k) + 1))).rowIs ga 3 ps.length (fun i => .int .i64 (shS A S ps D (k + 1) i)) := hra2.congr (fun i hi => by
            have hnx := chI_next (unhide HK5) (show k < ps.length by omega) i
            by_cases e : i = D k
            · rw [if_pos e]
              rw [if_pos e] at hnx
              unfold shS
              rw [hnx, e]; congr 1; omega
            · rw [if_neg e]
              rw [if_neg e] at hnx
              unfold shS
              rw [hnx])
          have hrb2 : RI (wr.setCell ⟨ga, D k, none⟩ (.int .i64 (shS A S ps D k (D k) + 1))) gb ps.length D := World.rowIs.setOther hrb (a := ⟨ga, D k, none⟩) (fun e => hgab e.symm) _
          have hbW2 := hbW.setCell (p := ⟨ga, D k, none⟩) hga (.int .i64 (shS A S ps D k (D k) + 1))
          have R3 := hide hra3; have RB2 := hide hrb2; have HBW := hide hbW2
          generalize shS A S ps D k (D k) = v at *
          generalize D k = dk at *
          clear hra hrb hbW hra2 hra3 hrb2 hbW2 hli hci hDk
          go_wp2
          go_roundw
          case rel => exact ⟨k + 1, by omega, by go_num, unhide R3, unhide RB2, unhide HBW⟩
          case measure => simp [intOf]; omega
        · have hkt : k = t := by omega
          have HT2 : Hid ((leftS A S ps ps.length).toNat = k) := hide (by rw [hkt]; exact (unhide HT).symm)
          have HRA := hide hra; have HBW := hide hbW
          have HGA : Hid (w.heap.size ≤ ga) := hide (by have := unhide HSZ1; have := unhide HSZ2; omega)
          clear hra hrb hbW hkt
          go_wp2
          go_ret2
          refine ⟨⟨D, ga, unhide HK5, rfl, ?_, unhide HGA⟩, (unhide HBW2).trans ((unhide HBW).mono (unhide HBW2).size)⟩
          rw [unhide HT2]
          exact unhide HRA
theorem share_no (A : Int) (ps : List Int) (ao : Option Addr) (cap : Nat) (w : World) (hr : Rowint w ao ps) (he : partE A ps ≠ 0) :
    Calls Try.prog 9 #[.int .i64 A, .slice ao ps.length cap] w fun e w' => e = .returned (.tuple #[.slice none 0 0, .int .i64 (partE A ps)]) ∧ Below w.heap.size w w' := by
  have n1 := fun w' (hb : Below w.heap.size w w') => checkParts_any A ps ao cap w' (hr.below hb)
  have hne : (partE A ps != 0) = true := by simpa using he
  rw [if_neg he] at n1
  generalize partE A ps = pe at *
  have N1 := hide n1
  clear n1 hr
  go_enter Try.func9, Try.ntmps9
  go_wp2_with fail
  have hb0 : Below w.heap.size w ((w.alloc (.cells #[.int .i64 A] 3)).alloc (.cells #[.slice ao ps.length cap] 31)) := ((Below.refl _ _).alloc (Nat.le_refl _) _).alloc (by simp) _
  refine (unhide N1 _ hb0).mono ?_
  rintro e w1 ⟨rfl, hb1⟩
  have hbw1 := ext_b hb0 hb1 (by simp; omega)
  have hbw2 := hbw1.alloc hbw1.size (.cells #[.int .i64 0] 3)
  clear hb0 hb1 N1
  go_wp2
  go_ret2
  exact ⟨rfl, hbw2⟩
end Go.Proofs.Ytbnpajijbdddiaa
