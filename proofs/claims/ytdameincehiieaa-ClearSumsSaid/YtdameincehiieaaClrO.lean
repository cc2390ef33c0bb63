/- clear: New. -/
import Derived.Test.YtdameincehiieaaClrN
namespace Go.Proofs.Ytdameincehiieaa
open Go.RowKit Go.WideMaps Go.Maps
set_option linter.unusedVariables false
set_option maxRecDepth 100000

def dysV (D : Dys) : Value := .agg #[.int .i64 D.di, .int .i64 D.an, .int .i64 D.ins, .int .i64 D.fee]
def newS (D : Dys) : Clr := ⟨D, 0, [], fun _ _ => 0⟩
theorem newS_ok {D : Dys} (h : daysBad D = false) : okS (newS D) :=
  ⟨h, Int.le_refl _, by show (0 : Int) ≤ 65535; decide, Nat.zero_le _, fun k hk => (List.not_mem_nil hk).elim, List.nodup_nil, fun _ _ => Int.le_refl _, fun _ _ => Int.le_refl _, fun _ _ h => absurd rfl h⟩
theorem new_in (w : World) (D : Dys) : CIn (((w.alloc (.map #[] 0)).alloc (.map #[] 0)).alloc (.cells #[.int .i64 D.di, .int .i64 D.an, .int .i64 D.ins, .int .i64 D.fee, .int .i64 0, .map (some w.heap.size), .map (some (w.heap.size + 1))] 67)) (fun x => w.heap.size ≤ x ∧ x < w.heap.size + 3) (w.heap.size + 2) (newS D) w.heap.size (w.heap.size + 1) 0 0 [] := by
  have s1 : (w.alloc (.map #[] 0)).heap.size = w.heap.size + 1 := by simp
  have s2 : ((w.alloc (.map #[] 0)).alloc (.map #[] 0)).heap.size = w.heap.size + 2 := by simp
  have a1 : NMap (w.alloc (.map #[] 0)) w.heap.size 0 0 (fun _ _ => none) := NMap.made w
  have a2 : PMap ((w.alloc (.map #[] 0)).alloc (.map #[] 0)) (w.heap.size + 1) 0 (fun _ _ => 0) := by have := PMap.made (w.alloc (.map #[] 0)); rwa [s1] at this
  refine { blk := ?_, nm := ?_, nn := Nat.le_refl _, pm := ?_, kk := Int.le_refl _, qlen := rfl, pays := ?_, qnd := List.nodup_nil, fb := ⟨by omega, by omega⟩, f1 := ⟨by omega, by omega⟩, f2 := ⟨by omega, by omega⟩, fq := ?_, flt := ?_, n1 := by omega, n2 := by omega, n3 := by omega, nq := ?_ }
  · have := alloc_at ((w.alloc (.map #[] 0)).alloc (.map #[] 0)) (.cells #[.int .i64 D.di, .int .i64 D.an, .int .i64 D.ins, .int .i64 D.fee, .int .i64 0, .map (some w.heap.size), .map (some (w.heap.size + 1))] 67)
    rw [s2] at this
    exact this
  · refine NMap.congr (f := fun _ _ => none) ?_ (fun a c => rfl)
    refine (a1.of_block (w' := (w.alloc (.map #[] 0)).alloc (.map #[] 0)) (Below.heap_alloc _ _ _ (by rw [s1]; omega))).of_block (Below.heap_alloc _ _ _ (by rw [s2]; omega))
  · exact a2.of_block (Below.heap_alloc _ _ _ (by rw [s2]; omega))
  · intro i q x hq; cases hq
  · intro q hq; cases hq
  · intro x hx
    have : (((w.alloc (.map #[] 0)).alloc (.map #[] 0)).alloc (.cells #[.int .i64 D.di, .int .i64 D.an, .int .i64 D.ins, .int .i64 D.fee, .int .i64 0, .map (some w.heap.size), .map (some (w.heap.size + 1))] 67)).heap.size = w.heap.size + 3 := by simp
    omega
  · intro q hq; cases hq
def cnewPost (w : World) (D : Dys) (e : Ending) (w' : World) : Prop :=
  (daysBad D = true ∧ e = .returned (.tuple #[.pointer none, .int .i64 3]) ∧ Below w.heap.size w w') ∨
  (daysBad D = false ∧ ∃ (b : Nat) (F : Nat → Prop), e = .returned (.tuple #[.pointer (some ⟨b, 0, none⟩), .int .i64 0]) ∧ CAt w' F b (newS D) ∧ Below w.heap.size w w' ∧ ∀ x, F x → w.heap.size ≤ x)
def newRel (di an ins : Int) (k : Nat) : Prop := (1 ≤ k → inB 1 di 1000 = true) ∧ (2 ≤ k → inB 1 an 1000 = true) ∧ (3 ≤ k → inB 1 ins 1000 = true)
set_option maxHeartbeats 2000000 in
theorem new_any (D : Dys) (w : World) : Calls Try.prog 5 #[dysV D] w (cnewPost w D) := by
  have HB : Hid (∀ x, daysBad D = decide (x = true) → x = daysBad D) := hide (fun x h => by rw [h]; cases x <;> rfl)
  have HBAD : Hid (daysBad D = !(inB 1 D.di 1000 && (inB 1 D.an 1000 && (inB 1 D.ins 1000 && inB 0 D.fee 999999999999)))) := hide (by
    unfold daysBad inB
    rw [← Bool.decide_and, ← Bool.decide_and, ← Bool.decide_and, ← decide_not, decide_eq_decide]
    omega)
  clear HB
  obtain ⟨di, an, ins, fee⟩ := D
  unfold dysV
  dsimp only at *
  have hbW : Below w.heap.size w ((w.alloc (.cells #[.int .i64 di, .int .i64 an, .int .i64 ins, .int .i64 fee] 23)).alloc (.cells #[.int .i64 di, .int .i64 an, .int .i64 ins] 3)) := (((Below.refl w.heap.size w).alloc (Nat.le_refl _) _).alloc (by simp) _)
  have hx0 : ((w.alloc (.cells #[.int .i64 di, .int .i64 an, .int .i64 ins, .int .i64 fee] 23)).alloc (.cells #[.int .i64 di, .int .i64 an, .int .i64 ins] 3)).heap[w.heap.size]? = some (.cells #[.int .i64 di, .int .i64 an, .int .i64 ins, .int .i64 fee] 23) := (Below.heap_alloc _ _ _ (by simp)).trans (alloc_at w _)
  have hx1 : ((w.alloc (.cells #[.int .i64 di, .int .i64 an, .int .i64 ins, .int .i64 fee] 23)).alloc (.cells #[.int .i64 di, .int .i64 an, .int .i64 ins] 3)).heap[w.heap.size + 1]? = some (.cells #[.int .i64 di, .int .i64 an, .int .i64 ins] 3) := by
    have := alloc_at (w.alloc (.cells #[.int .i64 di, .int .i64 an, .int .i64 ins, .int .i64 fee] 23)) (.cells #[.int .i64 di, .int .i64 an, .int .i64 ins] 3)
    rwa [show (w.alloc (.cells #[.int .i64 di, .int .i64 an, .int .i64 ins, .int .i64 fee] 23)).heap.size = w.heap.size + 1 by simp] at this
  have HF := hide (And.intro hbW (And.intro hx0 hx1))
  clear hbW hx0 hx1
  go_enter Try.func5, Try.ntmps5
  go_wp2
  generalize ((w.alloc (.cells #[.int .i64 di, .int .i64 an, .int .i64 ins, .int .i64 fee] 23)).alloc (.cells #[.int .i64 di, .int .i64 an, .int .i64 ins] 3)) = W at *
  obtain ⟨hbW, hx0, hx1⟩ := unhide HF
  have HBW := hide hbW
  have HN := hide (fun n lo hi => cwithin_any n lo hi W)
  have a0 : W.cell? ⟨w.heap.size, 0, none⟩ = some (.int .i64 di) := by simp [World.cell?, hx0]
  have a1 : W.cell? ⟨w.heap.size, 1, none⟩ = some (.int .i64 an) := by simp [World.cell?, hx0]
  have a2 : W.cell? ⟨w.heap.size, 2, none⟩ = some (.int .i64 ins) := by simp [World.cell?, hx0]
  have a3 : W.cell? ⟨w.heap.size, 3, none⟩ = some (.int .i64 fee) := by simp [World.cell?, hx0]
  have r0 : W.cell? ⟨w.heap.size + 1, 0, none⟩ = some (.int .i64 di) := by simp [World.cell?, hx1]
  have r1 : W.cell? ⟨w.heap.size + 1, 1, none⟩ = some (.int .i64 an) := by simp [World.cell?, hx1]
  have r2 : W.cell? ⟨w.heap.size + 1, 2, none⟩ = some (.int .i64 ins) := by simp [World.cell?, hx1]
  clear hbW hx0 hx1 HF
  go_loopw [14] (fun i wr => ∃ k : Nat, k ≤ 3 ∧ i = .int .i64 k ∧ wr = W ∧ newRel di an ins k) (fun i _ => 3 - (intOf i).toNat)
  case atStart => exact ⟨0, by omega, rfl, by trivial, ⟨fun h => by omega, fun h => by omega, fun h => by omega⟩⟩
  case round =>
    obtain ⟨k, hk, rfl, hwr, HK⟩ := hrel
    rw [hwr]
    have hk4 : k = 0 ∨ k = 1 ∨ k = 2 ∨ k = 3 := by omega
    clear hwr
    rcases hk4 with rfl | rfl | rfl | rfl
    · cases hin : inB 1 di 1000
      · have N1 := unhide HN di 1 1000
        rw [hin] at N1
        have HN1 := hide N1; have HIN := hide hin
        clear N1 hin
        go_wp2_with fail
        refine (unhide HN1).mono ?_
        rintro e w1 ⟨rfl, hw1⟩
        rw [hw1]
        clear hw1
        go_wp2
        go_ret2
        exact .inl ⟨by rw [unhide HBAD, unhide HIN]; rfl, rfl, unhide HBW⟩
      · have N1 := unhide HN di 1 1000
        rw [hin] at N1
        have HN1 := hide N1; have HIN := hide hin
        clear N1 hin
        go_wp2_with fail
        refine (unhide HN1).mono ?_
        rintro e w1 ⟨rfl, hw1⟩
        rw [hw1]
        clear hw1
        go_wp2
        go_roundw
        case rel => exact ⟨1, by omega, rfl, by trivial, ⟨fun h => unhide HIN, fun h => by omega, fun h => by omega⟩⟩
        case measure => simp [intOf]
    · cases hin : inB 1 an 1000
      · have N1 := unhide HN an 1 1000
        rw [hin] at N1
        have HN1 := hide N1; have HIN := hide hin
        clear N1 hin
        go_wp2_with fail
        refine (unhide HN1).mono ?_
        rintro e w1 ⟨rfl, hw1⟩
        rw [hw1]
        clear hw1
        go_wp2
        go_ret2
        exact .inl ⟨by rw [unhide HBAD, unhide HIN, HK.1 (by omega)]; rfl, rfl, unhide HBW⟩
      · have N1 := unhide HN an 1 1000
        rw [hin] at N1
        have HN1 := hide N1; have HIN := hide hin
        clear N1 hin
        go_wp2_with fail
        refine (unhide HN1).mono ?_
        rintro e w1 ⟨rfl, hw1⟩
        rw [hw1]
        clear hw1
        go_wp2
        go_roundw
        case rel => exact ⟨2, by omega, rfl, by trivial, ⟨fun h => HK.1 (by omega), fun h => unhide HIN, fun h => by omega⟩⟩
        case measure => simp [intOf]
    · cases hin : inB 1 ins 1000
      · have N1 := unhide HN ins 1 1000
        rw [hin] at N1
        have HN1 := hide N1; have HIN := hide hin
        clear N1 hin
        go_wp2_with fail
        refine (unhide HN1).mono ?_
        rintro e w1 ⟨rfl, hw1⟩
        rw [hw1]
        clear hw1
        go_wp2
        go_ret2
        exact .inl ⟨by rw [unhide HBAD, unhide HIN, HK.1 (by omega), HK.2.1 (by omega)]; rfl, rfl, unhide HBW⟩
      · have N1 := unhide HN ins 1 1000
        rw [hin] at N1
        have HN1 := hide N1; have HIN := hide hin
        clear N1 hin
        go_wp2_with fail
        refine (unhide HN1).mono ?_
        rintro e w1 ⟨rfl, hw1⟩
        rw [hw1]
        clear hw1
        go_wp2
        go_roundw
        case rel => exact ⟨3, by omega, rfl, by trivial, ⟨fun h => HK.1 (by omega), fun h => HK.2.1 (by omega), fun h => unhide HIN⟩⟩
        case measure => simp [intOf]
    · cases hin : inB 0 fee 999999999999
      · have N1 := unhide HN fee 0 999999999999
        rw [hin] at N1
        have HN1 := hide N1; have HIN := hide hin
        clear N1 hin
        go_wp2_with fail
        refine (unhide HN1).mono ?_
        rintro e w1 ⟨rfl, hw1⟩
        rw [hw1]
        clear hw1
        go_wp2
        go_ret2
        exact .inl ⟨by rw [unhide HBAD, unhide HIN, HK.1 (by omega), HK.2.1 (by omega), HK.2.2 (by omega)]; rfl, rfl, unhide HBW⟩
      · have N1 := unhide HN fee 0 999999999999
        rw [hin] at N1
        have HN1 := hide N1; have HIN := hide hin
        have HC := hide (new_in W ⟨di, an, ins, fee⟩)
        have hmm := @run_makeMap Try.prog
        clear N1 hin
        go_wp2_with fail
        refine (unhide HN1).mono ?_
        rintro e w1 ⟨rfl, hw1⟩
        rw [hw1]
        clear hw1
        go_wp2
        refine bodyPost_ret (v := .tuple #[.pointer (some ⟨W.heap.size + 2, 0, none⟩), .int .i64 0]) (by simp [results, Try.results5, go_sem]) rfl ?_
        exact .inr ⟨by rw [unhide HBAD, unhide HIN, HK.1 (by omega), HK.2.1 (by omega), HK.2.2 (by omega)]; rfl, W.heap.size + 2, _, rfl, ⟨_, _, _, _, _, unhide HC⟩, ((((unhide HBW).alloc (unhide HBW).size _).alloc (by have := (unhide HBW).size; simp; omega) _).alloc (by have := (unhide HBW).size; simp; omega) _), fun x hx => Nat.le_trans (unhide HBW).size hx.1⟩
end Go.Proofs.Ytdameincehiieaa
