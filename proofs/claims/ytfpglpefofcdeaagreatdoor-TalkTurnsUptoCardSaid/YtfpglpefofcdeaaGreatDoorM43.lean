/- What was heard: masks; a row taken apart. -/
import Derived.Test.YtfpglpefofcdeaaGreatDoorM42
import Derived.Deep.RegionHeld3
namespace Go.Proofs.YtfpglpefofcdeaaGreatDoor
open Go.RowKit
set_option linter.unusedVariables false
set_option linter.unusedSimpArgs false
set_option maxRecDepth 100000

def maskD (s : ByteArray) : Int := if s.size = 6 then readV (s.extract 0 2) else 0
def maskO (s : ByteArray) : Int := if s.size = 6 then readV (s.extract 2 4) else 0
def maskF (s : ByteArray) : Int := if s.size = 6 then readV (s.extract 4 s.size) else 0
set_option maxHeartbeats 4000000 in
theorem masksOf_any (s : ByteArray) (w : World) :
    Calls Tryz.prog 96 #[.string s] w fun e w' => e = .returned (.agg #[.int .i64 (maskD s), .int .i64 (maskO s), .int .i64 (maskF s)]) ∧ Below w.heap.size w w' := by
  have HB := hide (fun o : Obj => (Below.refl w.heap.size w).alloc (Nat.le_refl _) o)
  unfold maskD maskO maskF
  by_cases h : s.size = 6
  case neg =>
    rw [if_neg h, if_neg h, if_neg h]
    have t1 : ((s.size : Int) != 6) = true := by simp; omega
    clear h
    go_enter Tryz.func96, Tryz.ntmps96
    go_wp2
    exact bodyPost_ret (v := .agg #[.int .i64 0, .int .i64 0, .int .i64 0]) (by simp [results, Tryz.results96, go_sem]) rfl ⟨rfl, unhide HB _⟩
  rw [if_pos h, if_pos h, if_pos h]
  have t1 : ((s.size : Int) != 6) = false := by simp; omega
  have hsi : (s.size : Int) = 6 := by omega
  have n0 := fun w => tnumber_any (s.extract 0 2) w (by rw [ByteArray.size_extract]; unfold maxLen; omega)
  have hsl0 : ∀ wx, (Instr.slice 9 (.string s) none (some (.int .i64 2)) none).run Tryz.prog wx = .ok (.string (s.extract 0 2)) wx := fun wx => run_slice_string_h (P := Tryz.prog) wx 9 s Tryz.underlying9 .i64 2 (by omega) (by omega)
  have n1 := fun w => tnumber_any (s.extract 2 4) w (by rw [ByteArray.size_extract]; unfold maxLen; omega)
  have hsl1 : ∀ wx, (Instr.slice 9 (.string s) (some (.int .i64 2)) (some (.int .i64 4)) none).run Tryz.prog wx = .ok (.string (s.extract 2 4)) wx := fun wx => run_slice_string (P := Tryz.prog) wx 9 s .i64 .i64 2 4 Tryz.underlying9 (by omega) (by omega) (by omega)
  have n2 := fun w => tnumber_any (s.extract 4 s.size) w (by rw [ByteArray.size_extract]; unfold maxLen; omega)
  have hsl2 : ∀ wx, (Instr.slice 9 (.string s) (some (.int .i64 4)) none none).run Tryz.prog wx = .ok (.string (s.extract 4 s.size)) wx := fun wx => run_slice_string_l (P := Tryz.prog) wx 9 s Tryz.underlying9 .i64 4 (by omega) (by omega)
  generalize readV (s.extract 0 2) = v0 at *
  generalize readV (s.extract 2 4) = v1 at *
  generalize readV (s.extract 4 s.size) = v2 at *
  generalize s.extract 0 2 = p0 at *
  generalize s.extract 2 4 = p1 at *
  generalize s.extract 4 s.size = p2 at *
  have N0 := hide n0; have N1 := hide n1; have N2 := hide n2
  clear n0 n1 n2 h
  go_enter Tryz.func96, Tryz.ntmps96
  go_wp2_with fail
  go_region_held3 (fun _ => True) (exact trivial)
    ((first | (go_at_call_of 98 (Value.string p0); refine (unhide N0 _).mono ?_; rintro e y0 ⟨rfl, hy⟩; subst hy) | (go_at_call_of 98 (Value.string p1); refine (unhide N1 _).mono ?_; rintro e y1 ⟨rfl, hy⟩; subst hy) | (go_at_call_of 98 (Value.string p2); refine (unhide N2 _).mono ?_; rintro e y2 ⟨rfl, hy⟩; subst hy)))
  all_goals
    go_wp2
    exact bodyPost_ret (v := .agg #[.int .i64 v0, .int .i64 v1, .int .i64 v2]) (by simp [results, Tryz.results96, go_sem]) rfl ⟨rfl, (unhide HB _).drew⟩
/-- a row taken apart into the parts that are there whole -/
def cutR : Nat → ByteArray → List ByteArray
  | 0, _ => []
  | k + 1, s => if s.size < 4 then [] else
      let n := readV (s.extract 0 4)
      let r := s.extract 4 s.size
      if (r.size : Int) < n then [] else r.extract 0 n.toNat :: cutR k (r.extract n.toNat r.size)
def sC (s : ByteArray) : List Value := [.string s]
def rowT : List ByteArray → List Value
  | [] => []
  | s :: l => .string s :: rowT l
theorem rowT_snoc (l : List ByteArray) (s : ByteArray) : rowT (l ++ [s]) = rowT l ++ [.string s] := by
  induction l with
  | nil => rfl
  | cons x l ih => simp [rowT, ih]
theorem rowT_len (l : List ByteArray) : (rowT l).length = l.length := by
  induction l with
  | nil => rfl
  | cons x l ih => simp [rowT, ih]
theorem infoStrT : (Tryz.prog.info? 9).map (fun i => (i.zero, i.size, i.bytes)) = some (some (.string ⟨#[]⟩), 1, 16) := by kernel_rfl
theorem cutR_some {k : Nat} {s : ByteArray} (h4 : ¬ s.size < 4) (hn : ¬ (((s.extract 4 s.size).size : Int) < readV (s.extract 0 4))) : cutR (k + 1) s = (s.extract 4 s.size).extract 0 (readV (s.extract 0 4)).toNat :: cutR k ((s.extract 4 s.size).extract (readV (s.extract 0 4)).toNat (s.extract 4 s.size).size) := by
  rw [cutR, if_neg h4]
  simp only [if_neg hn]
theorem cutR_none {k : Nat} {s : ByteArray} (h : s.size < 4 ∨ ((s.extract 4 s.size).size : Int) < readV (s.extract 0 4)) : cutR (k + 1) s = [] := by
  rw [cutR]
  by_cases h4 : s.size < 4
  · rw [if_pos h4]
  · rw [if_neg h4]
    simp only [if_pos (h.resolve_left h4)]
set_option maxHeartbeats 4000000 in
theorem cutRow_any (s : ByteArray) (w : World) (hs : s.size ≤ 65535) :
    Calls Tryz.prog 92 #[.string s] w fun e w' => (∃ v, e = .returned v ∧ w'.ownsRow w.heap.size 9 1 v (cutR 65536 s).length (rowT (cutR 65536 s))) ∧ Below w.heap.size w w' := by
  obtain ⟨i0, hi, hz0, hz1, hz2⟩ := info_parts infoStrT
  obtain ⟨T, hT⟩ : ∃ T, T = cutR 65536 s := ⟨_, rfl⟩
  rw [← hT]
  have HT := hide hT
  have HI := hide hi; have Z0 := hide hz0; have Z1 := hide hz1; have Z2 := hide hz2; have HSZ := hide hs
  clear hi hz0 hz1 hz2 hT hs
  go_enter Tryz.func92, Tryz.ntmps92
  go_wp2
  go_loopw [0, 3] (fun sv lv wx => ∃ (t : ByteArray) (l : List ByteArray), sv = .string t ∧ t.size + 4 * l.length ≤ 65535 ∧ T = l ++ cutR (65536 - l.length) t ∧ wx.ownsRow w.heap.size 9 1 lv l.length (rowT l) ∧ Below w.heap.size w wx) (fun sv _ _ => match sv with | .string t => t.size | _ => 0)
  case atStart => exact ⟨s, [], rfl, by have := unhide HSZ; simpa using this, unhide HT, World.ownsRow_nil _ _ _ _, Below.refl _ _⟩
  case round =>
    obtain ⟨t, l, rfl, hz, hTl, ho, hbw⟩ := hrel
    obtain ⟨k, hk⟩ : ∃ k, 65536 - l.length = k + 1 := ⟨65535 - l.length, by omega⟩
    rw [hk] at hTl
    by_cases h4 : t.size < 4
    · rw [cutR_none (.inl h4), List.append_nil] at hTl
      have h4i : ¬ 4 ≤ (t.size : Int) := by omega
      have HO : Hid (wr.ownsRow w.heap.size 9 1 u3 T.length (rowT T)) := hide (by rw [hTl]; exact ho)
      have HB := hide hbw
      clear ho hbw hTl hz hk
      go_wp2
      go_ret
      exact ⟨⟨_, rfl, unhide HO⟩, unhide HB⟩
    · have h4i : 4 ≤ (t.size : Int) := by omega
      obtain ⟨p, hp⟩ : ∃ p, p = t.extract 0 4 := ⟨_, rfl⟩
      obtain ⟨r, hr⟩ : ∃ r, r = t.extract 4 t.size := ⟨_, rfl⟩
      have hps : p.size ≤ maxLen := by rw [hp, ByteArray.size_extract]; unfold maxLen; omega
      have hrs : r.size = t.size - 4 := by rw [hr, ByteArray.size_extract]; omega
      have hb := readV_bound p
      obtain ⟨m, hm⟩ : ∃ m : Nat, readV p = (m : Int) := ⟨(readV p).toNat, by omega⟩
      have N1 := hide (fun W => tnumber_any p W hps)
      rw [hm] at N1
      have hslA : ∀ wx, (Instr.slice 9 (.string t) none (some (.int .i64 4)) none).run Tryz.prog wx = .ok (.string p) wx := fun wx => by rw [hp]; exact run_slice_string_h (P := Tryz.prog) wx 9 t Tryz.underlying9 .i64 4 (by omega) (by omega)
      have hslB : ∀ wx, (Instr.slice 9 (.string t) (some (.int .i64 4)) none none).run Tryz.prog wx = .ok (.string r) wx := fun wx => by rw [hr]; exact run_slice_string_l (P := Tryz.prog) wx 9 t Tryz.underlying9 .i64 4 (by omega) (by omega)
      by_cases hn : (r.size : Int) < (m : Int)
      · rw [cutR_none (.inr (by rw [← hp, ← hr, hm]; exact hn)), List.append_nil] at hTl
        have HO : Hid (wr.ownsRow w.heap.size 9 1 u3 T.length (rowT T)) := hide (by rw [hTl]; exact ho)
        have HB := hide hbw
        clear ho hbw hTl hz hk hp hr hps hrs hb hm h4
        go_wp2_with fail
        refine (unhide N1 _).mono ?_
        rintro e w1 ⟨rfl, hw⟩
        have hw' := hw.symm
        subst hw'
        go_wp2
        go_ret
        exact ⟨⟨_, rfl, unhide HO⟩, unhide HB⟩
      · obtain ⟨x, hx⟩ : ∃ x, x = r.extract 0 m := ⟨_, rfl⟩
        obtain ⟨r2, hr2⟩ : ∃ r2, r2 = r.extract m r.size := ⟨_, rfl⟩
        have hr2s : r2.size = r.size - m := by rw [hr2, ByteArray.size_extract]; omega
        have hcut : cutR (k + 1) t = x :: cutR k r2 := by
          rw [cutR_some h4 (by rw [← hp, ← hr, hm]; exact hn), ← hp, ← hr, hm, hx, hr2]
          rfl
        have hslC : ∀ wx, (Instr.slice 9 (.string r) none (some (.int .i64 (m : Int))) none).run Tryz.prog wx = .ok (.string x) wx := fun wx => by rw [hx]; exact slice_to r m (by omega) wx
        have hslD : ∀ wx, (Instr.slice 9 (.string r) (some (.int .i64 (m : Int))) none none).run Tryz.prog wx = .ok (.string r2) wx := fun wx => by rw [hr2]; exact slice_from r m (by omega) wx
        have hTl2 : T = l ++ [x] ++ cutR (65536 - (l ++ [x]).length) r2 := by
          rw [hTl, hcut, List.length_append, List.length_singleton, show 65536 - (l.length + 1) = k by omega]
          simp
        have hz2 : r2.size + 4 * (l ++ [x]).length ≤ 65535 := by rw [List.length_append, List.length_singleton]; omega
        have hll : l.length ≤ 20000 := by omega
        have hms : r2.size < t.size := by omega
        have HT2 := hide hTl2; have HZ2 := hide hz2; have HLL := hide hll; have HMS := hide hms; have HO := hide ho; have HB := hide hbw
        clear ho hbw hTl hz hk hp hr hps hrs hb hm h4 hx hr2 hr2s hcut hTl2 hz2 hll hms
        go_wp2_with fail
        refine (unhide N1 _).mono ?_
        rintro e w1 ⟨rfl, hw⟩
        have hw' := hw.symm
        subst hw'
        go_wp2_with (at_builtin; refine wpList_append_own _ rfl _ _ 83 rfl w.heap.size 9 i0 (.string ⟨#[]⟩) 1 16 Tryz.underlying83 (unhide HI) (unhide Z0) (unhide Z1) (unhide Z2) rfl (by decide) _ _ _ rfl ((unhide HO).alloc _) ⟨wr.heap.size, 0, none⟩ 1 1 [.string x] rfl rfl (World.news_of_block (heap_alloc_new _ _)) ?c2 ?c3 ?c4 ?c5 ?_)
        try (case c2 => intro u hu; simp at hu; subst hu; rfl)
        try (case c3 => have := unhide HLL; unfold maxLen; omega)
        try (case c4 => have := unhide HLL; omega)
        try (case c5 => have := (unhide HB).size; simp; omega)
        intro v5 w5 hown5 hgrow5 _
        have ho5 : w5.ownsRow w.heap.size 9 1 v5 (l ++ [x]).length (rowT (l ++ [x])) := by rw [rowT_snoc, List.length_append]; exact hown5
        have hb5 : Below w.heap.size w w5 := ((unhide HB).alloc (unhide HB).size (.cells #[.string x] 9)).grown hgrow5 (by have := (unhide HB).size; simp; omega) (fun j hj => ((unhide HO).lt j hj).1)
        have HO5 := hide ho5; have HB5 := hide hb5
        clear ho5 hb5 hown5 hgrow5
        go_wp2
        go_roundw
        case rel => exact ⟨r2, l ++ [x], rfl, unhide HZ2, unhide HT2, unhide HO5, unhide HB5⟩
        case measure => exact unhide HMS
end Go.Proofs.YtfpglpefofcdeaaGreatDoor
