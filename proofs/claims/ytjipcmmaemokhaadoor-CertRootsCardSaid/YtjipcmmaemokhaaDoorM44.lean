/- power of the program, of texts: the walk. -/
import Derived.Test.YtjipcmmaemokhaaDoorM19
namespace Go.Proofs.YtjipcmmaemokhaaDoor
open Go.RowKit Go.Shelf
set_option linter.unusedVariables false

theorem newModular_n {m : ByteArray} (hm : IsMod m) {n : Nat} (hn : n = (m.size + 7) / 8) (w : World) :
    Calls Tryd.prog 20 #[.string m] w fun e w' => ∃ gm ms inv m0 gs os sc sq, e = .returned (.agg #[.slice (some ⟨gm, 0, none⟩) n n, .int .u64 (inv : Nat), .slice (some ⟨gs, os, none⟩) n sc]) ∧ NumAt w' gm 0 ms ∧ NumAt w' gs os sq ∧ ModOK ms sq m0 inv n ∧ natW ms = valN m.data.toList ∧ Below w.heap.size w w' := by
  refine (newModular_any m hm w).mono ?_
  rintro e w' ⟨gm, ms, inv, gs, os, sc, sq, rfl, a1, a2, a3, a4, a5, a6, a7, a8, ⟨m0, a9, a10⟩, a11, a12⟩
  have hl : ms.length = n := by rw [a5, hn]
  have hl2 : sq.length = n := by rw [a6, hl]
  have h1 := hm.low
  have h2 := hm.high
  refine ⟨gm, ms, inv, m0, gs, os, sc, sq, by rw [hl, hl2], a1, a2, ⟨hl, hl2, a3, a4, by rw [a7]; exact hm.odd, ?_, by rw [← hl]; exact a8, a9, a10, a11, by omega, by omega⟩, a7, a12⟩
  rw [a7]
  have h3 := hm.top
  have h4 : 2 ^ 1 ≤ 2 ^ (8 * m.size - 1) := Nat.pow_le_pow_right (by decide) (by omega)
  omega
theorem read_n {x : ByteArray} {n : Nat} (hn : n = (x.size + 7) / 8) (hx : (x.size : Int) ≤ 1000) (w : World) :
    Calls Tryd.prog 14 #[.string x] w fun e w' => ∃ g xs, e = .returned (.slice (some ⟨g, 0, none⟩) n n) ∧ NumAt w' g 0 xs ∧ xs.length = n ∧ okW xs ∧ natW xs = valN x.data.toList ∧ Below w.heap.size w w' := by
  refine (cread_any x hx w).mono ?_
  rintro e w' ⟨xs, rfl, a1, a2, a3, a4, a5⟩
  exact ⟨w.heap.size, xs, by rw [a2, ← hn], a1.numAt 0, by rw [a2, hn], a3, a4, a5⟩
theorem text_n {xs : List Nat} {n : Nat} (hl : xs.length = n) (g o c k : Nat) (w : World) (hX : NumAt w g o xs) (hx : okW xs) (hk : k ≤ 8 * n) (hkb : (k : Int) ≤ 1000) :
    Calls Tryd.prog 16 #[.slice (some ⟨g, o, none⟩) n c, .int .i64 k] w fun e w' => e = .returned (.string (strOfNums (bigL (natW xs) k))) ∧ Below w.heap.size w w' := by
  have := ctext_any xs g o c k w hX hx (by rw [hl]; exact hk) hkb
  rw [hl] at this
  exact this

set_option maxHeartbeats 1000000 in
set_option maxRecDepth 100000 in
theorem cpower_any (m x : ByteArray) (ds : List Nat) (gd od dc : Nat) (w : World) (hD : NumAt w gd od ds) (hd : okW ds) (hdl : (ds.length : Int) ≤ 100) :
    Calls Tryd.prog 11 #[.string m, .string x, .slice (some ⟨gd, od, none⟩) ds.length dc] w fun e w' => e = .returned (.tuple #[.string (powT m x (natW ds)), .int .i64 (powE m x)]) ∧ Below w.heap.size w w' := by
  have N1 := hide (fun w => isModulus_any m w)
  have HD := hide hD
  have Hd := hide hd
  clear hD hd
  cases hm : isModB m with
  | false =>
    have e1 : powE m x = 1 := by unfold powE; rw [hm]; rfl
    have e2 : powT m x (natW ds) = ⟨#[]⟩ := by unfold powT; rw [e1]; rfl
    rw [e1, e2]
    rw [hm] at N1
    clear e1 e2 hm HD Hd
    go_enter Tryd.func11, Tryd.ntmps11
    go_wp2_with (go_at_call 18; refine (unhide N1 _).mono ?_; rintro e w2 ⟨rfl, rfl⟩)
    all_goals
      go_ret2
      exact ⟨rfl, Below.refl _ _⟩
  | true =>
    rw [hm] at N1
    by_cases hs : x.size = m.size
    · by_cases hv : valN m.data.toList ≤ valN x.data.toList
      · have e1 : powE m x = 3 := by unfold powE; rw [hm, hs]; simp [hv]
        have e2 : powT m x (natW ds) = ⟨#[]⟩ := by unfold powT; rw [e1]; rfl
        rw [e1, e2]
        have q1 : Op.bytesLess x.toList m.toList = false := by rw [less_text x m hs, decide_eq_false_iff_not]; omega
        have q2 := binOp_string_geqK 9 x m
        rw [q1] at q2
        have k1 : ((x.size : Int) != (m.size : Int)) = false := by simp [hs]
        clear e1 e2 hm HD Hd hs hv
        go_enter Tryd.func11, Tryd.ntmps11
        go_wp2_with (go_at_call 18; refine (unhide N1 _).mono ?_; rintro e w2 ⟨rfl, rfl⟩)
        all_goals
          go_ret2
          exact ⟨rfl, Below.refl _ _⟩
      · have e1 : powE m x = 0 := by unfold powE; rw [hm, hs]; simp [hv]
        have e2 : powT m x (natW ds) = strOfNums (bigL (valN x.data.toList ^ natW ds % valN m.data.toList) m.size) := by unfold powT; rw [if_pos e1]
        rw [e1, e2]
        have q1 : Op.bytesLess x.toList m.toList = true := by rw [less_text x m hs, decide_eq_true_eq]; omega
        have q2 := binOp_string_geqK 9 x m
        rw [q1] at q2
        have k1 : ((x.size : Int) != (m.size : Int)) = false := by simp [hs]
        have hM := isMod_of hm
        have hml := hM.low
        have hmh := hM.high
        obtain ⟨n, hn⟩ : ∃ n, n = (m.size + 7) / 8 := ⟨_, rfl⟩
        have NA := hide (fun w => newModular_n hM hn w)
        have NR := hide (fun w => read_n (x := x) (n := n) (by rw [hs]; exact hn) (by omega) w)
        have HV := hide (show valN x.data.toList < valN m.data.toList by omega)
        have HN := hide (show m.size ≤ 8 * n by omega)
        have hmi : (m.size : Int) ≤ 1000 := by omega
        clear e1 e2 hm hs hv hM hml hmh hn
        go_enter Tryd.func11, Tryd.ntmps11
        go_wp2_with (go_at_call 18; refine (unhide N1 _).mono ?_; rintro e w2 ⟨rfl, rfl⟩)
        refine (unhide NA _).mono ?_
        rintro e y1 ⟨gm, ms, inv, m0, gs, os, sc, sq, rfl, a1, a2, a3, a4, a5⟩
        have A1 := hide a1; have A2 := hide a2; have A3 := hide a3; have A4 := hide a4; have A5 := hide a5
        clear a1 a2 a3 a4 a5 NA
        go_wp2_with fail
        refine (unhide NR _).mono ?_
        rintro e y2 ⟨gx, xs, rfl, b1, b2, b3, b4, b5⟩
        have P := hide (power_any (unhide A3) xs ds gx 0 n gd od dc gm 0 n gs os sc _ b1 (((unhide HD).below (unhide A5)).below b5) ((unhide A1).below b5) ((unhide A2).below b5) b3 (unhide Hd) b2 hdl (by rw [b4, unhide A4]; exact unhide HV))
        have B4 := hide b4; have B5 := hide ((unhide A5).trans (b5.mono (unhide A5).size))
        clear b1 b2 b3 b4 b5 NR
        go_wp2_with fail
        refine (unhide P).mono ?_
        rintro e y3 ⟨zg, zo, zc, zs, rfl, c1, c2, c3, c4, c5⟩
        have T := hide (text_n c2 zg zo zc m.size _ c1 c3 (unhide HN) hmi)
        rw [c4, unhide B4, unhide A4] at T
        have C5 := hide ((unhide B5).trans (c5.mono (unhide B5).size))
        clear c1 c2 c3 c4 c5 P
        go_wp2_with fail
        refine (unhide T).mono ?_
        rintro e y4 ⟨rfl, d1⟩
        go_wp2
        go_ret2
        exact ⟨rfl, (unhide C5).trans (d1.mono (unhide C5).size)⟩
    · have e1 : powE m x = 1 := by unfold powE; simp [hs]
      have e2 : powT m x (natW ds) = ⟨#[]⟩ := by unfold powT; rw [e1]; rfl
      rw [e1, e2]
      have k1 : ((x.size : Int) != (m.size : Int)) = true := by simp; omega
      clear e1 e2 hm HD Hd hs
      go_enter Tryd.func11, Tryd.ntmps11
      go_wp2_with (go_at_call 18; refine (unhide N1 _).mono ?_; rintro e w2 ⟨rfl, rfl⟩)
      all_goals
        go_ret2
        exact ⟨rfl, Below.refl _ _⟩
end Go.Proofs.YtjipcmmaemokhaaDoor
namespace Go.Proofs.YtjipcmmaemokhaaDoor
open Go.RowKit Go.Shelf
set_option linter.unusedVariables false

set_option maxHeartbeats 1000000 in
set_option maxRecDepth 100000 in
theorem raise_any (m x : ByteArray) (w : World) :
    Calls Tryd.prog 7 #[.string m, .string x] w fun e w' => e = .returned (.tuple #[.string (powT m x 3), .int .i64 (powE m x)]) ∧ Below w.heap.size w w' := by
  go_enter Tryd.func7, Tryd.ntmps7
  go_wp2_with fail
  have hU : URow (w.alloc (.cells #[.int .u64 3] 40)) w.heap.size [3] := heap_alloc_new w _
  have hbel : Below w.heap.size w (w.alloc (.cells #[.int .u64 3] 40)) := (Below.refl _ _).alloc (Nat.le_refl _) _
  have P := cpower_any m x [3] w.heap.size 0 1 (w.alloc (.cells #[.int .u64 3] 40)) (hU.numAt 0) (fun y hy => by rw [List.mem_singleton.1 hy]; decide) (by simp)
  rw [show natW [3] = 3 from rfl] at P
  refine P.mono ?_
  rintro e w' ⟨rfl, hb⟩
  go_wp2
  go_ret2
  exact ⟨rfl, hbel.trans (hb.mono hbel.size)⟩
end Go.Proofs.YtjipcmmaemokhaaDoor
