/- The law on rows of fields: its walk. -/
import Derived.Test.YthamjfgiklbifabRParseF
namespace Go.Proofs.Ythamjfgiklbifab
open Go.RowKit
set_option linter.unusedVariables false

theorem cellsF_get : ∀ (fs : List (Int × Int)) (i : Nat), i < fs.length → (cellsF fs)[i * 2]? = some (.int .i64 (fs.getD i (0, 0)).1) ∧ (cellsF fs)[i * 2 + 1]? = some (.int .i64 (fs.getD i (0, 0)).2)
  | [], i, h => by simp at h
  | f :: r, 0, _ => by simp [cellsF]
  | f :: r, i + 1, h => by
    have := cellsF_get r i (by simpa using h)
    have e : cellsF (f :: r) = .int .i64 f.1 :: .int .i64 f.2 :: cellsF r := by simp [cellsF]
    rw [e, show (i + 1) * 2 = i * 2 + 1 + 1 by omega]
    simpa using this

theorem frow_of_owns {w : World} {base : Nat} {v : Value} {fs : List (Int × Int)} {e : TypeId} (h : w.ownsRow base e 2 v fs.length (cellsF fs)) : ∃ ao cap, v = .slice ao fs.length cap ∧ FRow w ao fs := by
  rcases h.2 with ⟨h1, h2⟩ | ⟨g, cap, cur, h1, h2, h3, h4, h5, h6, h7⟩
  · exact ⟨none, 0, by rw [h1, h2], .inl (List.length_eq_zero_iff.1 h2)⟩
  · refine ⟨_, cap, h1, .inr ⟨g, 0, rfl, (h.lt g (by rw [h1]; rfl)).2, fun i hi => ?_⟩⟩
    have hc := cellsF_get fs i hi
    have hk := h.cells (g := g) (by rw [h1]; rfl)
    have ea : ∀ k, (⟨g, 0, none⟩ : Addr).add k = ⟨g, 0 + k, none⟩ := fun k => by unfold Addr.add; split <;> simp_all
    have k1 := hk _ _ hc.1
    have k2 := hk _ _ hc.2
    rw [ea] at k1 k2
    exact ⟨k1, k2⟩

theorem parseL_len : ∀ (n : Nat) (l : List UInt8) (fs : List (Int × Int)), parseL n l = some fs → fs.length ≤ n
  | 0, l, fs, h => by
    unfold parseL at h
    split at h
    · cases h; simp
    · cases h
  | n + 1, l, fs, h => by
    unfold parseL at h
    split at h
    · cases h; simp
    · split at h
      · cases h
      · rename_i f r _
        cases hq : parseL n r with
        | none => rw [hq] at h; cases h
        | some gs =>
          rw [hq] at h
          cases h
          have := parseL_len n r gs hq
          simpa using this
theorem parsed_len (l : List UInt8) : (parsed l).length ≤ 100 := by
  unfold parsed
  cases h : parseL 100 l with
  | none => simp
  | some fs => exact parseL_len 100 l fs h
theorem printS_size (fs : List (Int × Int)) : (printS fs).size ≤ maxLen := by
  unfold printS
  split
  · rename_i h
    have h1 := fieldsE_zero h
    have h2 := textL_length fs
    rw [strOfNums_size]
    unfold maxLen
    omega
  · exact Nat.zero_le _
theorem sameF_self (fs : List (Int × Int)) (ao bo : Option Addr) (c d : Nat) (w : World) (hf : FRow w ao fs) (hg : FRow w bo fs) (hl : (fs.length : Int) ≤ 9000000000000) :
    Calls Try.prog 19 #[.slice ao fs.length c, .slice bo fs.length d] w fun e w' => e = .returned (.bool true) ∧ Below w.heap.size w w' := by
  have := sameF_any fs fs ao bo c d w hf hg hl hl
  rw [decide_eq_true (rfl : fs = fs)] at this
  exact this

set_option maxHeartbeats 4000000 in
theorem walkTagFields (fs : List (Int × Int)) (ao : Option Addr) (cap : Nat) (s : ByteArray) (w : World) (hr : FRow w ao fs) (hn : FNums fs) (hl : (fs.length : Int) ≤ 9000000000000) (hs : s.size ≤ maxLen) :
    Calls Try.prog 6 #[.slice ao fs.length cap, .string s] w fun e w' => e = .returned (.bool true) ∧ Below w.heap.size w w' := by
  have n1 := fun (w2 : World) (h : Below w.heap.size w w2) => printF_all fs ao cap w2 (hr.below h) hn hl
  have n2 := fun (w2 : World) (h : Below w.heap.size w w2) => rprintF_all fs ao cap w2 (hr.below h) hn hl
  have n3 := fun w => parseF_any s w hs
  have n4 := fun w => rparseF_any s w hs
  have n5 := fun w => parseF_any (printS fs) w (printS_size fs)
  have hlp := parsed_len s.data.toList
  have hfin : ((printS fs).toList.isEmpty = true ∧ 0 < fs.length) ∨ (parseE (printS fs).data.toList = 0 ∧ parsed (printS fs).data.toList = fs) := by
    by_cases he : fieldsE fs = 0
    · have := round_text fs he
      exact .inr ⟨parseE_some this, parsed_some this⟩
    · have := print_empty fs he
      exact .inl ⟨by rw [this.1, Lib.toList_data]; rfl, this.2⟩
  generalize parsed (printS fs).data.toList = ps at *
  generalize parseE (printS fs).data.toList = pe at *
  generalize printS fs = t at *
  generalize fieldsE fs = er at *
  generalize parsed s.data.toList = qs at *
  generalize parseE s.data.toList = qe at *
  have N1 := hide n1; have N2 := hide n2; have N3 := hide n3; have N4 := hide n4; have N5 := hide n5; have HF := hide hfin
  clear n1 n2 n3 n4 n5 hfin
  go_enter Try.func6, Try.ntmps6
  go_wp2_with fail
  refine (unhide N1 _ (Below.refl _ _)).mono ?_
  rintro e x1 ⟨rfl, b1⟩
  go_wp2_with fail
  refine (unhide N2 _ b1).mono ?_
  rintro e x2 ⟨rfl, b2'⟩
  have b2 := below_more b1 b1.size b2'
  clear b1 b2'
  go_wp2_with fail
  refine (unhide N3 _).mono ?_
  rintro e x3 ⟨mv, rfl, hm, b3'⟩
  have b3 := below_more b2 b2.size b3'
  obtain ⟨mo, mc, rfl, hmf⟩ := frow_of_owns hm
  clear hm b2 b3'
  go_wp2_with fail
  refine (unhide N4 _).mono ?_
  rintro e x4 ⟨nv, rfl, hk, b4'⟩
  have b4 := below_more b3 b3.size b4'
  obtain ⟨no, nc, rfl, hnf⟩ := frow_of_owns hk
  have hmf4 := hmf.below b4'
  have N6 := hide (fun (w2 : World) (h : Below x4.heap.size x4 w2) => sameF_self qs mo no mc nc w2 (hmf4.below h) (hnf.below h) (by omega))
  clear hk b3 b4' hmf hmf4 hnf
  go_wp2_with fail
  refine (unhide N6 _ (Below.refl _ _)).mono ?_
  rintro e x5 ⟨rfl, b5'⟩
  have b5 := below_more b4 b4.size b5'
  clear N6 b4 b5'
  go_wp2_with fail
  refine (unhide N5 _).mono ?_
  rintro e x6 ⟨pv, rfl, hp, b6'⟩
  have b6 := below_more b5 b5.size b6'
  obtain ⟨po, pc, rfl, hpf⟩ := frow_of_owns hp
  clear hp b5 b6'
  rcases unhide HF with ⟨g1, g2⟩ | ⟨g1, g2⟩
  · have t1 : decide (0 < (fs.length : Int)) = true := by simp; omega
    have t2 : decide (0 < fs.length) = true := by simp; omega
    go_wp2
    go_ret
    exact ⟨rfl, b6⟩
  · subst g1
    subst g2
    have hrf := hr.below b6
    have N6 := hide (fun (w2 : World) (h : Below x6.heap.size x6 w2) => sameF_self ps po ao pc cap w2 (hpf.below h) (hrf.below h) hl)
    go_wp2_with (go_at_call 19; refine (unhide N6 _ (Below.refl _ _)).mono ?_; rintro e x7 ⟨rfl, b7⟩)
    all_goals
      go_ret
      first
        | exact ⟨rfl, below_more b6 b6.size b7⟩
        | exact ⟨rfl, b6⟩
end Go.Proofs.Ythamjfgiklbifab
