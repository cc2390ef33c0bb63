/- The maps of the law: keys, elements. -/
import Derived.Test.YtdameincehiieaaMapH
import Derived.Test.YtdameincehiieaaClrI
import Derived.Test.YtdameincehiieaaClrG
namespace Go.Proofs.Ytdameincehiieaa
open Go.RowKit Go.WideMaps Go.Maps
set_option linter.unusedVariables false
set_option linter.unusedSimpArgs false
set_option maxRecDepth 100000

noncomputable def Rdr.of {α : Type} (val : α → Value) (dat : α → DataW Unit) (hv : ∀ x y, val x = val y → x = y) (hd : ∀ x y, dat x = dat y → x = y) : Rdr α where
  val := val
  dat := dat
  r := fun v => by
    classical
    exact if h : ∃ x, v = val x then some (dat h.choose, []) else none
  rd := fun x => by
    have h : ∃ y, val x = val y := ⟨x, rfl⟩
    rw [dif_pos h]
    rw [← hv _ _ h.choose_spec]
  shape := fun v y h => by
    by_cases hx : ∃ x, v = val x
    · rw [dif_pos hx] at h
      exact ⟨hx.choose, hx.choose_spec, (Option.some.inj h).symm⟩
    · rw [dif_neg hx] at h; cases h
  inj := hd
noncomputable def rdI : Rdr Int := Rdr.of (fun n => .int .i64 n) (fun n => .lit (.int .i64 n)) (fun x y h => by injection h) (fun x y h => by injection h with h; injection h)
noncomputable def rdC : Rdr Cse := Rdr.of caseV (fun c => .agg [.lit (.int .i64 c.st), .lit (.int .i64 c.since), .lit (.int .i64 c.disp), .lit (.int .i64 c.paid)])
  (fun x y h => by obtain ⟨⟩ := x; obtain ⟨⟩ := y; simpa [caseV] using h) (fun x y h => by obtain ⟨⟩ := x; obtain ⟨⟩ := y; simpa using h)
noncomputable def rdP : Rdr Pst := Rdr.of pstV (fun p => .agg [.lit (.int .i64 p.frm), .lit (.int .i64 p.to), .lit (.int .i64 p.shop), .lit (.int .i64 p.trace), .lit (.int .i64 p.amt), .lit (.int .i64 p.day)])
  (fun x y h => by obtain ⟨⟩ := x; obtain ⟨⟩ := y; simpa [pstV] using h) (fun x y h => by obtain ⟨⟩ := x; obtain ⟨⟩ := y; simpa using h)
theorem rdI_val (n : Int) : rdI.val n = .int .i64 n := rfl
theorem rdC_val (c : Cse) : rdC.val c = caseV c := rfl
theorem rdP_val (p : Pst) : rdP.val p = pstV p := rfl
theorem kKeyK : KeyLaw Try.prog 60 := deep_law_laid laidOutQ (m := 2) (by omega) (of_decide_eq_true (by kernel_rfl)) (by kernel_rfl) (by kernel_rfl)
theorem kKeyA : KeyLaw Try.prog 61 := deep_law_laid laidOutQ (m := 2) (by omega) (of_decide_eq_true (by kernel_rfl)) (by kernel_rfl) (by kernel_rfl)
theorem keyK : KeyT 60 := ⟨kKeyK, fun a b ha hb =>
  keyTwo Try.underlying60 rfl rfl rfl rfl (by decide) (by decide) Try.underlying3 (by kernel_rfl) cellsIntQ (by kernel_rfl) typesQ a b (wf_i64 a ha.1 ha.2) (wf_i64 b hb.1 hb.2)⟩
theorem keyArr {P : Program} {k ti : TypeId} (hk : P.underlying k = some (.array 2 ti))
    (hi : P.underlying ti = some (.int .i64)) (hc : P.cellsOf k = 2) (hci : P.cellsOf ti = 1) (hkt : P.keyType k = true) (hd : ∃ d, P.types.size + 1 = d + 1 + 1) (a b : Int) (w1 : (Lit.int .i64 a).wf = true) (w2 : (Lit.int .i64 b).wf = true) :
    ∃ l, keyOf P k (twoV a b) = some l := by
  obtain ⟨d, hd⟩ := hd
  have hd' : P.types.size = d + 1 := by omega
  refine ⟨.string (keyBytes [.int .i64 a, .int .i64 b]), ?_⟩
  simp [keyOf, hk, hkt, Value.formed, twoV, hc, hd', Program.keyLits, Value.cells, List.range, List.range.loop, hi, hci, w1, w2]
theorem keyA : KeyT 61 := ⟨kKeyA, fun a b ha hb =>
  keyArr Try.underlying61 Try.underlying3 (by kernel_rfl) cellsIntQ (by kernel_rfl) typesQ a b (wf_i64 a ha.1 ha.2) (wf_i64 b hb.1 hb.2)⟩
theorem zeroI (u : World) : (zeroValue 3).run Try.prog u = .ok (rdI.val 0) u := zeroIM u
/-- m[k] += z, in whatever order -/
theorem up_tail {K MT : TypeId} (hK : KeyT K) (ht : Try.prog.underlying MT = some (.map K 3)) (m : Nat) (g : Int → Int → Option Int) (ks : List (Int × Int)) (x y z : Int) (W : World) (hM : GMap rdI K W m g ks) (hk : ks.length < maxLen) (h1 : InR x) (h2 : InR y) :
    ∃ (v0 : Value) (st : Nat) (o1 o2 : Obj), (Instr.lookup MT (.map (some m)) (.agg #[.int .i64 x, .int .i64 y]) false).run Try.prog W.drew = .ok (.int .i64 ((g x y).getD 0)) W.drew ∧
      (Instr.mapEntry MT (.map (some m)) (.agg #[.int .i64 x, .int .i64 y])).run Try.prog W.drew = .ok (.tuple #[v0, .int .i64 st]) (ChangeMaps.setBlock W.drew m o1) ∧
      (Instr.lookup MT (.map (some m)) (.agg #[.int .i64 x, .int .i64 y]) false).run Try.prog (ChangeMaps.setBlock W.drew m o1) = .ok (.int .i64 ((g x y).getD 0)) (ChangeMaps.setBlock W.drew m o1) ∧
      (Instr.entryStore MT (.map (some m)) (.int .i64 st) (.int .i64 z)).run Try.prog (ChangeMaps.setBlock W.drew m o1) = .ok () (ChangeMaps.setBlock (ChangeMaps.setBlock W.drew m o1) m o2) ∧
      GMap rdI K (ChangeMaps.setBlock (ChangeMaps.setBlock W.drew m o1) m o2) m (upd2 g x y (some z)) (addK ks (x, y)) ∧ Chg (fun i => i = m) W (ChangeMaps.setBlock (ChangeMaps.setBlock W.drew m o1) m o2) := by
  have hM1 := hM.of_block (w' := W.drew) rfl
  have hl := hM1.look hK ht zeroI x y h1 h2
  obtain ⟨v0, st, o1, hE, hS⟩ := hM1.entry hK ht zeroI hk x y h1 h2
  obtain ⟨o2, hS1, hS2⟩ := hS (ChangeMaps.setBlock W.drew m o1) z (setAt W.drew m o1 hM.lt)
  obtain ⟨g', ks', hM2, he⟩ := hM1.entered hK ht zeroI hk x y h1 h2 hE
  have hl2 := hM2.look hK ht zeroI x y h1 h2
  rw [he x y] at hl2
  exact ⟨v0, st, o1, o2, hl, hE, hl2, hS1, hS2, (((Chg.refl _ W).drew.trans (Chg.setBlock _ m o1) (fun x h => .inl h)).trans (Chg.setBlock _ m o2) (fun x h => .inl h))⟩
end Go.Proofs.Ytdameincehiieaa
