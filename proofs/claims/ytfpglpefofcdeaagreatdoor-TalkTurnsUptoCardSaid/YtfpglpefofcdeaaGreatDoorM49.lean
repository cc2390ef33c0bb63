/- An answer read, by the program: ReadAnswer. -/
import Derived.Test.YtfpglpefofcdeaaGreatDoorM48
import Derived.Test.YtfpglpefofcdeaaGreatDoorM42
import Derived.Test.YtfpglpefofcdeaaGreatDoorM13
import Derived.Test.YtfpglpefofcdeaaGreatDoorM03
import Derived.Deep.DeepCutAuto
namespace Go.Proofs.YtfpglpefofcdeaaGreatDoor
open Go.RowKit
set_option linter.unusedVariables false
set_option linter.unusedSimpArgs false
set_option maxRecDepth 100000

theorem results_cell_tmpT {P : Program} {fn : Func} {p q : Tmp} {ty : TypeId} (h : fn.results = #[.cell p ty, .tmp q]) (tmps : Array Value) (w : World) (g : Nat) (t : TypeId) (cs : Array Value) (fr : Nat × Nat) (d : TypeDesc) (v : Value)
    (hp : tmps.getD p undef = .pointer (some ⟨g, 0, none⟩)) (hq : tmps.getD q undef = v) (hg : w.heap[g]? = some (.cells cs t fr))
    (hu : P.underlying ty = some d) (hd : (match d with | .struct _ | .array _ _ => true | _ => false) = true) (hi : (P.info? ty).map (·.size) = some cs.size) :
    (results fn tmps).run P w = .ok (.tuple #[.agg cs, v]) w := by
  have hp' : tmps[p]?.getD undef = .pointer (some ⟨g, 0, none⟩) := by simpa using hp
  have hq' : tmps[q]?.getD undef = v := by simpa using hq
  simp [results, h, hp', hq', asAddr, run_loadVar_row w g t ty cs fr d hg hu hd hi]
theorem anOK_setT {w : World} {g : Nat} {cs old : Array Value} {t : TypeId} {fr : Nat × Nat} {a : An} (h : AnOK w a) (hg : w.heap[g]? = some (.cells old t fr)) (hn : NoB old) (hb : ∀ p, a.fl.ro = some p → g < p.block) : AnOK (w.setRow g cs) a :=
  ⟨rowApp_setT h.apps hg hn, flOK_setT h.fl hg hn hb, h.er, h.dO, h.count, h.last, h.left, h.kind, h.rcount⟩
/-- an answer's cells, as a list -/
theorem anC_size (a : An) : (anC a).size = 24 := rfl
theorem anC_one (a : An) : (anC a).all (·.oneCell') = true := by simp [anC, Value.oneCell']
theorem readW_no {s : ByteArray} (h : readW s = false) : readWL s = anNil ∧ readWE s = 1 := by unfold readWL readWE; rw [h]; exact ⟨rfl, rfl⟩
theorem readW_yes {s : ByteArray} (h : readW s = true) : readWL s = anP (parsesL s) ∧ readWE s = 0 := by unfold readWL readWE; rw [h]; exact ⟨rfl, rfl⟩
def anZ24 : Array Value := #[.int .i64 0, .int .i64 0, .slice none 0 0, .int .i64 0, .int .i64 0, .int .i64 0, .string ⟨#[]⟩, .slice none 0 0, .string ⟨#[]⟩, .string ⟨#[]⟩, .string ⟨#[]⟩, .string ⟨#[]⟩, .int .i64 0, .int .i64 0, .slice none 0 0, .int .i64 0, .int .i64 0, .int .i64 0, .slice none 0 0, .int .i64 0, .int .i64 0, .string ⟨#[]⟩, .string ⟨#[]⟩, .string ⟨#[]⟩]
theorem anZ24_nob : NoB anZ24 := noB_of rfl
theorem retA {a b : Array Value} {x y : Int} (h1 : a = b) (h2 : x = y) : Ending.returned (.tuple #[.agg a, .int .i64 x]) = .returned (.tuple #[.agg b, .int .i64 y]) := by rw [h1, h2]
set_option maxHeartbeats 4000000 in
theorem readAnswer_bad (s : ByteArray) (w : World) (hs : s.size ≤ maxLen) (he : parsesE s ≠ 0) :
    Calls Tryz.prog 7 #[.string s] w fun e w' => e = .returned (.tuple #[.agg (anC anNil), .int .i64 1]) ∧ Below w.heap.size w w' := by
  obtain ⟨W1, hW1⟩ : ∃ W1, W1 = w.alloc (.cells anZ24 37) := ⟨_, rfl⟩
  have hB1 : Below w.heap.size w W1 := by rw [hW1]; exact (Below.refl _ _).alloc (Nat.le_refl _) _
  have hX1 : W1.heap[w.heap.size]? = some (.cells anZ24 37 (0, 0)) := by rw [hW1]; exact heap_alloc_new _ _
  have n1 := parse_any s W1 hs
  have t1 : (parsesE s != 0) = true := by simpa using he
  generalize parsesE s = pe at *
  generalize parsesL s = pl at *
  have N1 := hide n1; have HB1 := hide hB1; have HX1 := hide hX1; have HW1 := hide hW1
  clear n1 he hs hB1 hX1 hW1
  unfold anZ24 at HW1
  go_enter Tryz.func7, Tryz.ntmps7
  go_upto_region 1 with fail
  rw [← unhide HW1]
  go_wp2_with fail
  refine (unhide N1).mono ?_
  rintro e w1 ⟨ao, cap, rfl, _, _, hb1⟩
  have HX2 := hide ((hb1.block _ (block_ltQ (unhide HX1))).trans (unhide HX1))
  have HB2 := hide ((unhide HB1).trans (hb1.mono (unhide HB1).size))
  clear hb1 HX1 HB1 N1 HW1
  go_wp2_with (refine wpList_store_row rfl _ _ _ rfl w.heap.size (anC anNil) rfl rfl _ _ (unhide HX2) infoAn rfl (anC_one _) ?_)
  refine bodyPost_ret (v := .tuple #[.agg (anC anNil), .int .i64 1]) (results_cell_tmpT rfl _ _ w.heap.size 37 (anC anNil) (0, 0) _ _ rfl rfl (setRow_heap _ _ _ _ _ _ (unhide HX2)) Tryz.underlying37 rfl infoAn) rfl ⟨rfl, setRow_belowT (unhide HB2) (Nat.le_refl _)⟩
set_option maxHeartbeats 4000000 in
theorem readAnswer_ok (s : ByteArray) (w : World) (hs : s.size ≤ maxLen) (he : parsesE s = 0) :
    Calls Tryz.prog 7 #[.string s] w fun e w' => (∃ a, e = .returned (.tuple #[.agg (anC a), .int .i64 (readWE s)]) ∧ AnOK w' a ∧ a.strip = readWL s) ∧ Below w.heap.size w w' := by
  have hwt := parses_wt s
  have hz := anP_z (parsesL s) hwt
  obtain ⟨W1, hW1⟩ : ∃ W1, W1 = w.alloc (.cells anZ24 37) := ⟨_, rfl⟩
  have hB1 : Below w.heap.size w W1 := by rw [hW1]; exact (Below.refl _ _).alloc (Nat.le_refl _) _
  have hX1 : W1.heap[w.heap.size]? = some (.cells anZ24 37 (0, 0)) := by rw [hW1]; exact heap_alloc_new _ _
  have n1 := parse_any s W1 hs
  rw [he] at n1
  have N1 := hide n1
  have N2 := hide (fun ao cap W (hr : IRow W 8 ao (parsesL s)) => answerOf_any (parsesL s) ao cap W hr hwt)
  have HRW : Hid (readW s = decide (answerE (anP (parsesL s)) = 0 ∧ answerS (anP (parsesL s)) = s)) := hide (by unfold readW; rw [he]; simp)
  have HNO := hide (@readW_no s); have HYES := hide (@readW_yes s)
  have HZ := hide hz
  generalize anP (parsesL s) = A at *
  generalize readWL s = RL at *
  generalize readWE s = RE at *
  generalize readW s = rw1 at *
  generalize parsesL s = pl at *
  have HB1 := hide hB1; have HX1 := hide hX1; have HW1 := hide hW1
  clear n1 he hs hB1 hX1 hW1 hwt hz
  unfold anZ24 at HW1
  go_enter Tryz.func7, Tryz.ntmps7
  go_upto_region 1 with fail
  rw [← unhide HW1]
  go_wp2_with fail
  refine (unhide N1).mono ?_
  rintro e w1 ⟨ao, cap, rfl, _, hrow, hb1⟩
  have HX2 := hide ((hb1.block _ (block_ltQ (unhide HX1))).trans (unhide HX1))
  have HB2 := hide ((unhide HB1).trans (hb1.mono (unhide HB1).size))
  have HROW := hide (IRowA.row 8 hrow)
  clear hb1 HX1 HB1 N1 HW1 hrow
  go_wp2_with fail
  refine (unhide N2 _ _ _ (unhide HROW)).mono ?_
  rintro e w2 ⟨⟨a, rfl, haok, has, haro⟩, hb2⟩
  have x2 := (hb2.block _ (block_ltQ (unhide HX2))).trans (unhide HX2)
  have hl2 := block_ltQ x2
  obtain ⟨W4, hW4⟩ : ∃ W4, W4 = (w2.alloc (.cells anZ24 37)).setRow w2.heap.size (anC a) := ⟨_, rfl⟩
  have hz4 : (w2.alloc (.cells anZ24 37)).heap[w2.heap.size]? = some (.cells anZ24 37 (0, 0)) := heap_alloc_new _ _
  have hX4 : W4.heap[w2.heap.size]? = some (.cells (anC a) 37 (0, 0)) := by rw [hW4, setRow_heap _ _ _ _ _ _ hz4]
  have hB4 : Below w2.heap.size w2 W4 := by rw [hW4]; exact setRow_belowT ((Below.refl _ _).alloc (Nat.le_refl _) _) (Nat.le_refl _)
  have hok4 := haok.below hB4
  have n3 := answer_any a W4 hok4 (by rw [anZ_like has]; exact unhide HZ)
  have HAE := hide (show answerE a = answerE A from answerE_like has)
  have HAS := hide (show answerS a = answerS A from answerS_like has)
  have HRO : Hid (∀ p, a.fl.ro = some p → w.heap.size < p.block) := hide (fun p hp => by
    have h1 := haro p hp; have h2 := block_ltQ (unhide HX2); omega)
  have N3 := hide n3; have HX4 := hide hX4; have HB4 := hide hB4; have HOK := hide hok4; have HAST := hide has; have HW4 := hide hW4; have HZ4 := hide hz4
  have HK2 := hide hb2
  generalize answerE a = ae at *
  generalize answerS a = aS at *
  have HL24 := hide (anC_one a); have HLS := hide (anC_size a)
  have HAC : Hid (∀ e : Array Value, e = anC a → e = anC a) := hide (fun _ h => h)
  obtain ⟨L, hL⟩ : ∃ L, L = (anC a).toList := ⟨_, rfl⟩
  have hL2 : anC a = L.toArray := by rw [hL]
  have HL2 := hide hL2
  rw [hL2] at N3 HX4 HW4 HL24 HLS
  rw [hL2]
  clear hl2 x2 hb2 haok has haro hW4 hz4 hX4 hB4 hok4 n3 hL hL2 N2 HROW HAC
  unfold anZ24 at HW4 HZ4
  go_upto_region 5 with (refine wpList_store_row rfl _ _ _ rfl w2.heap.size L.toArray rfl rfl _ _ (unhide HZ4) (by rw [unhide HLS]; exact infoAn) (by rw [unhide HLS]; rfl) (unhide HL24) ?_)
  rw [← unhide HW4]
  go_wp2_with (first | refine wpList_load_mid rfl _ _ rfl w2.heap.size 0 rfl L _ (range_rowT (unhide HX4)) Tryz.underlying37 rfl (by rw [show L.length = L.toArray.size by simp, unhide HLS]; exact infoAn) ?_ | fail)
  refine (unhide N3).mono ?_
  rintro e w5 ⟨rfl, hb5⟩
  have b25 : Below w2.heap.size w2 w5 := (unhide HB4).trans (hb5.mono (unhide HB4).size)
  have b15 : Below w1.heap.size w1 w5 := (unhide HK2).trans (b25.mono (unhide HK2).size)
  have HX5 := hide ((b15.block _ (block_ltQ (unhide HX2))).trans (unhide HX2))
  have HA5 := hide ((hb5.block _ (block_ltQ (unhide HX4))).trans (unhide HX4))
  have HB5 := hide ((unhide HB2).trans (b15.mono (unhide HB2).size))
  have HOK5 := hide ((unhide HOK).below hb5)
  clear hb5 b25 b15 HX2 HX4 HB2 HB4 HK2 HOK N3 HZ4 HW4
  have hno : rw1 = false → RL = anNil ∧ RE = 1 := unhide HNO
  by_cases hae : ae = 0
  case neg =>
    have t1 : (ae != 0) = true := by simpa using hae
    have h0 : rw1 = false := by rw [unhide HRW]; apply decide_eq_false; rw [← unhide HAE]; exact fun h => hae h.1
    obtain ⟨hRL, hRE⟩ := hno h0
    have HNO2 := hide hRL; have HNE := hide hRE
    clear hno h0 hRL hRE hae
    go_wp2_with (refine wpList_store_row rfl _ _ _ rfl w.heap.size (anC anNil) rfl rfl _ _ (unhide HX5) infoAn rfl (anC_one _) ?_)
    refine bodyPost_ret (v := .tuple #[.agg (anC anNil), .int .i64 1]) (results_cell_tmpT rfl _ _ w.heap.size 37 (anC anNil) (0, 0) _ _ rfl rfl (setRow_heap _ _ _ _ _ _ (unhide HX5)) Tryz.underlying37 rfl infoAn) rfl ⟨⟨anNil, retA rfl (unhide HNE).symm, anNil_ok _, (unhide HNO2).symm⟩, setRow_belowT (unhide HB5) (Nat.le_refl _)⟩
  by_cases hse : aS = s
  case neg =>
    have t1 : (ae != 0) = false := by simpa using hae
    have t2 : (aS.toList == s.toList) = false := toList_neQ hse
    have h0 : rw1 = false := by rw [unhide HRW]; apply decide_eq_false; rw [← unhide HAS]; exact fun h => hse h.2
    obtain ⟨hRL, hRE⟩ := hno h0
    have HNO2 := hide hRL; have HNE := hide hRE
    clear hno h0 hRL hRE hse hae
    go_wp2_with (refine wpList_store_row rfl _ _ _ rfl w.heap.size (anC anNil) rfl rfl _ _ (unhide HX5) infoAn rfl (anC_one _) ?_)
    refine bodyPost_ret (v := .tuple #[.agg (anC anNil), .int .i64 1]) (results_cell_tmpT rfl _ _ w.heap.size 37 (anC anNil) (0, 0) _ _ rfl rfl (setRow_heap _ _ _ _ _ _ (unhide HX5)) Tryz.underlying37 rfl infoAn) rfl ⟨⟨anNil, retA rfl (unhide HNE).symm, anNil_ok _, (unhide HNO2).symm⟩, setRow_belowT (unhide HB5) (Nat.le_refl _)⟩
  have t1 : (ae != 0) = false := by simpa using hae
  have t2 : (aS.toList == s.toList) = true := by rw [hse]; simp
  have h0 : rw1 = true := by rw [unhide HRW]; apply decide_eq_true; rw [← unhide HAE, ← unhide HAS]; exact ⟨hae, hse⟩
  have hyes : rw1 = true → RL = A ∧ RE = 0 := unhide HYES
  obtain ⟨hRL, hRE⟩ := hyes h0
  have HYL := hide hRL; have HYE := hide hRE
  clear hno hyes h0 hRL hRE hse hae
  go_wp2_with (first
    | refine wpList_load_mid rfl _ _ rfl w2.heap.size 0 rfl L _ (range_rowT (unhide HA5)) Tryz.underlying37 rfl (by rw [show L.length = L.toArray.size by simp, unhide HLS]; exact infoAn) ?_
    | refine wpList_store_row rfl _ _ _ rfl w.heap.size L.toArray rfl rfl _ _ (unhide HX5) (by rw [unhide HLS]; exact infoAn) (by rw [unhide HLS]; rfl) (unhide HL24) ?_)
  refine bodyPost_ret (v := .tuple #[.agg L.toArray, .int .i64 0]) (results_cell_tmpT rfl _ _ w.heap.size 37 L.toArray (0, 0) _ _ rfl rfl (setRow_heap _ _ _ _ _ _ (unhide HX5)) Tryz.underlying37 rfl (by rw [unhide HLS]; exact infoAn)) rfl ⟨⟨a, retA (unhide HL2).symm (unhide HYE).symm, anOK_setT (unhide HOK5) (unhide HX5) anZ24_nob (unhide HRO), (unhide HAST).trans (unhide HYL).symm⟩, setRow_belowT (unhide HB5) (Nat.le_refl _)⟩
theorem readAnswer_any (s : ByteArray) (w : World) (hs : s.size ≤ maxLen) :
    Calls Tryz.prog 7 #[.string s] w fun e w' => (∃ a, e = .returned (.tuple #[.agg (anC a), .int .i64 (readWE s)]) ∧ AnOK w' a ∧ a.strip = readWL s) ∧ Below w.heap.size w w' := by
  by_cases he : parsesE s = 0
  · exact readAnswer_ok s w hs he
  · refine (readAnswer_bad s w hs he).mono ?_
    rintro e w' ⟨rfl, hb⟩
    have h : readW s = false := by unfold readW; apply decide_eq_false; exact fun h => he h.1
    obtain ⟨h1, h2⟩ := readW_no h
    rw [h1, h2]
    exact ⟨⟨anNil, rfl, anNil_ok w', rfl⟩, hb⟩
end Go.Proofs.YtfpglpefofcdeaaGreatDoor
namespace Go.Proofs.YtfpglpefofcdeaaGreatDoor
open Go.RowKit
set_option linter.unusedVariables false

set_option maxRecDepth 100000 in
set_option maxHeartbeats 2000000 in
theorem sameP_any (L : List XApp) (ao bo : Option Addr) (c d : Nat) (w : World) (hg : RowApp w ao L) (hh : RowApp w bo L) (hl : L.length ≤ 1000) :
    Calls Tryz.prog 44 #[.slice ao L.length c, .slice bo L.length d] w fun e w' => e = .returned (.bool true) ∧ Below w.heap.size w w' := by
  have hl' : (L.length : Int) ≤ 1000 := by omega
  have HG := hide hg.1; have HH := hide hh.1
  clear hg hh
  go_enter Tryz.func44, Tryz.ntmps44
  go_wp2
  go_loopw [13] (fun i wr => ∃ k : Nat, k ≤ L.length ∧ i = .int .i64 k ∧ ∃ q, wr = w.drewN q) (fun i _ => L.length - (intOf i).toNat)
  case atStart => exact ⟨0, Nat.zero_le _, rfl, 0, rfl⟩
  case round =>
    obtain ⟨k, hk, rfl, q, rfl⟩ := hrel
    by_cases hlt : k < L.length
    · obtain ⟨x, hx⟩ : ∃ s, L[k]? = some s := ⟨_, List.getElem?_eq_getElem hlt⟩
      rcases unhide HG with hn | ⟨b1, o1, rfl, _, hc1⟩
      · rw [hn] at hlt; simp at hlt
      rcases unhide HH with hn | ⟨b2, o2, rfl, _, hc2⟩
      · rw [hn] at hlt; simp at hlt
      obtain ⟨c0, c1, c2, c3⟩ := hc1 k x hx
      obtain ⟨d0, d1, d2, d3⟩ := hc2 k x hx
      have hki : (k : Int) < (L.length : Int) := by omega
      clear hx hc1 hc2
      go_wp2_with fail
      go_quiet (fail)
      go_wp2
      go_roundw
      case rel => exact ⟨k + 1, by omega, by go_num, _, rfl⟩
      case measure => simp [intOf]; omega
    · go_wp2
      go_ret
      exact ⟨rfl, below_drewN (Below.refl _ _) _⟩
end Go.Proofs.YtfpglpefofcdeaaGreatDoor
namespace Go.Proofs.YtfpglpefofcdeaaGreatDoor
open Go.RowKit
set_option linter.unusedVariables false
set_option linter.unusedSimpArgs false
set_option maxRecDepth 100000

set_option maxHeartbeats 1000000 in
theorem sameW_any (L : List XWay) (ao bo : Option Addr) (c d : Nat) (w : World) (hg : RowWay w ao L) (hh : RowWay w bo L) (hl : L.length ≤ 1000000) :
    Calls Tryz.prog 81 #[.slice ao L.length c, .slice bo L.length d] w fun e w' => e = .returned (.bool true) ∧ Below w.heap.size w w' := by
  have hl' : (L.length : Int) ≤ 1000000 := by omega
  have HG := hide hg.1; have HH := hide hh.1
  clear hg hh
  go_enter Tryz.func81, Tryz.ntmps81
  go_wp2
  go_loopw [13] (fun i wr => ∃ k : Nat, k ≤ L.length ∧ i = .int .i64 k ∧ ∃ q, wr = w.drewN q) (fun i _ => L.length - (intOf i).toNat)
  case atStart => exact ⟨0, Nat.zero_le _, rfl, 0, rfl⟩
  case round =>
    obtain ⟨k, hk, rfl, q, rfl⟩ := hrel
    by_cases hlt : k < L.length
    · obtain ⟨x, hx⟩ : ∃ s, L[k]? = some s := ⟨_, List.getElem?_eq_getElem hlt⟩
      rcases unhide HG with hn | ⟨b1, o1, rfl, _, hc1⟩
      · rw [hn] at hlt; simp at hlt
      rcases unhide HH with hn | ⟨b2, o2, rfl, _, hc2⟩
      · rw [hn] at hlt; simp at hlt
      obtain ⟨c0, c1, c2⟩ := hc1 k x hx
      obtain ⟨d0, d1, d2⟩ := hc2 k x hx
      have hki : (k : Int) < (L.length : Int) := by omega
      clear hx hc1 hc2
      go_wp2_with fail
      go_quiet (fail)
      go_wp2
      go_roundw
      case rel => exact ⟨k + 1, by omega, by go_num, _, rfl⟩
      case measure => simp [intOf]; omega
    · go_wp2
      go_ret
      exact ⟨rfl, below_drewN (Below.refl _ _) _⟩
theorem below2T {w W w' : World} (h : Below w.heap.size w W) (k : Below W.heap.size W w') : Below w.heap.size w w' := h.trans (k.mono h.size)
set_option maxHeartbeats 4000000 in
theorem sameFiles_any (f g : Fl) (w : World) (hf : FlOK w f) (hg : FlOK w g) (h : f.strip = g.strip) (hl : f.apps.length ≤ 1000) (hl2 : f.ways.list.length ≤ 1000000) :
    Calls Tryz.prog 45 #[.agg (flC f), .agg (flC g)] w fun e w' => e = .returned (.bool true) ∧ Below w.heap.size w w' := by
  obtain ⟨id, ap, apps, ac, isig, irest, csig, crest, ⟨wx, wy, wo, wl, wc⟩, md, mo, mf, ro, row, rc⟩ := f
  obtain ⟨id2, ap2, apps2, ac2, isig2, irest2, csig2, crest2, ⟨wx2, wy2, wo2, wl2, wc2⟩, md2, mo2, mf2, ro2, row2, rc2⟩ := g
  simp only [Fl.strip, Fl.mk.injEq, XWays.mk.injEq, true_and, and_true] at h
  obtain ⟨rfl, rfl, rfl, rfl, rfl, rfl, ⟨rfl, rfl, rfl⟩, rfl, rfl, rfl, rfl⟩ := h
  obtain ⟨W2, hW2⟩ : ∃ W2, W2 = (w.alloc (.cells #[.string id, .slice ap apps.length ac, .string isig, .string irest, .string csig, .string crest, .int .i64 wx, .int .i64 wy, .slice wo wl.length wc, .int .i64 md, .int .i64 mo, .int .i64 mf, .slice ro row.length rc] 33)).alloc (.cells #[.string id, .slice ap2 apps.length ac2, .string isig, .string irest, .string csig, .string crest, .int .i64 wx, .int .i64 wy, .slice wo2 wl.length wc2, .int .i64 md, .int .i64 mo, .int .i64 mf, .slice ro2 row.length rc2] 33) := ⟨_, rfl⟩
  have hB2 : Below w.heap.size w W2 := by rw [hW2]; exact ((Below.refl _ _).alloc (Nat.le_refl _) _).alloc (by simp) _
  have hXA : W2.heap[w.heap.size]? = some (.cells #[.string id, .slice ap apps.length ac, .string isig, .string irest, .string csig, .string crest, .int .i64 wx, .int .i64 wy, .slice wo wl.length wc, .int .i64 md, .int .i64 mo, .int .i64 mf, .slice ro row.length rc] 33 (0, 0)) := by
    rw [hW2]
    have h1 := heap_alloc_new w (.cells #[.string id, .slice ap apps.length ac, .string isig, .string irest, .string csig, .string crest, .int .i64 wx, .int .i64 wy, .slice wo wl.length wc, .int .i64 md, .int .i64 mo, .int .i64 mf, .slice ro row.length rc] 33)
    rw [((Below.refl (w.alloc _).heap.size (w.alloc _)).alloc (Nat.le_refl _) _).block _ (block_ltQ h1)]; exact h1
  have hXB : W2.heap[w.heap.size + 1]? = some (.cells #[.string id, .slice ap2 apps.length ac2, .string isig, .string irest, .string csig, .string crest, .int .i64 wx, .int .i64 wy, .slice wo2 wl.length wc2, .int .i64 md, .int .i64 mo, .int .i64 mf, .slice ro2 row.length rc2] 33 (0, 0)) := by
    rw [hW2]
    have h1 := heap_alloc_new (w.alloc (.cells #[.string id, .slice ap apps.length ac, .string isig, .string irest, .string csig, .string crest, .int .i64 wx, .int .i64 wy, .slice wo wl.length wc, .int .i64 md, .int .i64 mo, .int .i64 mf, .slice ro row.length rc] 33)) (.cells #[.string id, .slice ap2 apps.length ac2, .string isig, .string irest, .string csig, .string crest, .int .i64 wx, .int .i64 wy, .slice wo2 wl.length wc2, .int .i64 md, .int .i64 mo, .int .i64 mf, .slice ro2 row.length rc2] 33)
    simpa using h1
  have N1 := hide (fun W (hb : Below W2.heap.size W2 W) => sameP_any apps ap ap2 ac ac2 W ((hf.apps.below hB2).below hb) ((hg.apps.below hB2).below hb) hl)
  have N2 := hide (fun W (hb : Below W2.heap.size W2 W) => sameW_any wl wo wo2 wc wc2 W ((hf.ways.below hB2).below hb) ((hg.ways.below hB2).below hb) hl2)
  have N3 := hide (fun W (hb : Below W2.heap.size W2 W) => sameF_any row row ro ro2 rc rc2 W ((hf.row.below hB2).below hb) ((hg.row.below hB2).below hb) hf.len hf.len)
  have t1 : (id.toList == id.toList) = true := by simp
  have t2 : (isig.toList == isig.toList) = true := by simp
  have t3 : (irest.toList == irest.toList) = true := by simp
  have t4 : (csig.toList == csig.toList) = true := by simp
  have t5 : (crest.toList == crest.toList) = true := by simp
  have t6 : (wx == wx) = true := by simp
  have t7 : (wy == wy) = true := by simp
  have t8 : (md == md) = true := by simp
  have t9 : (mo == mo) = true := by simp
  have t10 : (mf == mf) = true := by simp
  have HXA := hide (fun W (hb : Below W2.heap.size W2 W) => (hb.block _ (block_ltQ hXA)).trans hXA)
  have HXB := hide (fun W (hb : Below W2.heap.size W2 W) => (hb.block _ (block_ltQ hXB)).trans hXB)
  have HB2 := hide hB2
  have HW2 := hide hW2
  clear hf hg hl hl2 hB2 hXA hXB hW2
  show Calls Tryz.prog 45 #[.agg #[.string id, .slice ap apps.length ac, .string isig, .string irest, .string csig, .string crest, .int .i64 wx, .int .i64 wy, .slice wo wl.length wc, .int .i64 md, .int .i64 mo, .int .i64 mf, .slice ro row.length rc], .agg #[.string id, .slice ap2 apps.length ac2, .string isig, .string irest, .string csig, .string crest, .int .i64 wx, .int .i64 wy, .slice wo2 wl.length wc2, .int .i64 md, .int .i64 mo, .int .i64 mf, .slice ro2 row.length rc2]] w _
  go_enter Tryz.func45, Tryz.ntmps45
  go_wp2_with fail
  rw [← unhide HW2]
  refine (unhide N1 _ (Below.refl _ _)).mono ?_
  rintro e y1 ⟨rfl, k1⟩
  have hxa := unhide HXA y1 k1
  have hxb := unhide HXB y1 k1
  have c2 : y1.cell? ⟨w.heap.size, 2, none⟩ = some (.string isig) := cell_of_row _ _ 2 _ _ _ hxa
  have c3 : y1.cell? ⟨w.heap.size, 3, none⟩ = some (.string irest) := cell_of_row _ _ 3 _ _ _ hxa
  have c4 : y1.cell? ⟨w.heap.size, 4, none⟩ = some (.string csig) := cell_of_row _ _ 4 _ _ _ hxa
  have c5 : y1.cell? ⟨w.heap.size, 5, none⟩ = some (.string crest) := cell_of_row _ _ 5 _ _ _ hxa
  have c6 : y1.cell? ⟨w.heap.size, 6, none⟩ = some (.int .i64 wx) := cell_of_row _ _ 6 _ _ _ hxa
  have c7 : y1.cell? ⟨w.heap.size, 7, none⟩ = some (.int .i64 wy) := cell_of_row _ _ 7 _ _ _ hxa
  have c8 : y1.cell? ⟨w.heap.size, 8, none⟩ = some (.slice wo wl.length wc) := cell_of_row _ _ 8 _ _ _ hxa
  have e2 : y1.cell? ⟨w.heap.size + 1, 2, none⟩ = some (.string isig) := cell_of_row _ _ 2 _ _ _ hxb
  have e3 : y1.cell? ⟨w.heap.size + 1, 3, none⟩ = some (.string irest) := cell_of_row _ _ 3 _ _ _ hxb
  have e4 : y1.cell? ⟨w.heap.size + 1, 4, none⟩ = some (.string csig) := cell_of_row _ _ 4 _ _ _ hxb
  have e5 : y1.cell? ⟨w.heap.size + 1, 5, none⟩ = some (.string crest) := cell_of_row _ _ 5 _ _ _ hxb
  have e6 : y1.cell? ⟨w.heap.size + 1, 6, none⟩ = some (.int .i64 wx) := cell_of_row _ _ 6 _ _ _ hxb
  have e7 : y1.cell? ⟨w.heap.size + 1, 7, none⟩ = some (.int .i64 wy) := cell_of_row _ _ 7 _ _ _ hxb
  have e8 : y1.cell? ⟨w.heap.size + 1, 8, none⟩ = some (.slice wo2 wl.length wc2) := cell_of_row _ _ 8 _ _ _ hxb
  have HK1 := hide k1
  clear hxa hxb k1
  go_wp2_with fail
  refine (unhide N2 _ (unhide HK1)).mono ?_
  rintro e y2 ⟨rfl, k2⟩
  have hk2 := below2T (unhide HK1) k2
  have hxa := unhide HXA y2 hk2
  have hxb := unhide HXB y2 hk2
  clear c2 e2 c3 e3 c4 e4 c5 e5 c6 e6 c7 e7 c8 e8
  have c9 : y2.cell? ⟨w.heap.size, 9, none⟩ = some (.int .i64 md) := cell_of_row _ _ 9 _ _ _ hxa
  have c10 : y2.cell? ⟨w.heap.size, 10, none⟩ = some (.int .i64 mo) := cell_of_row _ _ 10 _ _ _ hxa
  have c11 : y2.cell? ⟨w.heap.size, 11, none⟩ = some (.int .i64 mf) := cell_of_row _ _ 11 _ _ _ hxa
  have c12 : y2.cell? ⟨w.heap.size, 12, none⟩ = some (.slice ro row.length rc) := cell_of_row _ _ 12 _ _ _ hxa
  have e9 : y2.cell? ⟨w.heap.size + 1, 9, none⟩ = some (.int .i64 md) := cell_of_row _ _ 9 _ _ _ hxb
  have e10 : y2.cell? ⟨w.heap.size + 1, 10, none⟩ = some (.int .i64 mo) := cell_of_row _ _ 10 _ _ _ hxb
  have e11 : y2.cell? ⟨w.heap.size + 1, 11, none⟩ = some (.int .i64 mf) := cell_of_row _ _ 11 _ _ _ hxb
  have e12 : y2.cell? ⟨w.heap.size + 1, 12, none⟩ = some (.slice ro2 row.length rc2) := cell_of_row _ _ 12 _ _ _ hxb
  have HK2 := hide hk2
  clear hxa hxb k2 hk2 HK1
  go_wp2_with fail
  refine (unhide N3 _ (unhide HK2)).mono ?_
  rintro e y3 ⟨rfl, k3⟩
  have hk3 := below2T (unhide HK2) k3
  have HK3 := hide (below2T (unhide HB2) hk3)
  clear c9 e9 c10 e10 c11 e11 c12 e12 hk3 k3 HK2
  go_wp2
  go_ret
  exact ⟨by simp, unhide HK3⟩
set_option maxHeartbeats 8000000 in
theorem sameAnswers_any (a b : An) (w : World) (ha : AnOK w a) (hb : AnOK w b) (h : a.strip = b.strip) (hl : a.apps.length ≤ 1000) (hl2 : a.fl.apps.length ≤ 1000) (hl3 : a.fl.ways.list.length ≤ 1000000) :
    Calls Tryz.prog 11 #[.agg (anC a), .agg (anC b)] w fun e w' => e = .returned (.bool true) ∧ Below w.heap.size w w' := by
  obtain ⟨er, dO, xo, al, xc, cnt, lst, lft, ⟨id, ap, apps, ac, isig, irest, csig, crest, ⟨wx, wy, wo, wl, wc⟩, md, mo, mf, ro, row, rc⟩, knd, rcn, sl, bsig, brest⟩ := a
  obtain ⟨er2, dO2, xo2, al2, xc2, cnt2, lst2, lft2, ⟨id2, ap2, apps2, ac2, isig2, irest2, csig2, crest2, ⟨wx2, wy2, wo2, wl2, wc2⟩, md2, mo2, mf2, ro2, row2, rc2⟩, knd2, rcn2, sl2, bsig2, brest2⟩ := b
  simp only [An.strip, An.mk.injEq, Fl.strip, Fl.mk.injEq, XWays.mk.injEq, true_and, and_true] at h
  obtain ⟨rfl, rfl, rfl, rfl, rfl, rfl, ⟨rfl, rfl, rfl, rfl, rfl, rfl, ⟨rfl, rfl, rfl⟩, rfl, rfl, rfl, rfl⟩, rfl, rfl, rfl, rfl, rfl⟩ := h
  obtain ⟨W2, hW2⟩ : ∃ W2, W2 = (w.alloc (.cells #[.int .i64 er, .int .i64 dO, .slice xo al.length xc, .int .i64 cnt, .int .i64 lst, .int .i64 lft, .string id, .slice ap apps.length ac, .string isig, .string irest, .string csig, .string crest, .int .i64 wx, .int .i64 wy, .slice wo wl.length wc, .int .i64 md, .int .i64 mo, .int .i64 mf, .slice ro row.length rc, .int .i64 knd, .int .i64 rcn, .string sl, .string bsig, .string brest] 37)).alloc (.cells #[.int .i64 er, .int .i64 dO, .slice xo2 al.length xc2, .int .i64 cnt, .int .i64 lst, .int .i64 lft, .string id, .slice ap2 apps.length ac2, .string isig, .string irest, .string csig, .string crest, .int .i64 wx, .int .i64 wy, .slice wo2 wl.length wc2, .int .i64 md, .int .i64 mo, .int .i64 mf, .slice ro2 row.length rc2, .int .i64 knd, .int .i64 rcn, .string sl, .string bsig, .string brest] 37) := ⟨_, rfl⟩
  have hB2 : Below w.heap.size w W2 := by rw [hW2]; exact ((Below.refl _ _).alloc (Nat.le_refl _) _).alloc (by simp) _
  have hXA : W2.heap[w.heap.size]? = some (.cells #[.int .i64 er, .int .i64 dO, .slice xo al.length xc, .int .i64 cnt, .int .i64 lst, .int .i64 lft, .string id, .slice ap apps.length ac, .string isig, .string irest, .string csig, .string crest, .int .i64 wx, .int .i64 wy, .slice wo wl.length wc, .int .i64 md, .int .i64 mo, .int .i64 mf, .slice ro row.length rc, .int .i64 knd, .int .i64 rcn, .string sl, .string bsig, .string brest] 37 (0, 0)) := by
    rw [hW2]
    have h1 := heap_alloc_new w (.cells #[.int .i64 er, .int .i64 dO, .slice xo al.length xc, .int .i64 cnt, .int .i64 lst, .int .i64 lft, .string id, .slice ap apps.length ac, .string isig, .string irest, .string csig, .string crest, .int .i64 wx, .int .i64 wy, .slice wo wl.length wc, .int .i64 md, .int .i64 mo, .int .i64 mf, .slice ro row.length rc, .int .i64 knd, .int .i64 rcn, .string sl, .string bsig, .string brest] 37)
    rw [((Below.refl (w.alloc _).heap.size (w.alloc _)).alloc (Nat.le_refl _) _).block _ (block_ltQ h1)]; exact h1
  have hXB : W2.heap[w.heap.size + 1]? = some (.cells #[.int .i64 er, .int .i64 dO, .slice xo2 al.length xc2, .int .i64 cnt, .int .i64 lst, .int .i64 lft, .string id, .slice ap2 apps.length ac2, .string isig, .string irest, .string csig, .string crest, .int .i64 wx, .int .i64 wy, .slice wo2 wl.length wc2, .int .i64 md, .int .i64 mo, .int .i64 mf, .slice ro2 row.length rc2, .int .i64 knd, .int .i64 rcn, .string sl, .string bsig, .string brest] 37 (0, 0)) := by
    rw [hW2]
    have h1 := heap_alloc_new (w.alloc (.cells #[.int .i64 er, .int .i64 dO, .slice xo al.length xc, .int .i64 cnt, .int .i64 lst, .int .i64 lft, .string id, .slice ap apps.length ac, .string isig, .string irest, .string csig, .string crest, .int .i64 wx, .int .i64 wy, .slice wo wl.length wc, .int .i64 md, .int .i64 mo, .int .i64 mf, .slice ro row.length rc, .int .i64 knd, .int .i64 rcn, .string sl, .string bsig, .string brest] 37)) (.cells #[.int .i64 er, .int .i64 dO, .slice xo2 al.length xc2, .int .i64 cnt, .int .i64 lst, .int .i64 lft, .string id, .slice ap2 apps.length ac2, .string isig, .string irest, .string csig, .string crest, .int .i64 wx, .int .i64 wy, .slice wo2 wl.length wc2, .int .i64 md, .int .i64 mo, .int .i64 mf, .slice ro2 row.length rc2, .int .i64 knd, .int .i64 rcn, .string sl, .string bsig, .string brest] 37)
    simpa using h1
  have N1 := hide (fun W (hb' : Below W2.heap.size W2 W) => sameP_any al xo xo2 xc xc2 W ((ha.apps.below hB2).below hb') ((hb.apps.below hB2).below hb') hl)
  have n2 := fun W (hb' : Below W2.heap.size W2 W) => sameFiles_any ⟨id, ap, apps, ac, isig, irest, csig, crest, ⟨wx, wy, wo, wl, wc⟩, md, mo, mf, ro, row, rc⟩ ⟨id, ap2, apps, ac2, isig, irest, csig, crest, ⟨wx, wy, wo2, wl, wc2⟩, md, mo, mf, ro2, row, rc2⟩ W ((ha.fl.below hB2).below hb') ((hb.fl.below hB2).below hb') rfl hl2 hl3
  have N2 : Hid (∀ W, Below W2.heap.size W2 W → Calls Tryz.prog 45 #[.agg #[.string id, .slice ap apps.length ac, .string isig, .string irest, .string csig, .string crest, .int .i64 wx, .int .i64 wy, .slice wo wl.length wc, .int .i64 md, .int .i64 mo, .int .i64 mf, .slice ro row.length rc], .agg #[.string id, .slice ap2 apps.length ac2, .string isig, .string irest, .string csig, .string crest, .int .i64 wx, .int .i64 wy, .slice wo2 wl.length wc2, .int .i64 md, .int .i64 mo, .int .i64 mf, .slice ro2 row.length rc2]] W fun e w' => e = .returned (.bool true) ∧ Below W.heap.size W w') := hide n2
  have t1 : (er == er) = true := by simp
  have t2 : (dO == dO) = true := by simp
  have t3 : (cnt == cnt) = true := by simp
  have t4 : (lst == lst) = true := by simp
  have t5 : (lft == lft) = true := by simp
  have t6 : (knd == knd) = true := by simp
  have t7 : (rcn == rcn) = true := by simp
  have t8 : (sl.toList == sl.toList) = true := by simp
  have t9 : (bsig.toList == bsig.toList) = true := by simp
  have t10 : (brest.toList == brest.toList) = true := by simp
  have HXA := hide (fun W (hb : Below W2.heap.size W2 W) => (hb.block _ (block_ltQ hXA)).trans hXA)
  have HXB := hide (fun W (hb : Below W2.heap.size W2 W) => (hb.block _ (block_ltQ hXB)).trans hXB)
  have HB2 := hide hB2
  have HW2 := hide hW2
  clear ha hb hl hl2 hl3 hB2 hXA hXB hW2 n2
  show Calls Tryz.prog 11 #[.agg #[.int .i64 er, .int .i64 dO, .slice xo al.length xc, .int .i64 cnt, .int .i64 lst, .int .i64 lft, .string id, .slice ap apps.length ac, .string isig, .string irest, .string csig, .string crest, .int .i64 wx, .int .i64 wy, .slice wo wl.length wc, .int .i64 md, .int .i64 mo, .int .i64 mf, .slice ro row.length rc, .int .i64 knd, .int .i64 rcn, .string sl, .string bsig, .string brest], .agg #[.int .i64 er, .int .i64 dO, .slice xo2 al.length xc2, .int .i64 cnt, .int .i64 lst, .int .i64 lft, .string id, .slice ap2 apps.length ac2, .string isig, .string irest, .string csig, .string crest, .int .i64 wx, .int .i64 wy, .slice wo2 wl.length wc2, .int .i64 md, .int .i64 mo, .int .i64 mf, .slice ro2 row.length rc2, .int .i64 knd, .int .i64 rcn, .string sl, .string bsig, .string brest]] w _
  go_enter Tryz.func11, Tryz.ntmps11
  go_wp2_with fail
  rw [← unhide HW2]
  refine (unhide N1 _ (Below.refl _ _)).mono ?_
  rintro e y1 ⟨rfl, k1⟩
  have hxa := unhide HXA y1 k1
  have hxb := unhide HXB y1 k1
  have c3 : y1.cell? ⟨w.heap.size, 3, none⟩ = some (.int .i64 cnt) := cell_of_row _ _ 3 _ _ _ hxa
  have c4 : y1.cell? ⟨w.heap.size, 4, none⟩ = some (.int .i64 lst) := cell_of_row _ _ 4 _ _ _ hxa
  have c5 : y1.cell? ⟨w.heap.size, 5, none⟩ = some (.int .i64 lft) := cell_of_row _ _ 5 _ _ _ hxa
  have c6 : y1.cell? ⟨w.heap.size, 6, none⟩ = some (.string id) := cell_of_row _ _ 6 _ _ _ hxa
  have c7 : y1.cell? ⟨w.heap.size, 7, none⟩ = some (.slice ap apps.length ac) := cell_of_row _ _ 7 _ _ _ hxa
  have c8 : y1.cell? ⟨w.heap.size, 8, none⟩ = some (.string isig) := cell_of_row _ _ 8 _ _ _ hxa
  have c9 : y1.cell? ⟨w.heap.size, 9, none⟩ = some (.string irest) := cell_of_row _ _ 9 _ _ _ hxa
  have c10 : y1.cell? ⟨w.heap.size, 10, none⟩ = some (.string csig) := cell_of_row _ _ 10 _ _ _ hxa
  have c11 : y1.cell? ⟨w.heap.size, 11, none⟩ = some (.string crest) := cell_of_row _ _ 11 _ _ _ hxa
  have c12 : y1.cell? ⟨w.heap.size, 12, none⟩ = some (.int .i64 wx) := cell_of_row _ _ 12 _ _ _ hxa
  have c13 : y1.cell? ⟨w.heap.size, 13, none⟩ = some (.int .i64 wy) := cell_of_row _ _ 13 _ _ _ hxa
  have c14 : y1.cell? ⟨w.heap.size, 14, none⟩ = some (.slice wo wl.length wc) := cell_of_row _ _ 14 _ _ _ hxa
  have c15 : y1.cell? ⟨w.heap.size, 15, none⟩ = some (.int .i64 md) := cell_of_row _ _ 15 _ _ _ hxa
  have c16 : y1.cell? ⟨w.heap.size, 16, none⟩ = some (.int .i64 mo) := cell_of_row _ _ 16 _ _ _ hxa
  have c17 : y1.cell? ⟨w.heap.size, 17, none⟩ = some (.int .i64 mf) := cell_of_row _ _ 17 _ _ _ hxa
  have c18 : y1.cell? ⟨w.heap.size, 18, none⟩ = some (.slice ro row.length rc) := cell_of_row _ _ 18 _ _ _ hxa
  have e3 : y1.cell? ⟨w.heap.size + 1, 3, none⟩ = some (.int .i64 cnt) := cell_of_row _ _ 3 _ _ _ hxb
  have e4 : y1.cell? ⟨w.heap.size + 1, 4, none⟩ = some (.int .i64 lst) := cell_of_row _ _ 4 _ _ _ hxb
  have e5 : y1.cell? ⟨w.heap.size + 1, 5, none⟩ = some (.int .i64 lft) := cell_of_row _ _ 5 _ _ _ hxb
  have e6 : y1.cell? ⟨w.heap.size + 1, 6, none⟩ = some (.string id) := cell_of_row _ _ 6 _ _ _ hxb
  have e7 : y1.cell? ⟨w.heap.size + 1, 7, none⟩ = some (.slice ap2 apps.length ac2) := cell_of_row _ _ 7 _ _ _ hxb
  have e8 : y1.cell? ⟨w.heap.size + 1, 8, none⟩ = some (.string isig) := cell_of_row _ _ 8 _ _ _ hxb
  have e9 : y1.cell? ⟨w.heap.size + 1, 9, none⟩ = some (.string irest) := cell_of_row _ _ 9 _ _ _ hxb
  have e10 : y1.cell? ⟨w.heap.size + 1, 10, none⟩ = some (.string csig) := cell_of_row _ _ 10 _ _ _ hxb
  have e11 : y1.cell? ⟨w.heap.size + 1, 11, none⟩ = some (.string crest) := cell_of_row _ _ 11 _ _ _ hxb
  have e12 : y1.cell? ⟨w.heap.size + 1, 12, none⟩ = some (.int .i64 wx) := cell_of_row _ _ 12 _ _ _ hxb
  have e13 : y1.cell? ⟨w.heap.size + 1, 13, none⟩ = some (.int .i64 wy) := cell_of_row _ _ 13 _ _ _ hxb
  have e14 : y1.cell? ⟨w.heap.size + 1, 14, none⟩ = some (.slice wo2 wl.length wc2) := cell_of_row _ _ 14 _ _ _ hxb
  have e15 : y1.cell? ⟨w.heap.size + 1, 15, none⟩ = some (.int .i64 md) := cell_of_row _ _ 15 _ _ _ hxb
  have e16 : y1.cell? ⟨w.heap.size + 1, 16, none⟩ = some (.int .i64 mo) := cell_of_row _ _ 16 _ _ _ hxb
  have e17 : y1.cell? ⟨w.heap.size + 1, 17, none⟩ = some (.int .i64 mf) := cell_of_row _ _ 17 _ _ _ hxb
  have e18 : y1.cell? ⟨w.heap.size + 1, 18, none⟩ = some (.slice ro2 row.length rc2) := cell_of_row _ _ 18 _ _ _ hxb
  have HK1 := hide k1
  clear hxa hxb k1
  go_wp2_with fail
  refine (unhide N2 _ (unhide HK1)).mono ?_
  rintro e y2 ⟨rfl, k2⟩
  have hk2 := below2T (unhide HK1) k2
  have hxa := unhide HXA y2 hk2
  have hxb := unhide HXB y2 hk2
  clear c3 e3 c4 e4 c5 e5 c6 e6 c7 e7 c8 e8 c9 e9 c10 e10 c11 e11 c12 e12 c13 e13 c14 e14 c15 e15 c16 e16 c17 e17 c18 e18
  have c19 : y2.cell? ⟨w.heap.size, 19, none⟩ = some (.int .i64 knd) := cell_of_row _ _ 19 _ _ _ hxa
  have c20 : y2.cell? ⟨w.heap.size, 20, none⟩ = some (.int .i64 rcn) := cell_of_row _ _ 20 _ _ _ hxa
  have c21 : y2.cell? ⟨w.heap.size, 21, none⟩ = some (.string sl) := cell_of_row _ _ 21 _ _ _ hxa
  have c22 : y2.cell? ⟨w.heap.size, 22, none⟩ = some (.string bsig) := cell_of_row _ _ 22 _ _ _ hxa
  have c23 : y2.cell? ⟨w.heap.size, 23, none⟩ = some (.string brest) := cell_of_row _ _ 23 _ _ _ hxa
  have e19 : y2.cell? ⟨w.heap.size + 1, 19, none⟩ = some (.int .i64 knd) := cell_of_row _ _ 19 _ _ _ hxb
  have e20 : y2.cell? ⟨w.heap.size + 1, 20, none⟩ = some (.int .i64 rcn) := cell_of_row _ _ 20 _ _ _ hxb
  have e21 : y2.cell? ⟨w.heap.size + 1, 21, none⟩ = some (.string sl) := cell_of_row _ _ 21 _ _ _ hxb
  have e22 : y2.cell? ⟨w.heap.size + 1, 22, none⟩ = some (.string bsig) := cell_of_row _ _ 22 _ _ _ hxb
  have e23 : y2.cell? ⟨w.heap.size + 1, 23, none⟩ = some (.string brest) := cell_of_row _ _ 23 _ _ _ hxb
  have HK2 := hide (below2T (unhide HB2) hk2)
  clear hxa hxb k2 hk2 HK1
  go_wp2
  go_ret
  exact ⟨by simp, unhide HK2⟩
end Go.Proofs.YtfpglpefofcdeaaGreatDoor
namespace Go.Proofs.YtfpglpefofcdeaaGreatDoor
open Go.ChangeShapes Go.WideShapes Go.ChangeAt Go.RowKit Go.Deep
set_option linter.unusedVariables false
set_option linter.unusedSimpArgs false
set_option maxRecDepth 100000

theorem cellsOfErrno : Tryz.prog.cellsOf 22 = 1 := by kernel_rfl
theorem bulk_posT {H : Type} (d : DataW H) : 1 ≤ Rows.uptoBulk d := by
  cases d with
  | lit x => cases x <;> simp [Rows.uptoBulk]
  | _ => simp [Rows.uptoBulk]
theorem bulkAll_length {H : Type} {es : List (DataW H)} : es.length ≤ Rows.uptoBulkAll es := by
  induction es with
  | nil => simp
  | cons d r ih =>
    have := bulk_posT d
    simp only [Rows.uptoBulkAll, List.length_cons]
    omega



def bulkWays (x : XWays) : Nat := x.list.length
theorem opencbWays {H : Type} {enc : TypeId × Value → H} {W : World} {k : Nat} {cs : List Value} {y : DataW H × List MemPlace}
    (h : DataW.trod enc Tryz.prog W 0 (fun _ => true) true k 28 cs = some y) :
    ∃ x : XWays, cs = [.int .i64 x.x, .int .i64 x.y, .slice x.listo x.list.length x.listc] ∧ okWays W x ∧ bulkWays x ≤ Rows.uptoBulk y.1 := by
  obtain ⟨xs, k', _, hagg, hsz, hlen, hq⟩ := DataW.trod_struct Tryz.underlying28 h
  rw [cellsOfWays] at hsz
  match cs, hsz with
  | [c0, c1, c2], _ =>
    match xs, hlen, hagg with
    | [y0, y1, y2], _, hagg =>
      have hbk := congrArg Rows.uptoBulk (Prod.ext_iff.1 hagg).1
      have h0 : DataW.trod enc Tryz.prog W 0 (fun _ => true) true k' 3 [c0] = some y0 := by simpa [cellsOfBool, cellsOfInt, cellsOfSlWay, cellsOfString] using hq 0 _ rfl
      obtain ⟨z0, e0, g0, w0⟩ := DataW.trod_int Tryz.underlying3 h0
      subst g0
      have h1 : DataW.trod enc Tryz.prog W 0 (fun _ => true) true k' 3 [c1] = some y1 := by simpa [cellsOfBool, cellsOfInt, cellsOfSlWay, cellsOfString] using hq 1 _ rfl
      obtain ⟨z1, e1, g1, w1⟩ := DataW.trod_int Tryz.underlying3 h1
      subst g1
      have h2 : DataW.trod enc Tryz.prog W 0 (fun _ => true) true k' 26 [c2] = some y2 := by simpa [cellsOfBool, cellsOfInt, cellsOfSlWay, cellsOfString] using hq 2 _ rfl
      obtain ⟨zo2, z2, zc2, e2, w2, wc2, hl2⟩ := openrWay h2
      have b2 : z2.length ≤ Rows.uptoBulk y2.1 := by
        rcases hl2 with hd | ⟨es, ss, hd, hes⟩
        · rw [hd]; simp
        · rw [hd]
          simp only [Rows.uptoBulk]
          have := bulkAll_length (es := es)
          omega
      simp at e0 e1 e2
      subst e0
      subst e1
      subst e2
      refine ⟨⟨z0, z1, zo2, z2, zc2⟩, rfl, ⟨bounds_i64 w0, bounds_i64 w1, w2⟩, ?_⟩
      simp only [List.map_cons, List.map_nil, Rows.uptoBulk, Rows.uptoBulkAll] at hbk
      rw [hbk]
      unfold bulkWays
      dsimp only
      omega
theorem openbWays {H : Type} {enc : TypeId × Value → H} {W : World} {b0 : Nat} {r : Reach} {v : Value} {d : DataW H} {p : List MemPlace}
    (hv : Value.okWide Tryz.prog W r b0 28 v) (h : DataW.Trod enc Tryz.prog W 0 (fun _ => true) true 28 v d p) : ∃ x : XWays, v = valWays x ∧ okWays W x ∧ bulkWays x ≤ Rows.uptoBulk d := by
  obtain ⟨cs, rfl, hsz⟩ := okWide_struct Tryz.underlying28 hv
  obtain ⟨fuel, hf⟩ := h
  obtain ⟨x, hx, ho, hb⟩ := opencbWays hf
  obtain ⟨l⟩ := cs
  simp only [Value.cells] at hx
  subst hx
  exact ⟨x, rfl, ho, hb⟩
structure XMasks where
  d : Int
  o : Int
  f : Int
deriving Inhabited
def valMasks (x : XMasks) : Value := .agg #[.int .i64 x.d, .int .i64 x.o, .int .i64 x.f]
def okMasks (W : World) (x : XMasks) : Prop := (-9223372036854775808 ≤ x.d ∧ x.d ≤ 9223372036854775807) ∧ (-9223372036854775808 ≤ x.o ∧ x.o ≤ 9223372036854775807) ∧ (-9223372036854775808 ≤ x.f ∧ x.f ≤ 9223372036854775807)
theorem cellsOfMasks : Tryz.prog.cellsOf 30 = 3 := by kernel_rfl
theorem okMasks.below {W W' : World} {x : XMasks} (h : okMasks W x) (hb : Below W.heap.size W W') : okMasks W' x := by
  obtain ⟨h0, h1, h2⟩ := h
  exact ⟨h0, h1, h2⟩
theorem opencMasks {H : Type} {enc : TypeId × Value → H} {W : World} {k : Nat} {cs : List Value} {y : DataW H × List MemPlace}
    (h : DataW.trod enc Tryz.prog W 0 (fun _ => true) true k 30 cs = some y) :
    ∃ x : XMasks, cs = [.int .i64 x.d, .int .i64 x.o, .int .i64 x.f] ∧ okMasks W x := by
  obtain ⟨xs, k', _, _, hsz, hlen, hq⟩ := DataW.trod_struct Tryz.underlying30 h
  rw [cellsOfMasks] at hsz
  match cs, hsz with
  | [c0, c1, c2], _ =>
    match xs, hlen with
    | [y0, y1, y2], _ =>
      have h0 : DataW.trod enc Tryz.prog W 0 (fun _ => true) true k' 3 [c0] = some y0 := by simpa [cellsOfBool, cellsOfInt, cellsOfString] using hq 0 _ rfl
      obtain ⟨z0, e0, g0, w0⟩ := DataW.trod_int Tryz.underlying3 h0
      have h1 : DataW.trod enc Tryz.prog W 0 (fun _ => true) true k' 3 [c1] = some y1 := by simpa [cellsOfBool, cellsOfInt, cellsOfString] using hq 1 _ rfl
      obtain ⟨z1, e1, g1, w1⟩ := DataW.trod_int Tryz.underlying3 h1
      have h2 : DataW.trod enc Tryz.prog W 0 (fun _ => true) true k' 3 [c2] = some y2 := by simpa [cellsOfBool, cellsOfInt, cellsOfString] using hq 2 _ rfl
      obtain ⟨z2, e2, g2, w2⟩ := DataW.trod_int Tryz.underlying3 h2
      simp at e0 e1 e2
      subst e0
      subst e1
      subst e2
      exact ⟨⟨z0, z1, z2⟩, rfl, ⟨bounds_i64 w0, bounds_i64 w1, bounds_i64 w2⟩⟩
theorem openMasks {H : Type} {enc : TypeId × Value → H} {W : World} {b0 : Nat} {r : Reach} {v : Value} {d : DataW H} {p : List MemPlace}
    (hv : Value.okWide Tryz.prog W r b0 30 v) (h : DataW.Trod enc Tryz.prog W 0 (fun _ => true) true 30 v d p) : ∃ x : XMasks, v = valMasks x ∧ okMasks W x := by
  obtain ⟨cs, rfl, hsz⟩ := okWide_struct Tryz.underlying30 hv
  obtain ⟨fuel, hf⟩ := h
  obtain ⟨x, hx, ho⟩ := opencMasks hf
  obtain ⟨l⟩ := cs
  simp only [Value.cells] at hx
  subst hx
  exact ⟨x, rfl, ho⟩
def bulkMasks (x : XMasks) : Nat := 0
theorem opencbMasks {H : Type} {enc : TypeId × Value → H} {W : World} {k : Nat} {cs : List Value} {y : DataW H × List MemPlace}
    (h : DataW.trod enc Tryz.prog W 0 (fun _ => true) true k 30 cs = some y) :
    ∃ x : XMasks, cs = [.int .i64 x.d, .int .i64 x.o, .int .i64 x.f] ∧ okMasks W x ∧ bulkMasks x ≤ Rows.uptoBulk y.1 := by
  obtain ⟨xs, k', _, hagg, hsz, hlen, hq⟩ := DataW.trod_struct Tryz.underlying30 h
  rw [cellsOfMasks] at hsz
  match cs, hsz with
  | [c0, c1, c2], _ =>
    match xs, hlen, hagg with
    | [y0, y1, y2], _, hagg =>
      have hbk := congrArg Rows.uptoBulk (Prod.ext_iff.1 hagg).1
      have h0 : DataW.trod enc Tryz.prog W 0 (fun _ => true) true k' 3 [c0] = some y0 := by simpa [cellsOfBool, cellsOfInt, cellsOfString] using hq 0 _ rfl
      obtain ⟨z0, e0, g0, w0⟩ := DataW.trod_int Tryz.underlying3 h0
      subst g0
      have h1 : DataW.trod enc Tryz.prog W 0 (fun _ => true) true k' 3 [c1] = some y1 := by simpa [cellsOfBool, cellsOfInt, cellsOfString] using hq 1 _ rfl
      obtain ⟨z1, e1, g1, w1⟩ := DataW.trod_int Tryz.underlying3 h1
      subst g1
      have h2 : DataW.trod enc Tryz.prog W 0 (fun _ => true) true k' 3 [c2] = some y2 := by simpa [cellsOfBool, cellsOfInt, cellsOfString] using hq 2 _ rfl
      obtain ⟨z2, e2, g2, w2⟩ := DataW.trod_int Tryz.underlying3 h2
      subst g2
      simp at e0 e1 e2
      subst e0
      subst e1
      subst e2
      refine ⟨⟨z0, z1, z2⟩, rfl, ⟨bounds_i64 w0, bounds_i64 w1, bounds_i64 w2⟩, ?_⟩
      simp only [List.map_cons, List.map_nil, Rows.uptoBulk, Rows.uptoBulkAll] at hbk
      rw [hbk]
      exact Nat.zero_le _
theorem openbMasks {H : Type} {enc : TypeId × Value → H} {W : World} {b0 : Nat} {r : Reach} {v : Value} {d : DataW H} {p : List MemPlace}
    (hv : Value.okWide Tryz.prog W r b0 30 v) (h : DataW.Trod enc Tryz.prog W 0 (fun _ => true) true 30 v d p) : ∃ x : XMasks, v = valMasks x ∧ okMasks W x ∧ bulkMasks x ≤ Rows.uptoBulk d := by
  obtain ⟨cs, rfl, hsz⟩ := okWide_struct Tryz.underlying30 hv
  obtain ⟨fuel, hf⟩ := h
  obtain ⟨x, hx, ho, hb⟩ := opencbMasks hf
  obtain ⟨l⟩ := cs
  simp only [Value.cells] at hx
  subst hx
  exact ⟨x, rfl, ho, hb⟩
structure XCert where
  sig : ByteArray
  rest : ByteArray
deriving Inhabited
def valCert (x : XCert) : Value := .agg #[.string x.sig, .string x.rest]
def okCert (W : World) (x : XCert) : Prop := x.sig.size ≤ maxLen ∧ x.rest.size ≤ maxLen
theorem cellsOfCert : Tryz.prog.cellsOf 25 = 2 := by kernel_rfl
theorem okCert.below {W W' : World} {x : XCert} (h : okCert W x) (hb : Below W.heap.size W W') : okCert W' x := by
  obtain ⟨h0, h1⟩ := h
  exact ⟨h0, h1⟩
theorem opencCert {H : Type} {enc : TypeId × Value → H} {W : World} {k : Nat} {cs : List Value} {y : DataW H × List MemPlace}
    (h : DataW.trod enc Tryz.prog W 0 (fun _ => true) true k 25 cs = some y) :
    ∃ x : XCert, cs = [.string x.sig, .string x.rest] ∧ okCert W x := by
  obtain ⟨xs, k', _, _, hsz, hlen, hq⟩ := DataW.trod_struct Tryz.underlying25 h
  rw [cellsOfCert] at hsz
  match cs, hsz with
  | [c0, c1], _ =>
    match xs, hlen with
    | [y0, y1], _ =>
      have h0 : DataW.trod enc Tryz.prog W 0 (fun _ => true) true k' 9 [c0] = some y0 := by simpa [cellsOfBool, cellsOfInt, cellsOfString] using hq 0 _ rfl
      obtain ⟨z0, e0, g0, w0⟩ := DataW.trod_string Tryz.underlying9 h0
      have h1 : DataW.trod enc Tryz.prog W 0 (fun _ => true) true k' 9 [c1] = some y1 := by simpa [cellsOfBool, cellsOfInt, cellsOfString] using hq 1 _ rfl
      obtain ⟨z1, e1, g1, w1⟩ := DataW.trod_string Tryz.underlying9 h1
      simp at e0 e1
      subst e0
      subst e1
      exact ⟨⟨z0, z1⟩, rfl, ⟨w0, w1⟩⟩
theorem openCert {H : Type} {enc : TypeId × Value → H} {W : World} {b0 : Nat} {r : Reach} {v : Value} {d : DataW H} {p : List MemPlace}
    (hv : Value.okWide Tryz.prog W r b0 25 v) (h : DataW.Trod enc Tryz.prog W 0 (fun _ => true) true 25 v d p) : ∃ x : XCert, v = valCert x ∧ okCert W x := by
  obtain ⟨cs, rfl, hsz⟩ := okWide_struct Tryz.underlying25 hv
  obtain ⟨fuel, hf⟩ := h
  obtain ⟨x, hx, ho⟩ := opencCert hf
  obtain ⟨l⟩ := cs
  simp only [Value.cells] at hx
  subst hx
  exact ⟨x, rfl, ho⟩
def bulkCert (x : XCert) : Nat := x.sig.size + x.rest.size
theorem opencbCert {H : Type} {enc : TypeId × Value → H} {W : World} {k : Nat} {cs : List Value} {y : DataW H × List MemPlace}
    (h : DataW.trod enc Tryz.prog W 0 (fun _ => true) true k 25 cs = some y) :
    ∃ x : XCert, cs = [.string x.sig, .string x.rest] ∧ okCert W x ∧ bulkCert x ≤ Rows.uptoBulk y.1 := by
  obtain ⟨xs, k', _, hagg, hsz, hlen, hq⟩ := DataW.trod_struct Tryz.underlying25 h
  rw [cellsOfCert] at hsz
  match cs, hsz with
  | [c0, c1], _ =>
    match xs, hlen, hagg with
    | [y0, y1], _, hagg =>
      have hbk := congrArg Rows.uptoBulk (Prod.ext_iff.1 hagg).1
      have h0 : DataW.trod enc Tryz.prog W 0 (fun _ => true) true k' 9 [c0] = some y0 := by simpa [cellsOfBool, cellsOfInt, cellsOfString] using hq 0 _ rfl
      obtain ⟨z0, e0, g0, w0⟩ := DataW.trod_string Tryz.underlying9 h0
      have l0 : z0.data.toList.length = z0.size := by simp
      subst g0
      have h1 : DataW.trod enc Tryz.prog W 0 (fun _ => true) true k' 9 [c1] = some y1 := by simpa [cellsOfBool, cellsOfInt, cellsOfString] using hq 1 _ rfl
      obtain ⟨z1, e1, g1, w1⟩ := DataW.trod_string Tryz.underlying9 h1
      have l1 : z1.data.toList.length = z1.size := by simp
      subst g1
      simp at e0 e1
      subst e0
      subst e1
      refine ⟨⟨z0, z1⟩, rfl, ⟨w0, w1⟩, ?_⟩
      simp only [List.map_cons, List.map_nil, Rows.uptoBulk, Rows.uptoBulkAll] at hbk
      rw [hbk]
      unfold bulkCert
      dsimp only
      omega
theorem openbCert {H : Type} {enc : TypeId × Value → H} {W : World} {b0 : Nat} {r : Reach} {v : Value} {d : DataW H} {p : List MemPlace}
    (hv : Value.okWide Tryz.prog W r b0 25 v) (h : DataW.Trod enc Tryz.prog W 0 (fun _ => true) true 25 v d p) : ∃ x : XCert, v = valCert x ∧ okCert W x ∧ bulkCert x ≤ Rows.uptoBulk d := by
  obtain ⟨cs, rfl, hsz⟩ := okWide_struct Tryz.underlying25 hv
  obtain ⟨fuel, hf⟩ := h
  obtain ⟨x, hx, ho, hb⟩ := opencbCert hf
  obtain ⟨l⟩ := cs
  simp only [Value.cells] at hx
  subst hx
  exact ⟨x, rfl, ho, hb⟩
structure XField where
  tag : Int
  len : Int
deriving Inhabited
def valField (x : XField) : Value := .agg #[.int .i64 x.tag, .int .i64 x.len]
def okField (W : World) (x : XField) : Prop := (-9223372036854775808 ≤ x.tag ∧ x.tag ≤ 9223372036854775807) ∧ (-9223372036854775808 ≤ x.len ∧ x.len ≤ 9223372036854775807)
theorem cellsOfField : Tryz.prog.cellsOf 121 = 2 := by kernel_rfl
theorem okField.below {W W' : World} {x : XField} (h : okField W x) (hb : Below W.heap.size W W') : okField W' x := by
  obtain ⟨h0, h1⟩ := h
  exact ⟨h0, h1⟩
theorem opencField {H : Type} {enc : TypeId × Value → H} {W : World} {k : Nat} {cs : List Value} {y : DataW H × List MemPlace}
    (h : DataW.trod enc Tryz.prog W 0 (fun _ => true) true k 121 cs = some y) :
    ∃ x : XField, cs = [.int .i64 x.tag, .int .i64 x.len] ∧ okField W x := by
  obtain ⟨xs, k', _, _, hsz, hlen, hq⟩ := DataW.trod_struct Tryz.underlying121 h
  rw [cellsOfField] at hsz
  match cs, hsz with
  | [c0, c1], _ =>
    match xs, hlen with
    | [y0, y1], _ =>
      have h0 : DataW.trod enc Tryz.prog W 0 (fun _ => true) true k' 3 [c0] = some y0 := by simpa [cellsOfBool, cellsOfInt, cellsOfString] using hq 0 _ rfl
      obtain ⟨z0, e0, g0, w0⟩ := DataW.trod_int Tryz.underlying3 h0
      have h1 : DataW.trod enc Tryz.prog W 0 (fun _ => true) true k' 3 [c1] = some y1 := by simpa [cellsOfBool, cellsOfInt, cellsOfString] using hq 1 _ rfl
      obtain ⟨z1, e1, g1, w1⟩ := DataW.trod_int Tryz.underlying3 h1
      simp at e0 e1
      subst e0
      subst e1
      exact ⟨⟨z0, z1⟩, rfl, ⟨bounds_i64 w0, bounds_i64 w1⟩⟩
theorem openField {H : Type} {enc : TypeId × Value → H} {W : World} {b0 : Nat} {r : Reach} {v : Value} {d : DataW H} {p : List MemPlace}
    (hv : Value.okWide Tryz.prog W r b0 121 v) (h : DataW.Trod enc Tryz.prog W 0 (fun _ => true) true 121 v d p) : ∃ x : XField, v = valField x ∧ okField W x := by
  obtain ⟨cs, rfl, hsz⟩ := okWide_struct Tryz.underlying121 hv
  obtain ⟨fuel, hf⟩ := h
  obtain ⟨x, hx, ho⟩ := opencField hf
  obtain ⟨l⟩ := cs
  simp only [Value.cells] at hx
  subst hx
  exact ⟨x, rfl, ho⟩
def RowField (W : World) (ao : Option Addr) (l : List XField) : Prop :=
  (l = [] ∨ ∃ b off, ao = some ⟨b, off, none⟩ ∧ b < W.heap.size ∧ ∀ i x, l[i]? = some x → W.cell? ⟨b, off + i * 2, none⟩ = some (.int .i64 x.tag) ∧ W.cell? ⟨b, off + i * 2 + 1, none⟩ = some (.int .i64 x.len)) ∧ (∀ x ∈ l, okField W x) ∧ l.length ≤ maxLen
theorem RowField.below {W W' : World} {ao : Option Addr} {l : List XField} (h : RowField W ao l) (hb : Below W.heap.size W W') : RowField W' ao l := by
  obtain ⟨h, ho, hm⟩ := h
  refine ⟨?_, fun x hx => (ho x hx).below hb, hm⟩
  rcases h with h | ⟨b, off, e, hlt, hc⟩
  · exact .inl h
  · refine .inr ⟨b, off, e, Nat.lt_of_lt_of_le hlt hb.size, fun i s hi => ?_⟩
    obtain ⟨c0, c1⟩ := hc i s hi
    exact ⟨(hb.cell (p := ⟨b, off + i * 2, none⟩) hlt).trans c0, (hb.cell (p := ⟨b, off + i * 2 + 1, none⟩) hlt).trans c1⟩
theorem cellsOfSlField : Tryz.prog.cellsOf 31 = 1 := by kernel_rfl
theorem openrField {H : Type} {enc : TypeId × Value → H} {W : World} {k : Nat} {cs : List Value} {y : DataW H × List MemPlace}
    (h : DataW.trod enc Tryz.prog W 0 (fun _ => true) true k 31 cs = some y) :
    ∃ (ao : Option Addr) (l : List XField) (cap : Nat), cs = [.slice ao l.length cap] ∧ RowField W ao l ∧ l.length ≤ cap ∧ (l = [] ∨ ∃ es ss, y.1 = .slice es ss ∧ es.length = l.length) := by
  rcases open_slice Tryz.underlying31 h with ⟨rfl, rfl⟩ | ⟨a, len, cap, mm, nn, D, Pl, rfl, _, hl, hm, hmm, hx, hel⟩
  · exact ⟨none, [], 0, rfl, ⟨.inl rfl, by simp, by simp⟩, Nat.le_refl _, .inl rfl⟩
  · simp only [if_true] at hmm
    rw [cellsOfField] at hel
    obtain ⟨F, hF⟩ := choose_lt (α := XField) (n := mm) (p := fun i x => (W.cell? ((a.add (i * 2)).add 0) = some (.int .i64 x.tag) ∧ W.cell? ((a.add (i * 2)).add 1) = some (.int .i64 x.len)) ∧ okField W x) (fun i hi => by
      obtain ⟨cs', h1, h2⟩ := hel i hi
      obtain ⟨x, rfl, hok⟩ := opencField h2
      obtain ⟨_, _, hc⟩ := World.cells?_some h1
      exact ⟨x, ⟨hc 0 (by omega), hc 1 (by omega)⟩, hok⟩)
    refine ⟨some a, (List.range len).map F, cap, by simp, ⟨?_, ?_, by rw [List.length_map, List.length_range]; omega⟩, by rw [List.length_map, List.length_range]; exact hl, .inr ⟨_, _, by rw [hx], by simp⟩⟩
    · by_cases hl0 : len = 0
      · subst hl0; exact .inl rfl
      · obtain ⟨b, off, spot⟩ := a
        have hc0 := (hF 0 (by omega)).1.1
        have hspot : spot = none := by simpa [Addr.add] using World.cell?_spot hc0
        subst hspot
        refine .inr ⟨b, off, rfl, by simpa [Addr.add] using cell_ltR hc0, fun i x hi => ?_⟩
        have hi' : i < len := by
          rcases Nat.lt_or_ge i len with h | h
          · exact h
          · rw [List.getElem?_eq_none (by simpa using h)] at hi; cases hi
        rw [List.getElem?_map, List.getElem?_range hi'] at hi
        obtain rfl : F i = x := by simpa using hi
        have := (hF i (by omega)).1
        simp only [WideShapes.add_plain, Nat.add_zero] at this
        exact this
    · intro x hx
      obtain ⟨i, hi, rfl⟩ := List.mem_map.1 hx
      exact (hF i (by have : i < len := by simpa using hi
                      omega)).2
theorem openRField {H : Type} {enc : TypeId × Value → H} {W : World} {b0 : Nat} {r : Reach} {v : Value} {d : DataW H} {p : List MemPlace}
    (hv : Value.okWide Tryz.prog W r b0 31 v) (h : DataW.Trod enc Tryz.prog W 0 (fun _ => true) true 31 v d p) : ∃ (ao : Option Addr) (l : List XField) (cap : Nat), v = .slice ao l.length cap ∧ RowField W ao l ∧ (l = [] ∨ ∃ es ss, d = .slice es ss ∧ es.length = l.length) := by
  obtain ⟨a0, len, cap, rfl⟩ := okWide_slice Tryz.underlying31 hv
  obtain ⟨fuel, hf⟩ := h
  obtain ⟨ao, l, cap', hx, hr, _, hd⟩ := openrField hf
  simp [Value.cells] at hx
  obtain ⟨rfl, rfl, rfl⟩ := hx
  exact ⟨_, l, _, rfl, hr, hd⟩
structure XFile where
  id : ByteArray
  appso : Option Addr
  apps : List XApp
  appsc : Nat
  issuer : XCert
  card : XCert
  ways : XWays
  masks : XMasks
  rowo : Option Addr
  row : List XField
  rowc : Nat
deriving Inhabited
def valFile (x : XFile) : Value := .agg #[.string x.id, .slice x.appso x.apps.length x.appsc, .string x.issuer.sig, .string x.issuer.rest, .string x.card.sig, .string x.card.rest, .int .i64 x.ways.x, .int .i64 x.ways.y, .slice x.ways.listo x.ways.list.length x.ways.listc, .int .i64 x.masks.d, .int .i64 x.masks.o, .int .i64 x.masks.f, .slice x.rowo x.row.length x.rowc]
def okFile (W : World) (x : XFile) : Prop := x.id.size ≤ maxLen ∧ RowApp W x.appso x.apps ∧ okCert W x.issuer ∧ okCert W x.card ∧ okWays W x.ways ∧ okMasks W x.masks ∧ RowField W x.rowo x.row
theorem cellsOfFile : Tryz.prog.cellsOf 33 = 13 := by kernel_rfl
theorem okFile.below {W W' : World} {x : XFile} (h : okFile W x) (hb : Below W.heap.size W W') : okFile W' x := by
  obtain ⟨h0, h1, h2, h3, h4, h5, h6⟩ := h
  exact ⟨h0, h1.below hb, h2.below hb, h3.below hb, h4.below hb, h5.below hb, h6.below hb⟩
theorem opencFile {H : Type} {enc : TypeId × Value → H} {W : World} {k : Nat} {cs : List Value} {y : DataW H × List MemPlace}
    (h : DataW.trod enc Tryz.prog W 0 (fun _ => true) true k 33 cs = some y) :
    ∃ x : XFile, cs = [.string x.id, .slice x.appso x.apps.length x.appsc, .string x.issuer.sig, .string x.issuer.rest, .string x.card.sig, .string x.card.rest, .int .i64 x.ways.x, .int .i64 x.ways.y, .slice x.ways.listo x.ways.list.length x.ways.listc, .int .i64 x.masks.d, .int .i64 x.masks.o, .int .i64 x.masks.f, .slice x.rowo x.row.length x.rowc] ∧ okFile W x := by
  obtain ⟨xs, k', _, _, hsz, hlen, hq⟩ := DataW.trod_struct Tryz.underlying33 h
  rw [cellsOfFile] at hsz
  match cs, hsz with
  | [c0, c1, c2, c3, c4, c5, c6, c7, c8, c9, c10, c11, c12], _ =>
    match xs, hlen with
    | [y0, y1, y2, y3, y4, y5, y6], _ =>
      have h0 : DataW.trod enc Tryz.prog W 0 (fun _ => true) true k' 9 [c0] = some y0 := by simpa [cellsOfBool, cellsOfCert, cellsOfInt, cellsOfMasks, cellsOfSlApp, cellsOfSlField, cellsOfString, cellsOfWays] using hq 0 _ rfl
      obtain ⟨z0, e0, g0, w0⟩ := DataW.trod_string Tryz.underlying9 h0
      have h1 : DataW.trod enc Tryz.prog W 0 (fun _ => true) true k' 23 [c1] = some y1 := by simpa [cellsOfBool, cellsOfCert, cellsOfInt, cellsOfMasks, cellsOfSlApp, cellsOfSlField, cellsOfString, cellsOfWays] using hq 1 _ rfl
      obtain ⟨zo1, z1, zc1, e1, w1, wc1, _⟩ := openrApp h1
      have h2 : DataW.trod enc Tryz.prog W 0 (fun _ => true) true k' 25 [c2, c3] = some y2 := by simpa [cellsOfBool, cellsOfCert, cellsOfInt, cellsOfMasks, cellsOfSlApp, cellsOfSlField, cellsOfString, cellsOfWays] using hq 2 _ rfl
      obtain ⟨z2, e2, w2⟩ := opencCert h2
      have h3 : DataW.trod enc Tryz.prog W 0 (fun _ => true) true k' 25 [c4, c5] = some y3 := by simpa [cellsOfBool, cellsOfCert, cellsOfInt, cellsOfMasks, cellsOfSlApp, cellsOfSlField, cellsOfString, cellsOfWays] using hq 3 _ rfl
      obtain ⟨z3, e3, w3⟩ := opencCert h3
      have h4 : DataW.trod enc Tryz.prog W 0 (fun _ => true) true k' 28 [c6, c7, c8] = some y4 := by simpa [cellsOfBool, cellsOfCert, cellsOfInt, cellsOfMasks, cellsOfSlApp, cellsOfSlField, cellsOfString, cellsOfWays] using hq 4 _ rfl
      obtain ⟨z4, e4, w4⟩ := opencWays h4
      have h5 : DataW.trod enc Tryz.prog W 0 (fun _ => true) true k' 30 [c9, c10, c11] = some y5 := by simpa [cellsOfBool, cellsOfCert, cellsOfInt, cellsOfMasks, cellsOfSlApp, cellsOfSlField, cellsOfString, cellsOfWays] using hq 5 _ rfl
      obtain ⟨z5, e5, w5⟩ := opencMasks h5
      have h6 : DataW.trod enc Tryz.prog W 0 (fun _ => true) true k' 31 [c12] = some y6 := by simpa [cellsOfBool, cellsOfCert, cellsOfInt, cellsOfMasks, cellsOfSlApp, cellsOfSlField, cellsOfString, cellsOfWays] using hq 6 _ rfl
      obtain ⟨zo6, z6, zc6, e6, w6, wc6, _⟩ := openrField h6
      simp at e0 e1 e2 e3 e4 e5 e6
      subst e0
      subst e1
      obtain ⟨rfl, rfl⟩ := e2
      obtain ⟨rfl, rfl⟩ := e3
      obtain ⟨rfl, rfl, rfl⟩ := e4
      obtain ⟨rfl, rfl, rfl⟩ := e5
      subst e6
      exact ⟨⟨z0, zo1, z1, zc1, z2, z3, z4, z5, zo6, z6, zc6⟩, rfl, ⟨w0, w1, w2, w3, w4, w5, w6⟩⟩
theorem openFile {H : Type} {enc : TypeId × Value → H} {W : World} {b0 : Nat} {r : Reach} {v : Value} {d : DataW H} {p : List MemPlace}
    (hv : Value.okWide Tryz.prog W r b0 33 v) (h : DataW.Trod enc Tryz.prog W 0 (fun _ => true) true 33 v d p) : ∃ x : XFile, v = valFile x ∧ okFile W x := by
  obtain ⟨cs, rfl, hsz⟩ := okWide_struct Tryz.underlying33 hv
  obtain ⟨fuel, hf⟩ := h
  obtain ⟨x, hx, ho⟩ := opencFile hf
  obtain ⟨l⟩ := cs
  simp only [Value.cells] at hx
  subst hx
  exact ⟨x, rfl, ho⟩
def bulkFile (x : XFile) : Nat := x.id.size + x.apps.length + bulkCert x.issuer + bulkCert x.card + bulkWays x.ways + bulkMasks x.masks + x.row.length
theorem opencbFile {H : Type} {enc : TypeId × Value → H} {W : World} {k : Nat} {cs : List Value} {y : DataW H × List MemPlace}
    (h : DataW.trod enc Tryz.prog W 0 (fun _ => true) true k 33 cs = some y) :
    ∃ x : XFile, cs = [.string x.id, .slice x.appso x.apps.length x.appsc, .string x.issuer.sig, .string x.issuer.rest, .string x.card.sig, .string x.card.rest, .int .i64 x.ways.x, .int .i64 x.ways.y, .slice x.ways.listo x.ways.list.length x.ways.listc, .int .i64 x.masks.d, .int .i64 x.masks.o, .int .i64 x.masks.f, .slice x.rowo x.row.length x.rowc] ∧ okFile W x ∧ bulkFile x ≤ Rows.uptoBulk y.1 := by
  obtain ⟨xs, k', _, hagg, hsz, hlen, hq⟩ := DataW.trod_struct Tryz.underlying33 h
  rw [cellsOfFile] at hsz
  match cs, hsz with
  | [c0, c1, c2, c3, c4, c5, c6, c7, c8, c9, c10, c11, c12], _ =>
    match xs, hlen, hagg with
    | [y0, y1, y2, y3, y4, y5, y6], _, hagg =>
      have hbk := congrArg Rows.uptoBulk (Prod.ext_iff.1 hagg).1
      have h0 : DataW.trod enc Tryz.prog W 0 (fun _ => true) true k' 9 [c0] = some y0 := by simpa [cellsOfBool, cellsOfCert, cellsOfInt, cellsOfMasks, cellsOfSlApp, cellsOfSlField, cellsOfString, cellsOfWays] using hq 0 _ rfl
      obtain ⟨z0, e0, g0, w0⟩ := DataW.trod_string Tryz.underlying9 h0
      have l0 : z0.data.toList.length = z0.size := by simp
      subst g0
      have h1 : DataW.trod enc Tryz.prog W 0 (fun _ => true) true k' 23 [c1] = some y1 := by simpa [cellsOfBool, cellsOfCert, cellsOfInt, cellsOfMasks, cellsOfSlApp, cellsOfSlField, cellsOfString, cellsOfWays] using hq 1 _ rfl
      obtain ⟨zo1, z1, zc1, e1, w1, wc1, hl1⟩ := openrApp h1
      have b1 : z1.length ≤ Rows.uptoBulk y1.1 := by
        rcases hl1 with hd | ⟨es, ss, hd, hes⟩
        · rw [hd]; simp
        · rw [hd]
          simp only [Rows.uptoBulk]
          have := bulkAll_length (es := es)
          omega
      have h2 : DataW.trod enc Tryz.prog W 0 (fun _ => true) true k' 25 [c2, c3] = some y2 := by simpa [cellsOfBool, cellsOfCert, cellsOfInt, cellsOfMasks, cellsOfSlApp, cellsOfSlField, cellsOfString, cellsOfWays] using hq 2 _ rfl
      obtain ⟨z2, e2, w2, b2⟩ := opencbCert h2
      have h3 : DataW.trod enc Tryz.prog W 0 (fun _ => true) true k' 25 [c4, c5] = some y3 := by simpa [cellsOfBool, cellsOfCert, cellsOfInt, cellsOfMasks, cellsOfSlApp, cellsOfSlField, cellsOfString, cellsOfWays] using hq 3 _ rfl
      obtain ⟨z3, e3, w3, b3⟩ := opencbCert h3
      have h4 : DataW.trod enc Tryz.prog W 0 (fun _ => true) true k' 28 [c6, c7, c8] = some y4 := by simpa [cellsOfBool, cellsOfCert, cellsOfInt, cellsOfMasks, cellsOfSlApp, cellsOfSlField, cellsOfString, cellsOfWays] using hq 4 _ rfl
      obtain ⟨z4, e4, w4, b4⟩ := opencbWays h4
      have h5 : DataW.trod enc Tryz.prog W 0 (fun _ => true) true k' 30 [c9, c10, c11] = some y5 := by simpa [cellsOfBool, cellsOfCert, cellsOfInt, cellsOfMasks, cellsOfSlApp, cellsOfSlField, cellsOfString, cellsOfWays] using hq 5 _ rfl
      obtain ⟨z5, e5, w5, b5⟩ := opencbMasks h5
      have h6 : DataW.trod enc Tryz.prog W 0 (fun _ => true) true k' 31 [c12] = some y6 := by simpa [cellsOfBool, cellsOfCert, cellsOfInt, cellsOfMasks, cellsOfSlApp, cellsOfSlField, cellsOfString, cellsOfWays] using hq 6 _ rfl
      obtain ⟨zo6, z6, zc6, e6, w6, wc6, hl6⟩ := openrField h6
      have b6 : z6.length ≤ Rows.uptoBulk y6.1 := by
        rcases hl6 with hd | ⟨es, ss, hd, hes⟩
        · rw [hd]; simp
        · rw [hd]
          simp only [Rows.uptoBulk]
          have := bulkAll_length (es := es)
          omega
      simp at e0 e1 e2 e3 e4 e5 e6
      subst e0
      subst e1
      obtain ⟨rfl, rfl⟩ := e2
      obtain ⟨rfl, rfl⟩ := e3
      obtain ⟨rfl, rfl, rfl⟩ := e4
      obtain ⟨rfl, rfl, rfl⟩ := e5
      subst e6
      refine ⟨⟨z0, zo1, z1, zc1, z2, z3, z4, z5, zo6, z6, zc6⟩, rfl, ⟨w0, w1, w2, w3, w4, w5, w6⟩, ?_⟩
      simp only [List.map_cons, List.map_nil, Rows.uptoBulk, Rows.uptoBulkAll] at hbk
      rw [hbk]
      unfold bulkFile
      dsimp only
      omega
theorem openbFile {H : Type} {enc : TypeId × Value → H} {W : World} {b0 : Nat} {r : Reach} {v : Value} {d : DataW H} {p : List MemPlace}
    (hv : Value.okWide Tryz.prog W r b0 33 v) (h : DataW.Trod enc Tryz.prog W 0 (fun _ => true) true 33 v d p) : ∃ x : XFile, v = valFile x ∧ okFile W x ∧ bulkFile x ≤ Rows.uptoBulk d := by
  obtain ⟨cs, rfl, hsz⟩ := okWide_struct Tryz.underlying33 hv
  obtain ⟨fuel, hf⟩ := h
  obtain ⟨x, hx, ho, hb⟩ := opencbFile hf
  obtain ⟨l⟩ := cs
  simp only [Value.cells] at hx
  subst hx
  exact ⟨x, rfl, ho, hb⟩
structure XReply where
  kind : Int
  count : Int
  sl : ByteArray
  bound : XCert
deriving Inhabited
def valReply (x : XReply) : Value := .agg #[.int .i64 x.kind, .int .i64 x.count, .string x.sl, .string x.bound.sig, .string x.bound.rest]
def okReply (W : World) (x : XReply) : Prop := (-9223372036854775808 ≤ x.kind ∧ x.kind ≤ 9223372036854775807) ∧ (-9223372036854775808 ≤ x.count ∧ x.count ≤ 9223372036854775807) ∧ x.sl.size ≤ maxLen ∧ okCert W x.bound
theorem cellsOfReply : Tryz.prog.cellsOf 35 = 5 := by kernel_rfl
theorem okReply.below {W W' : World} {x : XReply} (h : okReply W x) (hb : Below W.heap.size W W') : okReply W' x := by
  obtain ⟨h0, h1, h2, h3⟩ := h
  exact ⟨h0, h1, h2, h3.below hb⟩
theorem opencReply {H : Type} {enc : TypeId × Value → H} {W : World} {k : Nat} {cs : List Value} {y : DataW H × List MemPlace}
    (h : DataW.trod enc Tryz.prog W 0 (fun _ => true) true k 35 cs = some y) :
    ∃ x : XReply, cs = [.int .i64 x.kind, .int .i64 x.count, .string x.sl, .string x.bound.sig, .string x.bound.rest] ∧ okReply W x := by
  obtain ⟨xs, k', _, _, hsz, hlen, hq⟩ := DataW.trod_struct Tryz.underlying35 h
  rw [cellsOfReply] at hsz
  match cs, hsz with
  | [c0, c1, c2, c3, c4], _ =>
    match xs, hlen with
    | [y0, y1, y2, y3], _ =>
      have h0 : DataW.trod enc Tryz.prog W 0 (fun _ => true) true k' 3 [c0] = some y0 := by simpa [cellsOfBool, cellsOfCert, cellsOfInt, cellsOfString] using hq 0 _ rfl
      obtain ⟨z0, e0, g0, w0⟩ := DataW.trod_int Tryz.underlying3 h0
      have h1 : DataW.trod enc Tryz.prog W 0 (fun _ => true) true k' 3 [c1] = some y1 := by simpa [cellsOfBool, cellsOfCert, cellsOfInt, cellsOfString] using hq 1 _ rfl
      obtain ⟨z1, e1, g1, w1⟩ := DataW.trod_int Tryz.underlying3 h1
      have h2 : DataW.trod enc Tryz.prog W 0 (fun _ => true) true k' 9 [c2] = some y2 := by simpa [cellsOfBool, cellsOfCert, cellsOfInt, cellsOfString] using hq 2 _ rfl
      obtain ⟨z2, e2, g2, w2⟩ := DataW.trod_string Tryz.underlying9 h2
      have h3 : DataW.trod enc Tryz.prog W 0 (fun _ => true) true k' 25 [c3, c4] = some y3 := by simpa [cellsOfBool, cellsOfCert, cellsOfInt, cellsOfString] using hq 3 _ rfl
      obtain ⟨z3, e3, w3⟩ := opencCert h3
      simp at e0 e1 e2 e3
      subst e0
      subst e1
      subst e2
      obtain ⟨rfl, rfl⟩ := e3
      exact ⟨⟨z0, z1, z2, z3⟩, rfl, ⟨bounds_i64 w0, bounds_i64 w1, w2, w3⟩⟩
theorem openReply {H : Type} {enc : TypeId × Value → H} {W : World} {b0 : Nat} {r : Reach} {v : Value} {d : DataW H} {p : List MemPlace}
    (hv : Value.okWide Tryz.prog W r b0 35 v) (h : DataW.Trod enc Tryz.prog W 0 (fun _ => true) true 35 v d p) : ∃ x : XReply, v = valReply x ∧ okReply W x := by
  obtain ⟨cs, rfl, hsz⟩ := okWide_struct Tryz.underlying35 hv
  obtain ⟨fuel, hf⟩ := h
  obtain ⟨x, hx, ho⟩ := opencReply hf
  obtain ⟨l⟩ := cs
  simp only [Value.cells] at hx
  subst hx
  exact ⟨x, rfl, ho⟩
def bulkReply (x : XReply) : Nat := x.sl.size + bulkCert x.bound
theorem opencbReply {H : Type} {enc : TypeId × Value → H} {W : World} {k : Nat} {cs : List Value} {y : DataW H × List MemPlace}
    (h : DataW.trod enc Tryz.prog W 0 (fun _ => true) true k 35 cs = some y) :
    ∃ x : XReply, cs = [.int .i64 x.kind, .int .i64 x.count, .string x.sl, .string x.bound.sig, .string x.bound.rest] ∧ okReply W x ∧ bulkReply x ≤ Rows.uptoBulk y.1 := by
  obtain ⟨xs, k', _, hagg, hsz, hlen, hq⟩ := DataW.trod_struct Tryz.underlying35 h
  rw [cellsOfReply] at hsz
  match cs, hsz with
  | [c0, c1, c2, c3, c4], _ =>
    match xs, hlen, hagg with
    | [y0, y1, y2, y3], _, hagg =>
      have hbk := congrArg Rows.uptoBulk (Prod.ext_iff.1 hagg).1
      have h0 : DataW.trod enc Tryz.prog W 0 (fun _ => true) true k' 3 [c0] = some y0 := by simpa [cellsOfBool, cellsOfCert, cellsOfInt, cellsOfString] using hq 0 _ rfl
      obtain ⟨z0, e0, g0, w0⟩ := DataW.trod_int Tryz.underlying3 h0
      subst g0
      have h1 : DataW.trod enc Tryz.prog W 0 (fun _ => true) true k' 3 [c1] = some y1 := by simpa [cellsOfBool, cellsOfCert, cellsOfInt, cellsOfString] using hq 1 _ rfl
      obtain ⟨z1, e1, g1, w1⟩ := DataW.trod_int Tryz.underlying3 h1
      subst g1
      have h2 : DataW.trod enc Tryz.prog W 0 (fun _ => true) true k' 9 [c2] = some y2 := by simpa [cellsOfBool, cellsOfCert, cellsOfInt, cellsOfString] using hq 2 _ rfl
      obtain ⟨z2, e2, g2, w2⟩ := DataW.trod_string Tryz.underlying9 h2
      have l2 : z2.data.toList.length = z2.size := by simp
      subst g2
      have h3 : DataW.trod enc Tryz.prog W 0 (fun _ => true) true k' 25 [c3, c4] = some y3 := by simpa [cellsOfBool, cellsOfCert, cellsOfInt, cellsOfString] using hq 3 _ rfl
      obtain ⟨z3, e3, w3, b3⟩ := opencbCert h3
      simp at e0 e1 e2 e3
      subst e0
      subst e1
      subst e2
      obtain ⟨rfl, rfl⟩ := e3
      refine ⟨⟨z0, z1, z2, z3⟩, rfl, ⟨bounds_i64 w0, bounds_i64 w1, w2, w3⟩, ?_⟩
      simp only [List.map_cons, List.map_nil, Rows.uptoBulk, Rows.uptoBulkAll] at hbk
      rw [hbk]
      unfold bulkReply
      dsimp only
      omega
theorem openbReply {H : Type} {enc : TypeId × Value → H} {W : World} {b0 : Nat} {r : Reach} {v : Value} {d : DataW H} {p : List MemPlace}
    (hv : Value.okWide Tryz.prog W r b0 35 v) (h : DataW.Trod enc Tryz.prog W 0 (fun _ => true) true 35 v d p) : ∃ x : XReply, v = valReply x ∧ okReply W x ∧ bulkReply x ≤ Rows.uptoBulk d := by
  obtain ⟨cs, rfl, hsz⟩ := okWide_struct Tryz.underlying35 hv
  obtain ⟨fuel, hf⟩ := h
  obtain ⟨x, hx, ho, hb⟩ := opencbReply hf
  obtain ⟨l⟩ := cs
  simp only [Value.cells] at hx
  subst hx
  exact ⟨x, rfl, ho, hb⟩
structure XAnswer where
  er : Int
  dO : Int
  appso : Option Addr
  apps : List XApp
  appsc : Nat
  count : Int
  last : Int
  left : Int
  file : XFile
  reply : XReply
deriving Inhabited
def valAnswer (x : XAnswer) : Value := .agg #[.int .i64 x.er, .int .i64 x.dO, .slice x.appso x.apps.length x.appsc, .int .i64 x.count, .int .i64 x.last, .int .i64 x.left, .string x.file.id, .slice x.file.appso x.file.apps.length x.file.appsc, .string x.file.issuer.sig, .string x.file.issuer.rest, .string x.file.card.sig, .string x.file.card.rest, .int .i64 x.file.ways.x, .int .i64 x.file.ways.y, .slice x.file.ways.listo x.file.ways.list.length x.file.ways.listc, .int .i64 x.file.masks.d, .int .i64 x.file.masks.o, .int .i64 x.file.masks.f, .slice x.file.rowo x.file.row.length x.file.rowc, .int .i64 x.reply.kind, .int .i64 x.reply.count, .string x.reply.sl, .string x.reply.bound.sig, .string x.reply.bound.rest]
def okAnswer (W : World) (x : XAnswer) : Prop := (-9223372036854775808 ≤ x.er ∧ x.er ≤ 9223372036854775807) ∧ (-9223372036854775808 ≤ x.dO ∧ x.dO ≤ 9223372036854775807) ∧ RowApp W x.appso x.apps ∧ (-9223372036854775808 ≤ x.count ∧ x.count ≤ 9223372036854775807) ∧ (-9223372036854775808 ≤ x.last ∧ x.last ≤ 9223372036854775807) ∧ (-9223372036854775808 ≤ x.left ∧ x.left ≤ 9223372036854775807) ∧ okFile W x.file ∧ okReply W x.reply
theorem cellsOfAnswer : Tryz.prog.cellsOf 37 = 24 := by kernel_rfl
theorem okAnswer.below {W W' : World} {x : XAnswer} (h : okAnswer W x) (hb : Below W.heap.size W W') : okAnswer W' x := by
  obtain ⟨h0, h1, h2, h3, h4, h5, h6, h7⟩ := h
  exact ⟨h0, h1, h2.below hb, h3, h4, h5, h6.below hb, h7.below hb⟩
theorem opencAnswer {H : Type} {enc : TypeId × Value → H} {W : World} {k : Nat} {cs : List Value} {y : DataW H × List MemPlace}
    (h : DataW.trod enc Tryz.prog W 0 (fun _ => true) true k 37 cs = some y) :
    ∃ x : XAnswer, cs = [.int .i64 x.er, .int .i64 x.dO, .slice x.appso x.apps.length x.appsc, .int .i64 x.count, .int .i64 x.last, .int .i64 x.left, .string x.file.id, .slice x.file.appso x.file.apps.length x.file.appsc, .string x.file.issuer.sig, .string x.file.issuer.rest, .string x.file.card.sig, .string x.file.card.rest, .int .i64 x.file.ways.x, .int .i64 x.file.ways.y, .slice x.file.ways.listo x.file.ways.list.length x.file.ways.listc, .int .i64 x.file.masks.d, .int .i64 x.file.masks.o, .int .i64 x.file.masks.f, .slice x.file.rowo x.file.row.length x.file.rowc, .int .i64 x.reply.kind, .int .i64 x.reply.count, .string x.reply.sl, .string x.reply.bound.sig, .string x.reply.bound.rest] ∧ okAnswer W x := by
  obtain ⟨xs, k', _, _, hsz, hlen, hq⟩ := DataW.trod_struct Tryz.underlying37 h
  rw [cellsOfAnswer] at hsz
  match cs, hsz with
  | [c0, c1, c2, c3, c4, c5, c6, c7, c8, c9, c10, c11, c12, c13, c14, c15, c16, c17, c18, c19, c20, c21, c22, c23], _ =>
    match xs, hlen with
    | [y0, y1, y2, y3, y4, y5, y6, y7], _ =>
      have h0 : DataW.trod enc Tryz.prog W 0 (fun _ => true) true k' 22 [c0] = some y0 := by simpa [cellsOfBool, cellsOfErrno, cellsOfFile, cellsOfInt, cellsOfReply, cellsOfSlApp, cellsOfString] using hq 0 _ rfl
      obtain ⟨z0, e0, g0, w0⟩ := DataW.trod_int Tryz.underlying22 h0
      have h1 : DataW.trod enc Tryz.prog W 0 (fun _ => true) true k' 3 [c1] = some y1 := by simpa [cellsOfBool, cellsOfErrno, cellsOfFile, cellsOfInt, cellsOfReply, cellsOfSlApp, cellsOfString] using hq 1 _ rfl
      obtain ⟨z1, e1, g1, w1⟩ := DataW.trod_int Tryz.underlying3 h1
      have h2 : DataW.trod enc Tryz.prog W 0 (fun _ => true) true k' 23 [c2] = some y2 := by simpa [cellsOfBool, cellsOfErrno, cellsOfFile, cellsOfInt, cellsOfReply, cellsOfSlApp, cellsOfString] using hq 2 _ rfl
      obtain ⟨zo2, z2, zc2, e2, w2, wc2, _⟩ := openrApp h2
      have h3 : DataW.trod enc Tryz.prog W 0 (fun _ => true) true k' 3 [c3] = some y3 := by simpa [cellsOfBool, cellsOfErrno, cellsOfFile, cellsOfInt, cellsOfReply, cellsOfSlApp, cellsOfString] using hq 3 _ rfl
      obtain ⟨z3, e3, g3, w3⟩ := DataW.trod_int Tryz.underlying3 h3
      have h4 : DataW.trod enc Tryz.prog W 0 (fun _ => true) true k' 3 [c4] = some y4 := by simpa [cellsOfBool, cellsOfErrno, cellsOfFile, cellsOfInt, cellsOfReply, cellsOfSlApp, cellsOfString] using hq 4 _ rfl
      obtain ⟨z4, e4, g4, w4⟩ := DataW.trod_int Tryz.underlying3 h4
      have h5 : DataW.trod enc Tryz.prog W 0 (fun _ => true) true k' 3 [c5] = some y5 := by simpa [cellsOfBool, cellsOfErrno, cellsOfFile, cellsOfInt, cellsOfReply, cellsOfSlApp, cellsOfString] using hq 5 _ rfl
      obtain ⟨z5, e5, g5, w5⟩ := DataW.trod_int Tryz.underlying3 h5
      have h6 : DataW.trod enc Tryz.prog W 0 (fun _ => true) true k' 33 [c6, c7, c8, c9, c10, c11, c12, c13, c14, c15, c16, c17, c18] = some y6 := by simpa [cellsOfBool, cellsOfErrno, cellsOfFile, cellsOfInt, cellsOfReply, cellsOfSlApp, cellsOfString] using hq 6 _ rfl
      obtain ⟨z6, e6, w6⟩ := opencFile h6
      have h7 : DataW.trod enc Tryz.prog W 0 (fun _ => true) true k' 35 [c19, c20, c21, c22, c23] = some y7 := by simpa [cellsOfBool, cellsOfErrno, cellsOfFile, cellsOfInt, cellsOfReply, cellsOfSlApp, cellsOfString] using hq 7 _ rfl
      obtain ⟨z7, e7, w7⟩ := opencReply h7
      simp at e0 e1 e2 e3 e4 e5 e6 e7
      subst e0
      subst e1
      subst e2
      subst e3
      subst e4
      subst e5
      obtain ⟨rfl, rfl, rfl, rfl, rfl, rfl, rfl, rfl, rfl, rfl, rfl, rfl, rfl⟩ := e6
      obtain ⟨rfl, rfl, rfl, rfl, rfl⟩ := e7
      exact ⟨⟨z0, z1, zo2, z2, zc2, z3, z4, z5, z6, z7⟩, rfl, ⟨bounds_i64 w0, bounds_i64 w1, w2, bounds_i64 w3, bounds_i64 w4, bounds_i64 w5, w6, w7⟩⟩
theorem openAnswer {H : Type} {enc : TypeId × Value → H} {W : World} {b0 : Nat} {r : Reach} {v : Value} {d : DataW H} {p : List MemPlace}
    (hv : Value.okWide Tryz.prog W r b0 37 v) (h : DataW.Trod enc Tryz.prog W 0 (fun _ => true) true 37 v d p) : ∃ x : XAnswer, v = valAnswer x ∧ okAnswer W x := by
  obtain ⟨cs, rfl, hsz⟩ := okWide_struct Tryz.underlying37 hv
  obtain ⟨fuel, hf⟩ := h
  obtain ⟨x, hx, ho⟩ := opencAnswer hf
  obtain ⟨l⟩ := cs
  simp only [Value.cells] at hx
  subst hx
  exact ⟨x, rfl, ho⟩
def bulkAnswer (x : XAnswer) : Nat := x.apps.length + bulkFile x.file + bulkReply x.reply
theorem opencbAnswer {H : Type} {enc : TypeId × Value → H} {W : World} {k : Nat} {cs : List Value} {y : DataW H × List MemPlace}
    (h : DataW.trod enc Tryz.prog W 0 (fun _ => true) true k 37 cs = some y) :
    ∃ x : XAnswer, cs = [.int .i64 x.er, .int .i64 x.dO, .slice x.appso x.apps.length x.appsc, .int .i64 x.count, .int .i64 x.last, .int .i64 x.left, .string x.file.id, .slice x.file.appso x.file.apps.length x.file.appsc, .string x.file.issuer.sig, .string x.file.issuer.rest, .string x.file.card.sig, .string x.file.card.rest, .int .i64 x.file.ways.x, .int .i64 x.file.ways.y, .slice x.file.ways.listo x.file.ways.list.length x.file.ways.listc, .int .i64 x.file.masks.d, .int .i64 x.file.masks.o, .int .i64 x.file.masks.f, .slice x.file.rowo x.file.row.length x.file.rowc, .int .i64 x.reply.kind, .int .i64 x.reply.count, .string x.reply.sl, .string x.reply.bound.sig, .string x.reply.bound.rest] ∧ okAnswer W x ∧ bulkAnswer x ≤ Rows.uptoBulk y.1 := by
  obtain ⟨xs, k', _, hagg, hsz, hlen, hq⟩ := DataW.trod_struct Tryz.underlying37 h
  rw [cellsOfAnswer] at hsz
  match cs, hsz with
  | [c0, c1, c2, c3, c4, c5, c6, c7, c8, c9, c10, c11, c12, c13, c14, c15, c16, c17, c18, c19, c20, c21, c22, c23], _ =>
    match xs, hlen, hagg with
    | [y0, y1, y2, y3, y4, y5, y6, y7], _, hagg =>
      have hbk := congrArg Rows.uptoBulk (Prod.ext_iff.1 hagg).1
      have h0 : DataW.trod enc Tryz.prog W 0 (fun _ => true) true k' 22 [c0] = some y0 := by simpa [cellsOfBool, cellsOfErrno, cellsOfFile, cellsOfInt, cellsOfReply, cellsOfSlApp, cellsOfString] using hq 0 _ rfl
      obtain ⟨z0, e0, g0, w0⟩ := DataW.trod_int Tryz.underlying22 h0
      subst g0
      have h1 : DataW.trod enc Tryz.prog W 0 (fun _ => true) true k' 3 [c1] = some y1 := by simpa [cellsOfBool, cellsOfErrno, cellsOfFile, cellsOfInt, cellsOfReply, cellsOfSlApp, cellsOfString] using hq 1 _ rfl
      obtain ⟨z1, e1, g1, w1⟩ := DataW.trod_int Tryz.underlying3 h1
      subst g1
      have h2 : DataW.trod enc Tryz.prog W 0 (fun _ => true) true k' 23 [c2] = some y2 := by simpa [cellsOfBool, cellsOfErrno, cellsOfFile, cellsOfInt, cellsOfReply, cellsOfSlApp, cellsOfString] using hq 2 _ rfl
      obtain ⟨zo2, z2, zc2, e2, w2, wc2, hl2⟩ := openrApp h2
      have b2 : z2.length ≤ Rows.uptoBulk y2.1 := by
        rcases hl2 with hd | ⟨es, ss, hd, hes⟩
        · rw [hd]; simp
        · rw [hd]
          simp only [Rows.uptoBulk]
          have := bulkAll_length (es := es)
          omega
      have h3 : DataW.trod enc Tryz.prog W 0 (fun _ => true) true k' 3 [c3] = some y3 := by simpa [cellsOfBool, cellsOfErrno, cellsOfFile, cellsOfInt, cellsOfReply, cellsOfSlApp, cellsOfString] using hq 3 _ rfl
      obtain ⟨z3, e3, g3, w3⟩ := DataW.trod_int Tryz.underlying3 h3
      subst g3
      have h4 : DataW.trod enc Tryz.prog W 0 (fun _ => true) true k' 3 [c4] = some y4 := by simpa [cellsOfBool, cellsOfErrno, cellsOfFile, cellsOfInt, cellsOfReply, cellsOfSlApp, cellsOfString] using hq 4 _ rfl
      obtain ⟨z4, e4, g4, w4⟩ := DataW.trod_int Tryz.underlying3 h4
      subst g4
      have h5 : DataW.trod enc Tryz.prog W 0 (fun _ => true) true k' 3 [c5] = some y5 := by simpa [cellsOfBool, cellsOfErrno, cellsOfFile, cellsOfInt, cellsOfReply, cellsOfSlApp, cellsOfString] using hq 5 _ rfl
      obtain ⟨z5, e5, g5, w5⟩ := DataW.trod_int Tryz.underlying3 h5
      subst g5
      have h6 : DataW.trod enc Tryz.prog W 0 (fun _ => true) true k' 33 [c6, c7, c8, c9, c10, c11, c12, c13, c14, c15, c16, c17, c18] = some y6 := by simpa [cellsOfBool, cellsOfErrno, cellsOfFile, cellsOfInt, cellsOfReply, cellsOfSlApp, cellsOfString] using hq 6 _ rfl
      obtain ⟨z6, e6, w6, b6⟩ := opencbFile h6
      have h7 : DataW.trod enc Tryz.prog W 0 (fun _ => true) true k' 35 [c19, c20, c21, c22, c23] = some y7 := by simpa [cellsOfBool, cellsOfErrno, cellsOfFile, cellsOfInt, cellsOfReply, cellsOfSlApp, cellsOfString] using hq 7 _ rfl
      obtain ⟨z7, e7, w7, b7⟩ := opencbReply h7
      simp at e0 e1 e2 e3 e4 e5 e6 e7
      subst e0
      subst e1
      subst e2
      subst e3
      subst e4
      subst e5
      obtain ⟨rfl, rfl, rfl, rfl, rfl, rfl, rfl, rfl, rfl, rfl, rfl, rfl, rfl⟩ := e6
      obtain ⟨rfl, rfl, rfl, rfl, rfl⟩ := e7
      refine ⟨⟨z0, z1, zo2, z2, zc2, z3, z4, z5, z6, z7⟩, rfl, ⟨bounds_i64 w0, bounds_i64 w1, w2, bounds_i64 w3, bounds_i64 w4, bounds_i64 w5, w6, w7⟩, ?_⟩
      simp only [List.map_cons, List.map_nil, Rows.uptoBulk, Rows.uptoBulkAll] at hbk
      rw [hbk]
      unfold bulkAnswer
      dsimp only
      omega
theorem openbAnswer {H : Type} {enc : TypeId × Value → H} {W : World} {b0 : Nat} {r : Reach} {v : Value} {d : DataW H} {p : List MemPlace}
    (hv : Value.okWide Tryz.prog W r b0 37 v) (h : DataW.Trod enc Tryz.prog W 0 (fun _ => true) true 37 v d p) : ∃ x : XAnswer, v = valAnswer x ∧ okAnswer W x ∧ bulkAnswer x ≤ Rows.uptoBulk d := by
  obtain ⟨cs, rfl, hsz⟩ := okWide_struct Tryz.underlying37 hv
  obtain ⟨fuel, hf⟩ := h
  obtain ⟨x, hx, ho, hb⟩ := opencbAnswer hf
  obtain ⟨l⟩ := cs
  simp only [Value.cells] at hx
  subst hx
  exact ⟨x, rfl, ho, hb⟩
def pairF (x : XField) : Int × Int := (x.tag, x.len)
def flOf (x : XFile) : Fl := ⟨x.id, x.appso, x.apps, x.appsc, x.issuer.sig, x.issuer.rest, x.card.sig, x.card.rest, x.ways, x.masks.d, x.masks.o, x.masks.f, x.rowo, x.row.map pairF, x.rowc⟩
def anOf (x : XAnswer) : An := ⟨x.er, x.dO, x.appso, x.apps, x.appsc, x.count, x.last, x.left, flOf x.file, x.reply.kind, x.reply.count, x.reply.sl, x.reply.bound.sig, x.reply.bound.rest⟩
theorem valAn (x : XAnswer) : valAnswer x = .agg (anC (anOf x)) := by
  have e : (x.file.row.map pairF).length = x.file.row.length := List.length_map ..
  show _ = Value.agg #[.int .i64 x.er, .int .i64 x.dO, .slice x.appso x.apps.length x.appsc, .int .i64 x.count, .int .i64 x.last, .int .i64 x.left, .string x.file.id, .slice x.file.appso x.file.apps.length x.file.appsc, .string x.file.issuer.sig, .string x.file.issuer.rest, .string x.file.card.sig, .string x.file.card.rest, .int .i64 x.file.ways.x, .int .i64 x.file.ways.y, .slice x.file.ways.listo x.file.ways.list.length x.file.ways.listc, .int .i64 x.file.masks.d, .int .i64 x.file.masks.o, .int .i64 x.file.masks.f, .slice x.file.rowo (x.file.row.map pairF).length x.file.rowc, .int .i64 x.reply.kind, .int .i64 x.reply.count, .string x.reply.sl, .string x.reply.bound.sig, .string x.reply.bound.rest]
  rw [e]; rfl
theorem frow_field {W : World} {ao : Option Addr} {l : List XField} (h : RowField W ao l) : FRow W ao (l.map pairF) := by
  obtain ⟨h, _, _⟩ := h
  rcases h with rfl | ⟨b, off, e, hlt, hc⟩
  · exact .inl rfl
  · refine .inr ⟨b, off, e, hlt, fun i hi => ?_⟩
    rw [List.length_map] at hi
    have hx : l[i]? = some l[i] := List.getElem?_eq_getElem hi
    obtain ⟨c0, c1⟩ := hc i _ hx
    have e2 : (l.map pairF).getD i (0, 0) = pairF l[i] := by
      rw [List.getD_eq_getElem?_getD, List.getElem?_map, hx]; rfl
    rw [e2]
    exact ⟨c0, c1⟩
theorem okAn {W : World} {x : XAnswer} (h : okAnswer W x) (hb : bulkAnswer x ≤ 1048576) : AnOK W (anOf x) ∧ anZ (anOf x) ≤ 1048576 := by
  obtain ⟨h1, h2, h3, h4, h5, h6, ⟨f1, f2, ⟨f3, f4⟩, ⟨f5, f6⟩, ⟨f7, f8, f9⟩, ⟨f10, f11, f12⟩, f13⟩, ⟨r1, r2, r3, r4⟩⟩ := h
  have hbb : x.apps.length + (x.file.id.size + x.file.apps.length + (x.file.issuer.sig.size + x.file.issuer.rest.size) + (x.file.card.sig.size + x.file.card.rest.size) + x.file.ways.list.length + 0 + x.file.row.length) + (x.reply.sl.size + (x.reply.bound.sig.size + x.reply.bound.rest.size)) ≤ 1048576 := hb
  refine ⟨⟨h3, ⟨f1, f2, f9, frow_field f13, fun f hf => ?_, ?_, f10.2, f11.2, f12.2⟩, h1.2, h2.2, h4.2, h5.2, h6.2, r1.2, r2.2⟩, ?_⟩
  · obtain ⟨y, hy, rfl⟩ := List.mem_map.1 (show f ∈ x.file.row.map pairF from hf)
    exact (f13.2.1 y hy).1.2
  · show ((x.file.row.map pairF).length : Int) ≤ 9000000000000
    rw [List.length_map]; omega
  · show x.file.issuer.sig.size + x.file.issuer.rest.size + x.file.card.sig.size + x.file.card.rest.size + x.reply.sl.size + x.reply.bound.sig.size + x.reply.bound.rest.size ≤ 1048576
    omega
end Go.Proofs.YtfpglpefofcdeaaGreatDoor
namespace Go.Proofs.YtfpglpefofcdeaaGreatDoor
open Go.RowKit
set_option linter.unusedVariables false
set_option linter.unusedSimpArgs false
set_option maxRecDepth 100000

/-- a command's cells -/
def cmdC (c : XCommand) : List Value := [.int .i64 c.dO, .string c.name, .string c.digits, .int .i64 c.want, .int .i64 c.deal.shop, .int .i64 c.deal.trace, .int .i64 c.deal.amount, .bool c.deal.cash, .int .i64 c.deal.day, .int .i64 c.deal.bits, .string c.deal.nonce, .string c.extra, .string c.answer, .string c.orders]
theorem cmdC_val (c : XCommand) : valCommand c = .agg (cmdC c).toArray := rfl
theorem cmdC_one (c : XCommand) : (cmdC c).toArray.all (·.oneCell') = true := by simp [cmdC, Value.oneCell']
theorem infoCmd : (Tryz.prog.info? 48).map (·.size) = some 14 := by kernel_rfl
/-- a struct's cells, unread -/
structure CellsT (L : List Value) (n : Nat) : Prop where
  len : L.length = n
  one : L.toArray.all (·.oneCell') = true
theorem CellsT.size {L : List Value} {n : Nat} (h : CellsT L n) : L.toArray.size = n := by rw [List.size_toArray]; exact h.len
theorem CellsT.info {L : List Value} {n : Nat} {P : Program} {t : TypeId} (h : CellsT L n) (hi : (P.info? t).map (·.size) = some n) : (P.info? t).map (·.size) = some L.length := by rw [h.len]; exact hi
theorem CellsT.info2 {L : List Value} {n : Nat} {P : Program} {t : TypeId} (h : CellsT L n) (hi : (P.info? t).map (·.size) = some n) : (P.info? t).map (·.size) = some L.toArray.size := by rw [h.size]; exact hi
theorem cmdC_cells (c : XCommand) : CellsT (cmdC c) 14 := ⟨rfl, cmdC_one c⟩
theorem anC_cells (a : An) : CellsT (anC a).toList 24 := ⟨rfl, anC_one a⟩
theorem anC_list (a : An) : Value.agg (anC a) = .agg (anC a).toList.toArray := rfl
theorem parsesE_le {s : ByteArray} (h : parsesE s = 0) : s.size ≤ 65535 := by
  unfold parsesE at h
  split at h
  · cases h
  · omega
theorem readC_back {c : XCommand} (h : commandE c = 0) (hw : c.want ≤ 9223372036854775807) : readCL comF (commandS c) = c ∧ readCE comF (commandS c) = 0 ∧ (commandS c).size ≤ maxLen := by
  have e := (com_back h hw).1
  have hp := (cmd_parts h).2.2.2.1
  have hz := parsesE_le hp
  unfold readCL readCE readC
  rw [e, if_pos ⟨h, rfl⟩]
  exact ⟨rfl, rfl, by unfold maxLen; omega⟩
theorem readC_cases (s : ByteArray) : (readCE comF s = 1 ∧ readCL comF s = zeroC) ∨ (readCE comF s = 0 ∧ commandE (readCL comF s) = 0 ∧ commandS (readCL comF s) = s) := by
  unfold readCE readCL readC
  by_cases h : commandE (comF s) = 0 ∧ commandS (comF s) = s
  · rw [if_pos h]; exact .inr ⟨rfl, h.1, h.2⟩
  · rw [if_neg h]; exact .inl ⟨rfl, rfl⟩
theorem readCL_ok (s : ByteArray) (W : World) : okCommand W (readCL comF s) ∧ bulkCommand (readCL comF s) ≤ 0x100000 := by
  have h0 : okCommand W zeroC ∧ bulkCommand zeroC ≤ 0x100000 :=
    ⟨⟨⟨by decide, by decide⟩, Nat.zero_le _, Nat.zero_le _, ⟨by decide, by decide⟩, ⟨⟨by decide, by decide⟩, ⟨by decide, by decide⟩, ⟨by decide, by decide⟩, ⟨by decide, by decide⟩, ⟨by decide, by decide⟩, Nat.zero_le _⟩, Nat.zero_le _, Nat.zero_le _, Nat.zero_le _⟩, by decide⟩
  have hF : okCommand W (comF s) ∧ bulkCommand (comF s) ≤ 0x100000 := by
    unfold comF
    split
    · exact comP_ok (parsesL s) W (parses_wt s)
    · exact h0
  unfold readCL readC
  split
  · exact hF
  · exact h0
theorem readW_cases (s : ByteArray) : (readWE s = 1 ∧ readWL s = anNil) ∨ (readWE s = 0 ∧ answerE (readWL s) = 0 ∧ answerS (readWL s) = s) := by
  cases h : readW s with
  | false => exact .inl ⟨(readW_no h).2, (readW_no h).1⟩
  | true =>
    obtain ⟨h1, h2⟩ := readW_yes h
    unfold readW at h
    obtain ⟨_, h3, h4⟩ := of_decide_eq_true h
    rw [h1, h2]
    exact .inr ⟨rfl, h3, h4⟩
theorem readWL_z (s : ByteArray) : anZ (readWL s) ≤ 1048576 := by
  unfold readWL
  cases readW s with
  | false => exact Nat.zero_le _
  | true => exact anP_z _ (parses_wt s)
theorem answer_size {a : An} (h : answerE a = 0) : (answerS a).size ≤ maxLen := by
  have := parsesE_le (ans_parts h).2.2.1
  unfold maxLen; omega
theorem cmd_neq (c : XCommand) (wx : World) : (binOp .neq 48 (.agg (cmdC c).toArray) (.agg (cmdC c).toArray)).run Tryz.prog wx = .ok (.bool false) wx := by
  rw [← cmdC_val, neq_command]; simp
theorem cmd_eql (c : XCommand) (wx : World) : (binOp .eql 48 (.agg (cmdC c).toArray) (.agg (cmdC c).toArray)).run Tryz.prog wx = .ok (.bool true) wx := by
  rw [← cmdC_val, eql_command]; simp
theorem cmd_guard (op : BinOp) (x y : Operand) (c d : XCommand) (wx : World) : (eqGuard op 48 x y (.agg (cmdC c).toArray) (.agg (cmdC d).toArray)).run Tryz.prog wx = .ok () wx := guard_lit op x y c d _ _ rfl rfl wx
end Go.Proofs.YtfpglpefofcdeaaGreatDoor
