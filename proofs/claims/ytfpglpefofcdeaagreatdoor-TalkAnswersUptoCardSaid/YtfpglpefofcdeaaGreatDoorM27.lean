/- An answer read, by the program: ReadAnswer. -/
import Derived.Test.YtfpglpefofcdeaaGreatDoorM26
import Derived.Test.YtfpglpefofcdeaaGreatDoorM20
namespace Go.Proofs.YtfpglpefofcdeaaGreatDoor
open Go.RowKit
set_option linter.unusedVariables false
set_option linter.unusedSimpArgs false
set_option maxRecDepth 100000

theorem results_cell_tmpT {P : Program} {fn : Func} {p q : Tmp} {ty : TypeId} (h : fn.results = #[.cell p ty, .tmp q]) (tmps : Array Value) (w : World) (g : Nat) (t : TypeId) (cs : Array Value) (fr : Nat × Nat) (d : TypeDesc) (v : Value)
    (hp : tmps.getD p undef = .pointer (some ⟨g, 0, none⟩)) (hq : tmps.getD q undef = v) (hg : w.heap[g]? = some (.cells cs t fr))
    (hu : P.underlying ty = some d) (hd : (match d with | .struct _ | .array _ _ => true | _ => false) = true) (hi : (P.info? ty).map (·.size) = some cs.size) :
    (results fn tmps).run P w = .ok (.tuple #[.agg cs, v]) w := by
  have hp' : tmps[p]?.getD undef = .pointer (some ⟨g, 0, none⟩) := by simpa using hp
  have hq' : tmps[q]?.getD undef = v := by simpa using hq
  simp [results, h, hp', hq', asAddr, run_loadVar_row w g t ty cs fr d hg hu hd hi]
theorem anOK_setT {w : World} {g : Nat} {cs old : Array Value} {t : TypeId} {fr : Nat × Nat} {a : An} (h : AnOK w a) (hg : w.heap[g]? = some (.cells old t fr)) (hn : NoB old) (hb : ∀ p, a.fl.ro = some p → g < p.block) : AnOK (w.setRow g cs) a :=
  ⟨rowApp_setT h.apps hg hn, flOK_setT h.fl hg hn hb, h.er, h.dO, h.count, h.last, h.left, h.kind, h.rcount⟩
/-- an answer's cells, as a list -/
theorem anC_size (a : An) : (anC a).size = 24 := rfl
theorem anC_one (a : An) : (anC a).all (·.oneCell') = true := by simp [anC, Value.oneCell']
theorem readW_no {s : ByteArray} (h : readW s = false) : readWL s = anNil ∧ readWE s = 1 := by unfold readWL readWE; rw [h]; exact ⟨rfl, rfl⟩
theorem readW_yes {s : ByteArray} (h : readW s = true) : readWL s = anP (parsesL s) ∧ readWE s = 0 := by unfold readWL readWE; rw [h]; exact ⟨rfl, rfl⟩
def anZ24 : Array Value := #[.int .i64 0, .int .i64 0, .slice none 0 0, .int .i64 0, .int .i64 0, .int .i64 0, .string ⟨#[]⟩, .slice none 0 0, .string ⟨#[]⟩, .string ⟨#[]⟩, .string ⟨#[]⟩, .string ⟨#[]⟩, .int .i64 0, .int .i64 0, .slice none 0 0, .int .i64 0, .int .i64 0, .int .i64 0, .slice none 0 0, .int .i64 0, .int .i64 0, .string ⟨#[]⟩, .string ⟨#[]⟩, .string ⟨#[]⟩]
theorem anZ24_nob : NoB anZ24 := noB_of rfl
theorem retA {a b : Array Value} {x y : Int} (h1 : a = b) (h2 : x = y) : Ending.returned (.tuple #[.agg a, .int .i64 x]) = .returned (.tuple #[.agg b, .int .i64 y]) := by rw [h1, h2]
set_option maxHeartbeats 4000000 in
theorem readAnswer_bad (s : ByteArray) (w : World) (hs : s.size ≤ maxLen) (he : parsesE s ≠ 0) :
    Calls Tryz.prog 7 #[.string s] w fun e w' => e = .returned (.tuple #[.agg (anC anNil), .int .i64 1]) ∧ Below w.heap.size w w' := by
  obtain ⟨W1, hW1⟩ : ∃ W1, W1 = w.alloc (.cells anZ24 37) := ⟨_, rfl⟩
  have hB1 : Below w.heap.size w W1 := by rw [hW1]; exact (Below.refl _ _).alloc (Nat.le_refl _) _
  have hX1 : W1.heap[w.heap.size]? = some (.cells anZ24 37 (0, 0)) := by rw [hW1]; exact heap_alloc_new _ _
  have n1 := parse_any s W1 hs
  have t1 : (parsesE s != 0) = true := by simpa using he
  generalize parsesE s = pe at *
  generalize parsesL s = pl at *
  have N1 := hide n1; have HB1 := hide hB1; have HX1 := hide hX1; have HW1 := hide hW1
  clear n1 he hs hB1 hX1 hW1
  unfold anZ24 at HW1
  go_enter Tryz.func7, Tryz.ntmps7
  go_upto_region 1 with fail
  rw [← unhide HW1]
  go_wp2_with fail
  refine (unhide N1).mono ?_
  rintro e w1 ⟨ao, cap, rfl, _, _, hb1⟩
  have HX2 := hide ((hb1.block _ (block_ltQ (unhide HX1))).trans (unhide HX1))
  have HB2 := hide ((unhide HB1).trans (hb1.mono (unhide HB1).size))
  clear hb1 HX1 HB1 N1 HW1
  go_wp2_with (refine wpList_store_row rfl _ _ _ rfl w.heap.size (anC anNil) rfl rfl _ _ (unhide HX2) infoAn rfl (anC_one _) ?_)
  refine bodyPost_ret (v := .tuple #[.agg (anC anNil), .int .i64 1]) (results_cell_tmpT rfl _ _ w.heap.size 37 (anC anNil) (0, 0) _ _ rfl rfl (setRow_heap _ _ _ _ _ _ (unhide HX2)) Tryz.underlying37 rfl infoAn) rfl ⟨rfl, setRow_belowT (unhide HB2) (Nat.le_refl _)⟩
set_option maxHeartbeats 4000000 in
theorem readAnswer_ok (s : ByteArray) (w : World) (hs : s.size ≤ maxLen) (he : parsesE s = 0) :
    Calls Tryz.prog 7 #[.string s] w fun e w' => (∃ a, e = .returned (.tuple #[.agg (anC a), .int .i64 (readWE s)]) ∧ AnOK w' a ∧ a.strip = readWL s) ∧ Below w.heap.size w w' := by
  have hwt := parses_wt s
  have hz := anP_z (parsesL s) hwt
  obtain ⟨W1, hW1⟩ : ∃ W1, W1 = w.alloc (.cells anZ24 37) := ⟨_, rfl⟩
  have hB1 : Below w.heap.size w W1 := by rw [hW1]; exact (Below.refl _ _).alloc (Nat.le_refl _) _
  have hX1 : W1.heap[w.heap.size]? = some (.cells anZ24 37 (0, 0)) := by rw [hW1]; exact heap_alloc_new _ _
  have n1 := parse_any s W1 hs
  rw [he] at n1
  have N1 := hide n1
  have N2 := hide (fun ao cap W (hr : IRow W 8 ao (parsesL s)) => answerOf_any (parsesL s) ao cap W hr hwt)
  have HRW : Hid (readW s = decide (answerE (anP (parsesL s)) = 0 ∧ answerS (anP (parsesL s)) = s)) := hide (by unfold readW; rw [he]; simp)
  have HNO := hide (@readW_no s); have HYES := hide (@readW_yes s)
  have HZ := hide hz
  generalize anP (parsesL s) = A at *
  generalize readWL s = RL at *
  generalize readWE s = RE at *
  generalize readW s = rw1 at *
  generalize parsesL s = pl at *
  have HB1 := hide hB1; have HX1 := hide hX1; have HW1 := hide hW1
  clear n1 he hs hB1 hX1 hW1 hwt hz
  unfold anZ24 at HW1
  go_enter Tryz.func7, Tryz.ntmps7
  go_upto_region 1 with fail
  rw [← unhide HW1]
  go_wp2_with fail
  refine (unhide N1).mono ?_
  rintro e w1 ⟨ao, cap, rfl, _, hrow, hb1⟩
  have HX2 := hide ((hb1.block _ (block_ltQ (unhide HX1))).trans (unhide HX1))
  have HB2 := hide ((unhide HB1).trans (hb1.mono (unhide HB1).size))
  have HROW := hide (IRowA.row 8 hrow)
  clear hb1 HX1 HB1 N1 HW1 hrow
  go_wp2_with fail
  refine (unhide N2 _ _ _ (unhide HROW)).mono ?_
  rintro e w2 ⟨⟨a, rfl, haok, has, haro⟩, hb2⟩
  have x2 := (hb2.block _ (block_ltQ (unhide HX2))).trans (unhide HX2)
  have hl2 := block_ltQ x2
  obtain ⟨W4, hW4⟩ : ∃ W4, W4 = (w2.alloc (.cells anZ24 37)).setRow w2.heap.size (anC a) := ⟨_, rfl⟩
  have hz4 : (w2.alloc (.cells anZ24 37)).heap[w2.heap.size]? = some (.cells anZ24 37 (0, 0)) := heap_alloc_new _ _
  have hX4 : W4.heap[w2.heap.size]? = some (.cells (anC a) 37 (0, 0)) := by rw [hW4, setRow_heap _ _ _ _ _ _ hz4]
  have hB4 : Below w2.heap.size w2 W4 := by rw [hW4]; exact setRow_belowT ((Below.refl _ _).alloc (Nat.le_refl _) _) (Nat.le_refl _)
  have hok4 := haok.below hB4
  have n3 := answer_any a W4 hok4 (by rw [anZ_like has]; exact unhide HZ)
  have HAE := hide (show answerE a = answerE A from answerE_like has)
  have HAS := hide (show answerS a = answerS A from answerS_like has)
  have HRO : Hid (∀ p, a.fl.ro = some p → w.heap.size < p.block) := hide (fun p hp => by
    have h1 := haro p hp; have h2 := block_ltQ (unhide HX2); omega)
  have N3 := hide n3; have HX4 := hide hX4; have HB4 := hide hB4; have HOK := hide hok4; have HAST := hide has; have HW4 := hide hW4; have HZ4 := hide hz4
  have HK2 := hide hb2
  generalize answerE a = ae at *
  generalize answerS a = aS at *
  have HL24 := hide (anC_one a); have HLS := hide (anC_size a)
  have HAC : Hid (∀ e : Array Value, e = anC a → e = anC a) := hide (fun _ h => h)
  obtain ⟨L, hL⟩ : ∃ L, L = (anC a).toList := ⟨_, rfl⟩
  have hL2 : anC a = L.toArray := by rw [hL]
  have HL2 := hide hL2
  rw [hL2] at N3 HX4 HW4 HL24 HLS
  rw [hL2]
  clear hl2 x2 hb2 haok has haro hW4 hz4 hX4 hB4 hok4 n3 hL hL2 N2 HROW HAC
  unfold anZ24 at HW4 HZ4
  go_upto_region 5 with (refine wpList_store_row rfl _ _ _ rfl w2.heap.size L.toArray rfl rfl _ _ (unhide HZ4) (by rw [unhide HLS]; exact infoAn) (by rw [unhide HLS]; rfl) (unhide HL24) ?_)
  rw [← unhide HW4]
  go_wp2_with (first | refine wpList_load_mid rfl _ _ rfl w2.heap.size 0 rfl L _ (range_rowT (unhide HX4)) Tryz.underlying37 rfl (by rw [show L.length = L.toArray.size by simp, unhide HLS]; exact infoAn) ?_ | fail)
  refine (unhide N3).mono ?_
  rintro e w5 ⟨rfl, hb5⟩
  have b25 : Below w2.heap.size w2 w5 := (unhide HB4).trans (hb5.mono (unhide HB4).size)
  have b15 : Below w1.heap.size w1 w5 := (unhide HK2).trans (b25.mono (unhide HK2).size)
  have HX5 := hide ((b15.block _ (block_ltQ (unhide HX2))).trans (unhide HX2))
  have HA5 := hide ((hb5.block _ (block_ltQ (unhide HX4))).trans (unhide HX4))
  have HB5 := hide ((unhide HB2).trans (b15.mono (unhide HB2).size))
  have HOK5 := hide ((unhide HOK).below hb5)
  clear hb5 b25 b15 HX2 HX4 HB2 HB4 HK2 HOK N3 HZ4 HW4
  have hno : rw1 = false → RL = anNil ∧ RE = 1 := unhide HNO
  by_cases hae : ae = 0
  case neg =>
    have t1 : (ae != 0) = true := by simpa using hae
    have h0 : rw1 = false := by rw [unhide HRW]; apply decide_eq_false; rw [← unhide HAE]; exact fun h => hae h.1
    obtain ⟨hRL, hRE⟩ := hno h0
    have HNO2 := hide hRL; have HNE := hide hRE
    clear hno h0 hRL hRE hae
    go_wp2_with (refine wpList_store_row rfl _ _ _ rfl w.heap.size (anC anNil) rfl rfl _ _ (unhide HX5) infoAn rfl (anC_one _) ?_)
    refine bodyPost_ret (v := .tuple #[.agg (anC anNil), .int .i64 1]) (results_cell_tmpT rfl _ _ w.heap.size 37 (anC anNil) (0, 0) _ _ rfl rfl (setRow_heap _ _ _ _ _ _ (unhide HX5)) Tryz.underlying37 rfl infoAn) rfl ⟨⟨anNil, retA rfl (unhide HNE).symm, anNil_ok _, (unhide HNO2).symm⟩, setRow_belowT (unhide HB5) (Nat.le_refl _)⟩
  by_cases hse : aS = s
  case neg =>
    have t1 : (ae != 0) = false := by simpa using hae
    have t2 : (aS.toList == s.toList) = false := toList_neQ hse
    have h0 : rw1 = false := by rw [unhide HRW]; apply decide_eq_false; rw [← unhide HAS]; exact fun h => hse h.2
    obtain ⟨hRL, hRE⟩ := hno h0
    have HNO2 := hide hRL; have HNE := hide hRE
    clear hno h0 hRL hRE hse hae
    go_wp2_with (refine wpList_store_row rfl _ _ _ rfl w.heap.size (anC anNil) rfl rfl _ _ (unhide HX5) infoAn rfl (anC_one _) ?_)
    refine bodyPost_ret (v := .tuple #[.agg (anC anNil), .int .i64 1]) (results_cell_tmpT rfl _ _ w.heap.size 37 (anC anNil) (0, 0) _ _ rfl rfl (setRow_heap _ _ _ _ _ _ (unhide HX5)) Tryz.underlying37 rfl infoAn) rfl ⟨⟨anNil, retA rfl (unhide HNE).symm, anNil_ok _, (unhide HNO2).symm⟩, setRow_belowT (unhide HB5) (Nat.le_refl _)⟩
  have t1 : (ae != 0) = false := by simpa using hae
  have t2 : (aS.toList == s.toList) = true := by rw [hse]; simp
  have h0 : rw1 = true := by rw [unhide HRW]; apply decide_eq_true; rw [← unhide HAE, ← unhide HAS]; exact ⟨hae, hse⟩
  have hyes : rw1 = true → RL = A ∧ RE = 0 := unhide HYES
  obtain ⟨hRL, hRE⟩ := hyes h0
  have HYL := hide hRL; have HYE := hide hRE
  clear hno hyes h0 hRL hRE hse hae
  go_wp2_with (first
    | refine wpList_load_mid rfl _ _ rfl w2.heap.size 0 rfl L _ (range_rowT (unhide HA5)) Tryz.underlying37 rfl (by rw [show L.length = L.toArray.size by simp, unhide HLS]; exact infoAn) ?_
    | refine wpList_store_row rfl _ _ _ rfl w.heap.size L.toArray rfl rfl _ _ (unhide HX5) (by rw [unhide HLS]; exact infoAn) (by rw [unhide HLS]; rfl) (unhide HL24) ?_)
  refine bodyPost_ret (v := .tuple #[.agg L.toArray, .int .i64 0]) (results_cell_tmpT rfl _ _ w.heap.size 37 L.toArray (0, 0) _ _ rfl rfl (setRow_heap _ _ _ _ _ _ (unhide HX5)) Tryz.underlying37 rfl (by rw [unhide HLS]; exact infoAn)) rfl ⟨⟨a, retA (unhide HL2).symm (unhide HYE).symm, anOK_setT (unhide HOK5) (unhide HX5) anZ24_nob (unhide HRO), (unhide HAST).trans (unhide HYL).symm⟩, setRow_belowT (unhide HB5) (Nat.le_refl _)⟩
theorem readAnswer_any (s : ByteArray) (w : World) (hs : s.size ≤ maxLen) :
    Calls Tryz.prog 7 #[.string s] w fun e w' => (∃ a, e = .returned (.tuple #[.agg (anC a), .int .i64 (readWE s)]) ∧ AnOK w' a ∧ a.strip = readWL s) ∧ Below w.heap.size w w' := by
  by_cases he : parsesE s = 0
  · exact readAnswer_ok s w hs he
  · refine (readAnswer_bad s w hs he).mono ?_
    rintro e w' ⟨rfl, hb⟩
    have h : readW s = false := by unfold readW; apply decide_eq_false; exact fun h => he h.1
    obtain ⟨h1, h2⟩ := readW_no h
    rw [h1, h2]
    exact ⟨⟨anNil, rfl, anNil_ok w', rfl⟩, hb⟩
end Go.Proofs.YtfpglpefofcdeaaGreatDoor
namespace Go.Proofs.YtfpglpefofcdeaaGreatDoor
open Go.RowKit
set_option linter.unusedVariables false

set_option maxRecDepth 100000 in
set_option maxHeartbeats 2000000 in
theorem sameP_any (L : List XApp) (ao bo : Option Addr) (c d : Nat) (w : World) (hg : RowApp w ao L) (hh : RowApp w bo L) (hl : L.length ≤ 1000) :
    Calls Tryz.prog 44 #[.slice ao L.length c, .slice bo L.length d] w fun e w' => e = .returned (.bool true) ∧ Below w.heap.size w w' := by
  have hl' : (L.length : Int) ≤ 1000 := by omega
  have HG := hide hg.1; have HH := hide hh.1
  clear hg hh
  go_enter Tryz.func44, Tryz.ntmps44
  go_wp2
  go_loopw [13] (fun i wr => ∃ k : Nat, k ≤ L.length ∧ i = .int .i64 k ∧ ∃ q, wr = w.drewN q) (fun i _ => L.length - (intOf i).toNat)
  case atStart => exact ⟨0, Nat.zero_le _, rfl, 0, rfl⟩
  case round =>
    obtain ⟨k, hk, rfl, q, rfl⟩ := hrel
    by_cases hlt : k < L.length
    · obtain ⟨x, hx⟩ : ∃ s, L[k]? = some s := ⟨_, List.getElem?_eq_getElem hlt⟩
      rcases unhide HG with hn | ⟨b1, o1, rfl, _, hc1⟩
      · rw [hn] at hlt; simp at hlt
      rcases unhide HH with hn | ⟨b2, o2, rfl, _, hc2⟩
      · rw [hn] at hlt; simp at hlt
      obtain ⟨c0, c1, c2, c3⟩ := hc1 k x hx
      obtain ⟨d0, d1, d2, d3⟩ := hc2 k x hx
      have hki : (k : Int) < (L.length : Int) := by omega
      clear hx hc1 hc2
      go_wp2_with fail
      go_quiet (fail)
      go_wp2
      go_roundw
      case rel => exact ⟨k + 1, by omega, by go_num, _, rfl⟩
      case measure => simp [intOf]; omega
    · go_wp2
      go_ret
      exact ⟨rfl, below_drewN (Below.refl _ _) _⟩
end Go.Proofs.YtfpglpefofcdeaaGreatDoor
