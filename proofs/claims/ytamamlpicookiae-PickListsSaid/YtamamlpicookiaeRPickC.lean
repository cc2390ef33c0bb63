/- ReadApps of the reference: the walk. -/
import Derived.Test.YtamamlpicookiaeRPickB
import Derived.Test.YtamamlpicookiaePickY
namespace Go.Proofs.Ytamamlpicookiae
open Go.RowKit
set_option linter.unusedVariables false

theorem zero_at (w : World) (o : Obj) : AppAt ((w.alloc o).alloc (.cells #[.string ⟨#[]⟩, .string ⟨#[]⟩, .int .i64 0, .bool false] 31)) (w.heap.size + 1) zeroA := new_blockP _ _ _ (by simp)
theorem step_79 {y : XApp} {z : It} (h : z.tag = 79) : stepR y z = { y with name := z.text } := by unfold stepR; rw [if_pos h]
theorem step_80 {y : XApp} {z : It} (h : z.tag = 80) : stepR y z = { y with label := z.text } := by unfold stepR; rw [if_neg (by omega), if_pos h]
theorem step_135 {y : XApp} {z : It} (h : z.tag = 135) (h1 : z.text.size = 1) : stepR y z = { y with prio := (byteAt z.text 0 % 128 : Nat), confirm := decide (127 < byteAt z.text 0) } := by unfold stepR; rw [if_neg (by omega), if_neg (by omega), if_pos ⟨h, h1⟩]
theorem step_no {y : XApp} {z : It} (h1 : z.tag ≠ 79) (h2 : z.tag ≠ 80) (h3 : ¬ (z.tag = 135 ∧ z.text.size = 1)) : stepR y z = y := by unfold stepR; rw [if_neg h1, if_neg h2, if_neg h3]
theorem fold_snoc {l : List It} {j : Nat} {z : It} (h : l[j]? = some z) : (l.take (j + 1)).foldl stepR zeroA = stepR ((l.take j).foldl stepR zeroA) z := by
  obtain ⟨hk, rfl⟩ := List.getElem?_eq_some_iff.1 h
  rw [List.take_succ_eq_append_getElem hk, List.foldl_append]
  rfl
theorem map_snocR {l : List It} {j : Nat} {z : It} (h : l[j]? = some z) : (l.take (j + 1)).map appR = (l.take j).map appR ++ [appR z] := by
  obtain ⟨hk, rfl⟩ := List.getElem?_eq_some_iff.1 h
  rw [List.take_succ_eq_append_getElem hk, List.map_append]
  rfl
theorem app_newQ (w : World) (x : XApp) (e : TypeId) (j : Nat) (u : Value) (h : (cellsAQ x)[j]? = some u) :
    (w.alloc (.cells #[.string x.name, .string x.label, .int .i64 x.prio, .bool x.confirm] e)).cell? ((⟨w.heap.size, 0, none⟩ : Addr).add j) = some u := by
  rw [show (⟨w.heap.size, 0, none⟩ : Addr).add j = ⟨w.heap.size, 0 + j, none⟩ from by unfold Addr.add; split <;> simp_all, Nat.zero_add, cell_of_row _ _ j _ e _ (heap_alloc_new w _)]
  simpa [cellsAQ] using h
theorem ownsRow_belowQ {w w' : World} {base : Nat} {e : TypeId} {size : Nat} {v : Value} {n : Nat} {xs : List Value} (h : w.ownsRow base e size v n xs) (hb : Below w.heap.size w w') : w'.ownsRow base e size v n xs := owns_keep h hb
theorem AppAt.drew {w : World} {g : Nat} {y : XApp} (h : AppAt w g y) : AppAt w.drew g y := h
theorem appAt_cast {w : World} {g : Nat} {n l : ByteArray} {p p' : Int} {c c' : Bool} (h1 : p = p') (h2 : c = c') (h : AppAt w g ⟨n, l, p, c⟩) : AppAt w g ⟨n, l, p', c'⟩ := by subst h1 h2; exact h
set_option maxRecDepth 100000 in
set_option maxHeartbeats 4000000 in
theorem readApps_any (AT : ∀ (l : List XApp) (ao : Option Addr) (cap : Nat) (w : World), RowApp w ao l → Calls Try.prog 8 #[.slice ao l.length cap] w fun e w' => e = .returned (.tuple #[.string (appsS l), .int .i64 (appsE l)]) ∧ Below w.heap.size w w')
    (s : ByteArray) (w : World) (hs : s.size ≤ maxLen) :
    Calls Try.prog 10 #[.string s] w fun e w' => (∃ ao cap, e = .returned (.tuple #[.slice ao (readsL s).length cap, .int .i64 (readsE s)]) ∧ RowApp w' ao (readsL s)) ∧ Below w.heap.size w w' := by
  have n1 := rparse_any s w hs
  by_cases he : parsesE s = 0
  case neg =>
    obtain ⟨h1, h2⟩ := parses_ne he
    rw [h1, h2]
    have t1 : (parsesE s != 0) = true := by simpa using he
    generalize parsesE s = pe at *
    generalize parsesL s = pl at *
    have N1 := hide n1
    clear n1 he h1 h2
    go_enter Try.func10, Try.ntmps10
    go_wp2_with fail
    refine (unhide N1).mono ?_
    rintro e w1 ⟨ao, cap, rfl, _, hb1⟩
    go_wp2
    go_ret2
    exact ⟨⟨none, 0, rfl, rowApp_nil _ _⟩, hb1⟩
  have hwt := parses_wt s
  have hln : (parsesL s).length ≤ wt 8 (parsesL s) := wt_length (d := 7) _
  have HRD : Hid (readA (appP 7) s = if appsE ((parsesL s).map appR) = 0 ∧ appsT ((parsesL s).map appR) = s then some ((parsesL s).map appR) else none) := hide (by
    rw [← reads_same]
    unfold readA
    by_cases hc : appsE ((parsesL s).map appR) = 0 ∧ appsT ((parsesL s).map appR) = s
    · rw [if_pos ⟨he, hc⟩, if_pos hc]
    · rw [if_neg (fun h => hc h.2), if_neg hc])
  rw [he] at n1
  generalize parsesL s = D at *
  have hD : (D.length : Int) ≤ 65535 := by omega
  have HL : Hid ((D.map appR).length = D.length) := hide (List.length_map ..)
  have N1 := hide n1; have HWT := hide hwt; have HAT := hide AT
  obtain ⟨i0, hi, hz0, hz1, hz2⟩ := info_parts infoAppP
  have HI := hide hi; have Z0 := hide hz0; have Z1 := hide hz1; have Z2 := hide hz2
  clear n1 he hwt hln AT hi hz0 hz1 hz2
  go_enter Try.func10, Try.ntmps10
  go_wp2_with fail
  refine (unhide N1).mono ?_
  rintro e w1 ⟨ao, cap, rfl, hrowA, hb1⟩
  have HROW := hide (IRowA.row 8 hrowA); have HB1 := hide hb1
  clear hrowA hb1
  go_wp2
  go_loopw [6, 23] (fun v i wr => ∃ k : Nat, k ≤ D.length ∧ i = .int .i64 k ∧ wr.ownsRow w1.heap.size 31 4 v ((D.take k).map appR).length (cellsLQ ((D.take k).map appR)) ∧ Below w1.heap.size w1 wr) (fun _ i _ => D.length - (intOf i).toNat)
  case atStart => exact ⟨0, Nat.zero_le _, rfl, World.ownsRow_nil _ _ _ _, Below.refl _ _⟩
  case round =>
    obtain ⟨k, hk, rfl, hown, hbw⟩ := hrel
    by_cases hlt : k < D.length
    · obtain ⟨x, hx⟩ : ∃ x, D[k]? = some x := ⟨_, List.getElem?_eq_getElem hlt⟩
      have hki : (k : Int) < (D.length : Int) := by omega
      rcases unhide HROW with hn | ⟨b, off, rfl, hbl, hcl⟩
      · rw [hn] at hlt; simp at hlt
      obtain ⟨co, cc, c0, c1, c2, _, hco, _, _⟩ := hcl k x hx
      have hwx : wt 7 x.list ≤ 65535 := by
        have h1 := wt_get (d := 7) hx
        have h2 : wt (7 + 1) D ≤ 65535 := unhide HWT
        omega
      have hxl : (x.list.length : Int) ≤ 65535 := by
        have h3 : x.list.length ≤ wt 7 x.list := wt_length (d := 6) x.list
        omega
      have HST := hide (map_snocR hx)
      have HAX : Hid (appR x = x.list.foldl stepR zeroA) := hide rfl
      have d0 := (hbw.cell (p := ⟨b, off + k * 3, none⟩) hbl).trans c0
      have d1 := (hbw.cell (p := ⟨b, off + k * 3 + 1, none⟩) hbl).trans c1
      have d2 := (hbw.cell (p := ⟨b, off + k * 3 + 2, none⟩) hbl).trans c2
      have hcow := IRow.below hbw 7 hco
      generalize x.tag = tg at *
      generalize x.text = tx at *
      generalize x.list = xl at *
      generalize appR x = ax at *
      rename World => wo
      have HCO := hide hcow; have HOWN := hide hown; have HBW := hide hbw; have HWX := hide hwx
      have hbz := fun o o' : Obj => ((Below.refl wo.heap.size wo).alloc (Nat.le_refl _) o).alloc (by simp) o'
      have HZ := hide hbz
      clear hcow hown hbw hco hcl c0 c1 c2 hx hwx hbz
      go_wp2
      go_loopw [30] (fun i wx => ∃ j : Nat, j ≤ xl.length ∧ i = .int .i64 j ∧ AppAt wx (wo.heap.size + 1) ((xl.take j).foldl stepR zeroA) ∧ Below wo.heap.size wo wx) (fun i _ => xl.length - (intOf i).toNat)
      case atStart => exact ⟨0, Nat.zero_le _, rfl, zero_at _ _, unhide HZ _ _⟩
      case round =>
        obtain ⟨j, hj, rfl, hA, hbx⟩ := hrel
        clear d0 d1 d2
        by_cases hjl : j < xl.length
        · obtain ⟨z, hz⟩ : ∃ z, xl[j]? = some z := ⟨_, List.getElem?_eq_getElem hjl⟩
          have hji : (j : Int) < (xl.length : Int) := by omega
          rcases unhide HCO with hn | ⟨b2, off2, rfl, hbl2, hcl2⟩
          · rw [hn] at hjl; simp at hjl
          obtain ⟨co2, cc2, e0, e1, e2, _, _, _, hzm⟩ := hcl2 j z hz
          have d0 := (hbx.cell (p := ⟨b2, off2 + j * 3, none⟩) hbl2).trans e0
          have d1 := (hbx.cell (p := ⟨b2, off2 + j * 3 + 1, none⟩) hbl2).trans e1
          have d2 := (hbx.cell (p := ⟨b2, off2 + j * 3 + 2, none⟩) hbl2).trans e2
          have HFS := hide (fold_snoc hz)
          have HS1 := fun y => hide (step_79 (y := y) (z := z))
          have HS2 := fun y => hide (step_80 (y := y) (z := z))
          have HS3 := fun y => hide (step_135 (y := y) (z := z))
          have HS4 := fun y => hide (step_no (y := y) (z := z))
          generalize (xl.take j).foldl stepR zeroA = y at *
          obtain ⟨ynm, ylb, ypr, ycf⟩ := y
          have y0 : wr.cell? ⟨wo.heap.size + 1, 0, none⟩ = some (.string ynm) := cell_of_row _ _ 0 _ _ _ hA
          have y1 : wr.cell? ⟨wo.heap.size + 1, 1, none⟩ = some (.string ylb) := cell_of_row _ _ 1 _ _ _ hA
          have y2 : wr.cell? ⟨wo.heap.size + 1, 2, none⟩ = some (.int .i64 ypr) := cell_of_row _ _ 2 _ _ _ hA
          have y3 : wr.cell? ⟨wo.heap.size + 1, 3, none⟩ = some (.bool ycf) := cell_of_row _ _ 3 _ _ _ hA
          have yf : ∀ o, wr.frozen? ⟨wo.heap.size + 1, o, none⟩ = false := fun o => frozen_of_row _ _ o _ _ hA
          have hlw : wo.heap.size + 1 < wr.heap.size := block_ltQ hA
          obtain ⟨ztg, ztx, zl⟩ := z
          simp only [It.tag, It.text, It.list] at d0 d1 d2 HS1 HS2 HS3 HS4 hzm
          have HA := hide hA; have HBX := hide hbx
          clear hA hbx e0 e1 e2 hcl2 hz
          by_cases h79 : ztg = 79
          · subst h79
            have HSS := hide (unhide (HS1 ⟨ynm, ylb, ypr, ycf⟩) rfl)
            clear HS1 HS2 HS3 HS4
            go_wp2
            go_roundw
            case rel => exact ⟨j + 1, by omega, by go_num, by rw [unhide HFS, unhide HSS]; exact ((unhide HA).name ztx).alloc _, ((unhide HBX).setCell (Nat.le_succ _) _).alloc (by have := (unhide HBX).size; simp; omega) _⟩
            case measure => simp [intOf]; omega
          by_cases h80 : ztg = 80
          · subst h80
            have HSS := hide (unhide (HS2 ⟨ynm, ylb, ypr, ycf⟩) rfl)
            clear HS1 HS2 HS3 HS4 h79
            go_wp2
            go_roundw
            case rel => exact ⟨j + 1, by omega, by go_num, by rw [unhide HFS, unhide HSS]; exact ((unhide HA).label ztx).alloc _, ((unhide HBX).setCell (Nat.le_succ _) _).alloc (by have := (unhide HBX).size; simp; omega) _⟩
            case measure => simp [intOf]; omega
          have t79 : (ztg == 79) = false := by simpa using h79
          have t80 : (ztg == 80) = false := by simpa using h80
          by_cases h135 : ztg = 135
          · subst h135
            by_cases hz1 : ztx.size = 1
            · obtain ⟨bt, hbt⟩ : ∃ bt, bt = byteAt ztx 0 := ⟨_, rfl⟩
              have HSS : Hid (stepR ⟨ynm, ylb, ypr, ycf⟩ (.mk 135 ztx zl) = ⟨ynm, ylb, ((bt % 128 : Nat) : Int), decide (127 < bt)⟩) := hide (by rw [hbt]; exact step_135 rfl hz1)
              have hgb : ((ztx[0]'(by omega)).toNat : Int) = (bt : Int) := by rw [hbt]; exact get_byte ztx 0 (by omega)
              have hbl3 : bt < 256 := by rw [hbt]; exact byteAt_lt ztx 0
              clear hbt
              have hm : (bt : Int) % 128 = ((bt % 128 : Nat) : Int) := by omega
              have hzi : (ztx.size : Int) = 1 := by omega
              have hdc : decide (127 < (bt : Int)) = decide (127 < bt) := decide_eq_decide.2 (by omega)
              have HM := hide hm; have HDC := hide hdc
              clear hm hdc
              clear HS1 HS2 HS3 HS4 h79 h80 t79 t80
              go_wp2_with fail
              go_region
              all_goals
                go_wp2
                go_roundw
                case rel => exact ⟨j + 1, by omega, by go_num, by rw [unhide HFS, unhide HSS]; exact ((appAt_cast (unhide HM) (unhide HDC) ((unhide HA).last ((bt : Int) % 128) (decide (127 < (bt : Int))))).alloc _).drew, ((((unhide HBX).setCell (Nat.le_succ _) _).setCell (Nat.le_succ _) _).alloc (by have := (unhide HBX).size; simp; omega) _).drew⟩
                case measure => simp [intOf]; omega
            · have HSS := hide (unhide (HS4 ⟨ynm, ylb, ypr, ycf⟩) h79 h80 (fun h => hz1 h.2))
              have tz : ((ztx.size : Int) == 1) = false := by simp; omega
              clear HS1 HS2 HS3 HS4 h79 h80
              go_wp2
              go_roundw
              case rel => exact ⟨j + 1, by omega, by go_num, by rw [unhide HFS, unhide HSS]; exact (unhide HA).alloc _, (unhide HBX).alloc (by have := (unhide HBX).size; simp; omega) _⟩
              case measure => simp [intOf]; omega
          · have t135 : (ztg == 135) = false := by simpa using h135
            have HSS := hide (unhide (HS4 ⟨ynm, ylb, ypr, ycf⟩) h79 h80 (fun h => h135 h.1))
            clear HS1 HS2 HS3 HS4 h79 h80 h135
            go_wp2
            go_roundw
            case rel => exact ⟨j + 1, by omega, by go_num, by rw [unhide HFS, unhide HSS]; exact (unhide HA).alloc _, (unhide HBX).alloc (by have := (unhide HBX).size; simp; omega) _⟩
            case measure => simp [intOf]; omega
        · obtain rfl : j = xl.length := by omega
          rw [List.take_length, ← unhide HAX] at hA
          obtain ⟨ynm, ylb, ypr, ycf⟩ := ax
          have y0 : wr.cell? ⟨wo.heap.size + 1, 0, none⟩ = some (.string ynm) := cell_of_row _ _ 0 _ _ _ hA
          have y1 : wr.cell? ⟨wo.heap.size + 1, 1, none⟩ = some (.string ylb) := cell_of_row _ _ 1 _ _ _ hA
          have y2 : wr.cell? ⟨wo.heap.size + 1, 2, none⟩ = some (.int .i64 ypr) := cell_of_row _ _ 2 _ _ _ hA
          have y3 : wr.cell? ⟨wo.heap.size + 1, 3, none⟩ = some (.bool ycf) := cell_of_row _ _ 3 _ _ _ hA
          have hfl : ((D.take k).map appR).length = k := by rw [List.length_map, List.length_take]; omega
          have hown := ownsRow_belowQ (unhide HOWN) hbx
          generalize (D.take k).map appR = F at *
          have hownA := hown.alloc (.cells #[.string ynm, .string ylb, .int .i64 ypr, .bool ycf] 31)
          have hbW := (unhide HBW).trans (hbx.mono (unhide HBW).size)
          have hltw := hown.lt
          have H4 := hide hownA; have HBX := hide hbW; have HLT := hide hltw
          have hsz1 := hbW.size
          have HS1 := hide hsz1
          clear hown hownA hbW hltw hA hbx hsz1 hjl
          go_wp2_with (at_builtin; refine wpList_append_own _ rfl _ _ 22 rfl w1.heap.size 31 i0 (.agg #[.string ⟨#[]⟩, .string ⟨#[]⟩, .int .i64 0, .bool false]) 4 48 Try.underlying22 (unhide HI) (unhide Z0) (unhide Z1) (unhide Z2) rfl (by decide) _ _ _ rfl (unhide H4) ⟨wr.heap.size, 0, none⟩ 1 1 (cellsAQ ⟨ynm, ylb, ypr, ycf⟩) rfl rfl (fun j u hu => app_newQ wr ⟨ynm, ylb, ypr, ycf⟩ _ j u hu) ?c2 ?c3 ?c4 ?c5 ?_)
          case c2 => intro u hu; simp [cellsAQ] at hu; rcases hu with rfl | rfl | rfl | rfl <;> rfl
          case c3 => unfold maxLen; omega
          case c4 => omega
          case c5 => have := unhide HS1; simp; omega
          intro v' w5 hown' hgrow _
          have hb5 : Below w1.heap.size w1 w5 := ((unhide HBX).alloc (unhide HS1) _).grown hgrow (by have := unhide HS1; simp; omega) (fun q hq => (unhide HLT q hq).1)
          have hown5 : w5.ownsRow w1.heap.size 31 4 v' (F ++ [XApp.mk ynm ylb ypr ycf]).length (cellsLQ (F ++ [XApp.mk ynm ylb ypr ycf])) := by
            rw [cellsLQ_snoc, List.length_append, hfl]
            exact hown'
          have H5 := hide hown5; have HB5 := hide hb5
          clear hown' hgrow hown5 hb5 H4 HLT y0 y1 y2 y3 hfl
          go_wp2
          go_roundw
          case rel => exact ⟨k + 1, by omega, by go_num, by rw [unhide HST]; exact unhide H5, unhide HB5⟩
          case measure => simp [intOf]; omega
    · obtain rfl : k = D.length := by omega
      rw [List.take_length] at hown
      obtain ⟨ao2, cap2, rfl, hrow⟩ := rowApp_own hown (fun y hy => by
        obtain ⟨x, hx, rfl⟩ := List.mem_map.1 hy
        obtain ⟨i, hi, rfl⟩ := List.mem_iff_getElem.1 hx
        refine appR_ok 6 _ _ ?_
        have h1 := wt_get (d := 7) (List.getElem?_eq_getElem hi)
        have h2 : wt (7 + 1) D ≤ 65535 := unhide HWT
        have h3 : wt (6 + 1) D[i].list = wt 7 D[i].list := rfl
        omega) (by rw [unhide HL]; unfold maxLen; omega)
      have n3 := unhide HAT (D.map appR) ao2 cap2 wr hrow
      have HRL : Hid (readsL s = (readA (appP 7) s).getD []) := hide rfl
      have HRE : Hid (readsE s = if (readA (appP 7) s).isSome then 0 else 1) := hide rfl
      have HAS : Hid (appsS (D.map appR) = if appsE (D.map appR) = 0 then appsT (D.map appR) else ⟨#[]⟩) := hide rfl
      have HM := hide hrow
      have hbww : Below w.heap.size w wr := (unhide HB1).trans (hbw.mono (unhide HB1).size)
      have HBW := hide hbww
      clear hrow hown hbw hbww hlt
      rw [unhide HL] at n3 ⊢
      generalize appsE (D.map appR) = ae at *
      generalize appsS (D.map appR) = tA at *
      generalize appsT (D.map appR) = tB at *
      have N3 := hide n3
      clear n3
      by_cases hae : ae = 0
      case neg =>
        have t1 : (ae != 0) = true := by simpa using hae
        have hN : readsL s = [] ∧ readsE s = 1 := by
          rw [unhide HRL, unhide HRE, unhide HRD, if_neg (fun h => hae h.1)]
          exact ⟨rfl, rfl⟩
        have HN := hide hN
        clear hae hN
        go_wp2_with fail
        refine (unhide N3).mono ?_
        rintro e w3 ⟨rfl, hb3⟩
        go_wp2
        go_ret2
        refine ⟨⟨none, 0, ?_, ?_⟩, (unhide HBW).trans (hb3.mono (unhide HBW).size)⟩
        · rw [(unhide HN).1, (unhide HN).2]; rfl
        · rw [(unhide HN).1]; exact rowApp_nil _ _
      subst hae
      have hAS : tA = tB := by rw [unhide HAS, if_pos rfl]
      subst hAS
      by_cases hse : tA = s
      case neg =>
        have t2 : (tA.toList == s.toList) = false := toList_neQ hse
        have hN : readsL s = [] ∧ readsE s = 1 := by
          rw [unhide HRL, unhide HRE, unhide HRD, if_neg (fun h => hse h.2)]
          exact ⟨rfl, rfl⟩
        have HN := hide hN
        clear hse hN
        go_wp2_with fail
        refine (unhide N3).mono ?_
        rintro e w3 ⟨rfl, hb3⟩
        go_wp2
        go_ret2
        refine ⟨⟨none, 0, ?_, ?_⟩, (unhide HBW).trans (hb3.mono (unhide HBW).size)⟩
        · rw [(unhide HN).1, (unhide HN).2]; rfl
        · rw [(unhide HN).1]; exact rowApp_nil _ _
      subst hse
      have t2 : (tA.toList == tA.toList) = true := by simp
      have hN : readsL tA = D.map appR ∧ readsE tA = 0 := by
        rw [unhide HRL, unhide HRE, unhide HRD, if_pos ⟨rfl, rfl⟩]
        exact ⟨rfl, rfl⟩
      have HN := hide hN
      clear hN
      go_wp2_with fail
      refine (unhide N3).mono ?_
      rintro e w3 ⟨rfl, hb3⟩
      go_wp2
      go_ret2
      refine ⟨⟨ao2, cap2, ?_, ?_⟩, (unhide HBW).trans (hb3.mono (unhide HBW).size)⟩
      · rw [(unhide HN).1, (unhide HN).2, unhide HL]; rfl
      · rw [(unhide HN).1]; exact (unhide HM).below hb3
end Go.Proofs.Ytamamlpicookiae
