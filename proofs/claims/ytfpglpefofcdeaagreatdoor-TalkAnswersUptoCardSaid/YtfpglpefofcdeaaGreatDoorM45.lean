/- An answer's text, by the document's own: Answer. -/
import Derived.Test.YtfpglpefofcdeaaGreatDoorM39
import Derived.Test.YtfpglpefofcdeaaGreatDoorM40
import Derived.Test.YtfpglpefofcdeaaGreatDoorM41
import Derived.Test.YtfpglpefofcdeaaGreatDoorM42
import Derived.Test.YtfpglpefofcdeaaGreatDoorM43
import Derived.Test.YtfpglpefofcdeaaGreatDoorM44
import Derived.Test.YtfpglpefofcdeaaGreatDoorM24
import Derived.Test.YtfpglpefofcdeaaGreatDoorM20
import Derived.Test.YtfpglpefofcdeaaGreatDoorM26
namespace Go.Proofs.YtfpglpefofcdeaaGreatDoor
open Go.RowKit

theorem ranswer_any (a : An) (w : World) (hok : AnOK w a) (hz : anZ a ≤ 1048576) :
    Calls Tryz.prog 6 #[.agg (anC a)] w fun e w' => e = .returned (.tuple #[.string (answerS a), .int .i64 (answerE a)]) ∧ Below w.heap.size w w' := by
  cases hd : inT a.dO 1 7 with
  | false => exact ranswer_no a w hd
  | true =>
    have hdo : a.dO = 1 ∨ a.dO = 2 ∨ a.dO = 3 ∨ a.dO = 4 ∨ a.dO = 5 ∨ a.dO = 6 ∨ a.dO = 7 := by have := inT_true.1 hd; omega
    by_cases h4 : a.dO = 4
    · exact ranswer_g6 a w hok hz hd h4
    by_cases h0 : a.er = 0
    · rcases hdo with h | h | h | h | h | h | h
      · exact ranswer_g1 a w hok hz hd ⟨h0, .inl h⟩
      · exact ranswer_g1 a w hok hz hd ⟨h0, .inr (.inl h)⟩
      · exact ranswer_g2 a w hok hz hd ⟨h0, h⟩
      · exact absurd h h4
      · exact ranswer_g3 a w hok hz hd ⟨h0, .inl h⟩
      · exact ranswer_g3 a w hok hz hd ⟨h0, .inr h⟩
      · exact ranswer_g1 a w hok hz hd ⟨h0, .inr (.inr h)⟩
    · rcases hdo with h | h | h | h | h | h | h
      · exact ranswer_g4 a w hok hz hd ⟨h0, .inl h⟩
      · exact ranswer_g4 a w hok hz hd ⟨h0, .inr (.inl h)⟩
      · exact ranswer_g4 a w hok hz hd ⟨h0, .inr (.inr h)⟩
      · exact absurd h h4
      · exact ranswer_g5 a w hok hz hd ⟨h0, .inl h⟩
      · exact ranswer_g5 a w hok hz hd ⟨h0, .inr (.inl h)⟩
      · exact ranswer_g5 a w hok hz hd ⟨h0, .inr (.inr h)⟩
end Go.Proofs.YtfpglpefofcdeaaGreatDoor
namespace Go.Proofs.YtfpglpefofcdeaaGreatDoor
open Go.RowKit
set_option linter.unusedVariables false

theorem zero_at (w : World) (o : Obj) : AppAt ((w.alloc o).alloc (.cells #[.string ⟨#[]⟩, .string ⟨#[]⟩, .int .i64 0, .bool false] 90)) (w.heap.size + 1) zeroA := new_blockP _ _ _ (by simp)
theorem step_79 {y : XApp} {z : It} (h : z.tag = 79) : stepR y z = { y with name := z.text } := by unfold stepR; rw [if_pos h]
theorem step_80 {y : XApp} {z : It} (h : z.tag = 80) : stepR y z = { y with label := z.text } := by unfold stepR; rw [if_neg (by omega), if_pos h]
theorem step_135 {y : XApp} {z : It} (h : z.tag = 135) (h1 : z.text.size = 1) : stepR y z = { y with prio := (byteAt z.text 0 % 128 : Nat), confirm := decide (127 < byteAt z.text 0) } := by unfold stepR; rw [if_neg (by omega), if_neg (by omega), if_pos ⟨h, h1⟩]
theorem step_no {y : XApp} {z : It} (h1 : z.tag ≠ 79) (h2 : z.tag ≠ 80) (h3 : ¬ (z.tag = 135 ∧ z.text.size = 1)) : stepR y z = y := by unfold stepR; rw [if_neg h1, if_neg h2, if_neg h3]
theorem fold_snoc {l : List It} {j : Nat} {z : It} (h : l[j]? = some z) : (l.take (j + 1)).foldl stepR zeroA = stepR ((l.take j).foldl stepR zeroA) z := by
  obtain ⟨hk, rfl⟩ := List.getElem?_eq_some_iff.1 h
  rw [List.take_succ_eq_append_getElem hk, List.foldl_append]
  rfl
theorem map_snocR {l : List It} {j : Nat} {z : It} (h : l[j]? = some z) : (l.take (j + 1)).map appR = (l.take j).map appR ++ [appR z] := by
  obtain ⟨hk, rfl⟩ := List.getElem?_eq_some_iff.1 h
  rw [List.take_succ_eq_append_getElem hk, List.map_append]
  rfl
theorem app_newQ (w : World) (x : XApp) (e : TypeId) (j : Nat) (u : Value) (h : (cellsAQ x)[j]? = some u) :
    (w.alloc (.cells #[.string x.name, .string x.label, .int .i64 x.prio, .bool x.confirm] e)).cell? ((⟨w.heap.size, 0, none⟩ : Addr).add j) = some u := by
  rw [show (⟨w.heap.size, 0, none⟩ : Addr).add j = ⟨w.heap.size, 0 + j, none⟩ from by unfold Addr.add; split <;> simp_all, Nat.zero_add, cell_of_row _ _ j _ e _ (heap_alloc_new w _)]
  simpa [cellsAQ] using h
theorem ownsRow_belowQ {w w' : World} {base : Nat} {e : TypeId} {size : Nat} {v : Value} {n : Nat} {xs : List Value} (h : w.ownsRow base e size v n xs) (hb : Below w.heap.size w w') : w'.ownsRow base e size v n xs := owns_keep h hb
theorem AppAt.drew {w : World} {g : Nat} {y : XApp} (h : AppAt w g y) : AppAt w.drew g y := h
theorem appAt_cast {w : World} {g : Nat} {n l : ByteArray} {p p' : Int} {c c' : Bool} (h1 : p = p') (h2 : c = c') (h : AppAt w g ⟨n, l, p, c⟩) : AppAt w g ⟨n, l, p', c'⟩ := by subst h1 h2; exact h
set_option maxRecDepth 100000 in
set_option maxHeartbeats 4000000 in
theorem readApps_any (AT : ∀ (l : List XApp) (ao : Option Addr) (cap : Nat) (w : World), RowApp w ao l → Calls Tryz.prog 23 #[.slice ao l.length cap] w fun e w' => e = .returned (.tuple #[.string (appsS l), .int .i64 (appsE l)]) ∧ Below w.heap.size w w')
    (s : ByteArray) (w : World) (hs : s.size ≤ maxLen) :
    Calls Tryz.prog 30 #[.string s] w fun e w' => (∃ ao cap, e = .returned (.tuple #[.slice ao (readsL s).length cap, .int .i64 (readsE s)]) ∧ RowApp w' ao (readsL s)) ∧ Below w.heap.size w w' := by
  have n1 := rparse_any s w hs
  by_cases he : parsesE s = 0
  case neg =>
    obtain ⟨h1, h2⟩ := parses_ne he
    rw [h1, h2]
    have t1 : (parsesE s != 0) = true := by simpa using he
    generalize parsesE s = pe at *
    generalize parsesL s = pl at *
    have N1 := hide n1
    clear n1 he h1 h2
    go_enter Tryz.func30, Tryz.ntmps30
    go_wp2_with fail
    refine (unhide N1).mono ?_
    rintro e w1 ⟨ao, cap, rfl, _, hb1⟩
    go_wp2
    go_ret2
    exact ⟨⟨none, 0, rfl, rowApp_nil _ _⟩, hb1⟩
  have hwt := parses_wt s
  have hln : (parsesL s).length ≤ wt 8 (parsesL s) := wt_length (d := 7) _
  have HRD : Hid (readA (appP 7) s = if appsE ((parsesL s).map appR) = 0 ∧ appsT ((parsesL s).map appR) = s then some ((parsesL s).map appR) else none) := hide (by
    rw [← reads_same]
    unfold readA
    by_cases hc : appsE ((parsesL s).map appR) = 0 ∧ appsT ((parsesL s).map appR) = s
    · rw [if_pos ⟨he, hc⟩, if_pos hc]
    · rw [if_neg (fun h => hc h.2), if_neg hc])
  rw [he] at n1
  generalize parsesL s = D at *
  have hD : (D.length : Int) ≤ 65535 := by omega
  have HL : Hid ((D.map appR).length = D.length) := hide (List.length_map ..)
  have N1 := hide n1; have HWT := hide hwt; have HAT := hide AT
  obtain ⟨i0, hi, hz0, hz1, hz2⟩ := info_parts infoAppP
  have HI := hide hi; have Z0 := hide hz0; have Z1 := hide hz1; have Z2 := hide hz2
  clear n1 he hwt hln AT hi hz0 hz1 hz2
  go_enter Tryz.func30, Tryz.ntmps30
  go_wp2_with fail
  refine (unhide N1).mono ?_
  rintro e w1 ⟨ao, cap, rfl, hrowA, hb1⟩
  have HROW := hide (IRowA.row 8 hrowA); have HB1 := hide hb1
  clear hrowA hb1
  go_wp2
  go_loopw [6, 23] (fun v i wr => ∃ k : Nat, k ≤ D.length ∧ i = .int .i64 k ∧ wr.ownsRow w1.heap.size 90 4 v ((D.take k).map appR).length (cellsLQ ((D.take k).map appR)) ∧ Below w1.heap.size w1 wr) (fun _ i _ => D.length - (intOf i).toNat)
  case atStart => exact ⟨0, Nat.zero_le _, rfl, World.ownsRow_nil _ _ _ _, Below.refl _ _⟩
  case round =>
    obtain ⟨k, hk, rfl, hown, hbw⟩ := hrel
    by_cases hlt : k < D.length
    · obtain ⟨x, hx⟩ : ∃ x, D[k]? = some x := ⟨_, List.getElem?_eq_getElem hlt⟩
      have hki : (k : Int) < (D.length : Int) := by omega
      rcases unhide HROW with hn | ⟨b, off, rfl, hbl, hcl⟩
      · rw [hn] at hlt; simp at hlt
      obtain ⟨co, cc, c0, c1, c2, _, hco, _, _⟩ := hcl k x hx
      have hwx : wt 7 x.list ≤ 65535 := by
        have h1 := wt_get (d := 7) hx
        have h2 : wt (7 + 1) D ≤ 65535 := unhide HWT
        omega
      have hxl : (x.list.length : Int) ≤ 65535 := by
        have h3 : x.list.length ≤ wt 7 x.list := wt_length (d := 6) x.list
        omega
      have HST := hide (map_snocR hx)
      have HAX : Hid (appR x = x.list.foldl stepR zeroA) := hide rfl
      have d0 := (hbw.cell (p := ⟨b, off + k * 3, none⟩) hbl).trans c0
      have d1 := (hbw.cell (p := ⟨b, off + k * 3 + 1, none⟩) hbl).trans c1
      have d2 := (hbw.cell (p := ⟨b, off + k * 3 + 2, none⟩) hbl).trans c2
      have hcow := IRow.below hbw 7 hco
      generalize x.tag = tg at *
      generalize x.text = tx at *
      generalize x.list = xl at *
      generalize appR x = ax at *
      rename World => wo
      have HCO := hide hcow; have HOWN := hide hown; have HBW := hide hbw; have HWX := hide hwx
      have hbz := fun o o' : Obj => ((Below.refl wo.heap.size wo).alloc (Nat.le_refl _) o).alloc (by simp) o'
      have HZ := hide hbz
      clear hcow hown hbw hco hcl c0 c1 c2 hx hwx hbz
      go_wp2
      go_loopw [30] (fun i wx => ∃ j : Nat, j ≤ xl.length ∧ i = .int .i64 j ∧ AppAt wx (wo.heap.size + 1) ((xl.take j).foldl stepR zeroA) ∧ Below wo.heap.size wo wx) (fun i _ => xl.length - (intOf i).toNat)
      case atStart => exact ⟨0, Nat.zero_le _, rfl, zero_at _ _, unhide HZ _ _⟩
      case round =>
        obtain ⟨j, hj, rfl, hA, hbx⟩ := hrel
        clear d0 d1 d2
        by_cases hjl : j < xl.length
        · obtain ⟨z, hz⟩ : ∃ z, xl[j]? = some z := ⟨_, List.getElem?_eq_getElem hjl⟩
          have hji : (j : Int) < (xl.length : Int) := by omega
          rcases unhide HCO with hn | ⟨b2, off2, rfl, hbl2, hcl2⟩
          · rw [hn] at hjl; simp at hjl
          obtain ⟨co2, cc2, e0, e1, e2, _, _, _, hzm⟩ := hcl2 j z hz
          have d0 := (hbx.cell (p := ⟨b2, off2 + j * 3, none⟩) hbl2).trans e0
          have d1 := (hbx.cell (p := ⟨b2, off2 + j * 3 + 1, none⟩) hbl2).trans e1
          have d2 := (hbx.cell (p := ⟨b2, off2 + j * 3 + 2, none⟩) hbl2).trans e2
          have HFS := hide (fold_snoc hz)
          have HS1 := fun y => hide (step_79 (y := y) (z := z))
          have HS2 := fun y => hide (step_80 (y := y) (z := z))
          have HS3 := fun y => hide (step_135 (y := y) (z := z))
          have HS4 := fun y => hide (step_no (y := y) (z := z))
          generalize (xl.take j).foldl stepR zeroA = y at *
          obtain ⟨ynm, ylb, ypr, ycf⟩ := y
          have y0 : wr.cell? ⟨wo.heap.size + 1, 0, none⟩ = some (.string ynm) := cell_of_row _ _ 0 _ _ _ hA
          have y1 : wr.cell? ⟨wo.heap.size + 1, 1, none⟩ = some (.string ylb) := cell_of_row _ _ 1 _ _ _ hA
          have y2 : wr.cell? ⟨wo.heap.size + 1, 2, none⟩ = some (.int .i64 ypr) := cell_of_row _ _ 2 _ _ _ hA
          have y3 : wr.cell? ⟨wo.heap.size + 1, 3, none⟩ = some (.bool ycf) := cell_of_row _ _ 3 _ _ _ hA
          have yf : ∀ o, wr.frozen? ⟨wo.heap.size + 1, o, none⟩ = false := fun o => frozen_of_row _ _ o _ _ hA
          have hlw : wo.heap.size + 1 < wr.heap.size := block_ltQ hA
          obtain ⟨ztg, ztx, zl⟩ := z
          simp only [It.tag, It.text, It.list] at d0 d1 d2 HS1 HS2 HS3 HS4 hzm
          have HA := hide hA; have HBX := hide hbx
          clear hA hbx e0 e1 e2 hcl2 hz
          by_cases h79 : ztg = 79
          · subst h79
            have HSS := hide (unhide (HS1 ⟨ynm, ylb, ypr, ycf⟩) rfl)
            clear HS1 HS2 HS3 HS4
            go_wp2
            go_roundw
            case rel => exact ⟨j + 1, by omega, by go_num, by rw [unhide HFS, unhide HSS]; exact ((unhide HA).name ztx).alloc _, ((unhide HBX).setCell (Nat.le_succ _) _).alloc (by have := (unhide HBX).size; simp; omega) _⟩
            case measure => simp [intOf]; omega
          by_cases h80 : ztg = 80
          · subst h80
            have HSS := hide (unhide (HS2 ⟨ynm, ylb, ypr, ycf⟩) rfl)
            clear HS1 HS2 HS3 HS4 h79
            go_wp2
            go_roundw
            case rel => exact ⟨j + 1, by omega, by go_num, by rw [unhide HFS, unhide HSS]; exact ((unhide HA).label ztx).alloc _, ((unhide HBX).setCell (Nat.le_succ _) _).alloc (by have := (unhide HBX).size; simp; omega) _⟩
            case measure => simp [intOf]; omega
          have t79 : (ztg == 79) = false := by simpa using h79
          have t80 : (ztg == 80) = false := by simpa using h80
          by_cases h135 : ztg = 135
          · subst h135
            by_cases hz1 : ztx.size = 1
            · obtain ⟨bt, hbt⟩ : ∃ bt, bt = byteAt ztx 0 := ⟨_, rfl⟩
              have HSS : Hid (stepR ⟨ynm, ylb, ypr, ycf⟩ (.mk 135 ztx zl) = ⟨ynm, ylb, ((bt % 128 : Nat) : Int), decide (127 < bt)⟩) := hide (by rw [hbt]; exact step_135 rfl hz1)
              have hgb : ((ztx[0]'(by omega)).toNat : Int) = (bt : Int) := by rw [hbt]; exact get_byte ztx 0 (by omega)
              have hbl3 : bt < 256 := by rw [hbt]; exact byteAt_lt ztx 0
              clear hbt
              have hm : (bt : Int) % 128 = ((bt % 128 : Nat) : Int) := by omega
              have hzi : (ztx.size : Int) = 1 := by omega
              have hdc : decide (127 < (bt : Int)) = decide (127 < bt) := decide_eq_decide.2 (by omega)
              have HM := hide hm; have HDC := hide hdc
              clear hm hdc
              clear HS1 HS2 HS3 HS4 h79 h80 t79 t80
              go_wp2_with fail
              go_region
              all_goals
                go_wp2
                go_roundw
                case rel => exact ⟨j + 1, by omega, by go_num, by rw [unhide HFS, unhide HSS]; exact ((appAt_cast (unhide HM) (unhide HDC) ((unhide HA).last ((bt : Int) % 128) (decide (127 < (bt : Int))))).alloc _).drew, ((((unhide HBX).setCell (Nat.le_succ _) _).setCell (Nat.le_succ _) _).alloc (by have := (unhide HBX).size; simp; omega) _).drew⟩
                case measure => simp [intOf]; omega
            · have HSS := hide (unhide (HS4 ⟨ynm, ylb, ypr, ycf⟩) h79 h80 (fun h => hz1 h.2))
              have tz : ((ztx.size : Int) == 1) = false := by simp; omega
              clear HS1 HS2 HS3 HS4 h79 h80
              go_wp2
              go_roundw
              case rel => exact ⟨j + 1, by omega, by go_num, by rw [unhide HFS, unhide HSS]; exact (unhide HA).alloc _, (unhide HBX).alloc (by have := (unhide HBX).size; simp; omega) _⟩
              case measure => simp [intOf]; omega
          · have t135 : (ztg == 135) = false := by simpa using h135
            have HSS := hide (unhide (HS4 ⟨ynm, ylb, ypr, ycf⟩) h79 h80 (fun h => h135 h.1))
            clear HS1 HS2 HS3 HS4 h79 h80 h135
            go_wp2
            go_roundw
            case rel => exact ⟨j + 1, by omega, by go_num, by rw [unhide HFS, unhide HSS]; exact (unhide HA).alloc _, (unhide HBX).alloc (by have := (unhide HBX).size; simp; omega) _⟩
            case measure => simp [intOf]; omega
        · obtain rfl : j = xl.length := by omega
          rw [List.take_length, ← unhide HAX] at hA
          obtain ⟨ynm, ylb, ypr, ycf⟩ := ax
          have y0 : wr.cell? ⟨wo.heap.size + 1, 0, none⟩ = some (.string ynm) := cell_of_row _ _ 0 _ _ _ hA
          have y1 : wr.cell? ⟨wo.heap.size + 1, 1, none⟩ = some (.string ylb) := cell_of_row _ _ 1 _ _ _ hA
          have y2 : wr.cell? ⟨wo.heap.size + 1, 2, none⟩ = some (.int .i64 ypr) := cell_of_row _ _ 2 _ _ _ hA
          have y3 : wr.cell? ⟨wo.heap.size + 1, 3, none⟩ = some (.bool ycf) := cell_of_row _ _ 3 _ _ _ hA
          have hfl : ((D.take k).map appR).length = k := by rw [List.length_map, List.length_take]; omega
          have hown := ownsRow_belowQ (unhide HOWN) hbx
          generalize (D.take k).map appR = F at *
          have hownA := hown.alloc (.cells #[.string ynm, .string ylb, .int .i64 ypr, .bool ycf] 90)
          have hbW := (unhide HBW).trans (hbx.mono (unhide HBW).size)
          have hltw := hown.lt
          have H4 := hide hownA; have HBX := hide hbW; have HLT := hide hltw
          have hsz1 := hbW.size
          have HS1 := hide hsz1
          clear hown hownA hbW hltw hA hbx hsz1 hjl
          go_wp2_with (at_builtin; refine wpList_append_own _ rfl _ _ 23 rfl w1.heap.size 90 i0 (.agg #[.string ⟨#[]⟩, .string ⟨#[]⟩, .int .i64 0, .bool false]) 4 48 Tryz.underlying23 (unhide HI) (unhide Z0) (unhide Z1) (unhide Z2) rfl (by decide) _ _ _ rfl (unhide H4) ⟨wr.heap.size, 0, none⟩ 1 1 (cellsAQ ⟨ynm, ylb, ypr, ycf⟩) rfl rfl (fun j u hu => app_newQ wr ⟨ynm, ylb, ypr, ycf⟩ _ j u hu) ?c2 ?c3 ?c4 ?c5 ?_)
          case c2 => intro u hu; simp [cellsAQ] at hu; rcases hu with rfl | rfl | rfl | rfl <;> rfl
          case c3 => unfold maxLen; omega
          case c4 => omega
          case c5 => have := unhide HS1; simp; omega
          intro v' w5 hown' hgrow _
          have hb5 : Below w1.heap.size w1 w5 := ((unhide HBX).alloc (unhide HS1) _).grown hgrow (by have := unhide HS1; simp; omega) (fun q hq => (unhide HLT q hq).1)
          have hown5 : w5.ownsRow w1.heap.size 90 4 v' (F ++ [XApp.mk ynm ylb ypr ycf]).length (cellsLQ (F ++ [XApp.mk ynm ylb ypr ycf])) := by
            rw [cellsLQ_snoc, List.length_append, hfl]
            exact hown'
          have H5 := hide hown5; have HB5 := hide hb5
          clear hown' hgrow hown5 hb5 H4 HLT y0 y1 y2 y3 hfl
          go_wp2
          go_roundw
          case rel => exact ⟨k + 1, by omega, by go_num, by rw [unhide HST]; exact unhide H5, unhide HB5⟩
          case measure => simp [intOf]; omega
    · obtain rfl : k = D.length := by omega
      rw [List.take_length] at hown
      obtain ⟨ao2, cap2, rfl, hrow⟩ := rowApp_own hown (fun y hy => by
        obtain ⟨x, hx, rfl⟩ := List.mem_map.1 hy
        obtain ⟨i, hi, rfl⟩ := List.mem_iff_getElem.1 hx
        refine appR_ok 6 _ _ ?_
        have h1 := wt_get (d := 7) (List.getElem?_eq_getElem hi)
        have h2 : wt (7 + 1) D ≤ 65535 := unhide HWT
        have h3 : wt (6 + 1) D[i].list = wt 7 D[i].list := rfl
        omega) (by rw [unhide HL]; unfold maxLen; omega)
      have n3 := unhide HAT (D.map appR) ao2 cap2 wr hrow
      have HRL : Hid (readsL s = (readA (appP 7) s).getD []) := hide rfl
      have HRE : Hid (readsE s = if (readA (appP 7) s).isSome then 0 else 1) := hide rfl
      have HAS : Hid (appsS (D.map appR) = if appsE (D.map appR) = 0 then appsT (D.map appR) else ⟨#[]⟩) := hide rfl
      have HM := hide hrow
      have hbww : Below w.heap.size w wr := (unhide HB1).trans (hbw.mono (unhide HB1).size)
      have HBW := hide hbww
      clear hrow hown hbw hbww hlt
      rw [unhide HL] at n3 ⊢
      generalize appsE (D.map appR) = ae at *
      generalize appsS (D.map appR) = tA at *
      generalize appsT (D.map appR) = tB at *
      have N3 := hide n3
      clear n3
      by_cases hae : ae = 0
      case neg =>
        have t1 : (ae != 0) = true := by simpa using hae
        have hN : readsL s = [] ∧ readsE s = 1 := by
          rw [unhide HRL, unhide HRE, unhide HRD, if_neg (fun h => hae h.1)]
          exact ⟨rfl, rfl⟩
        have HN := hide hN
        clear hae hN
        go_wp2_with fail
        refine (unhide N3).mono ?_
        rintro e w3 ⟨rfl, hb3⟩
        go_wp2
        go_ret2
        refine ⟨⟨none, 0, ?_, ?_⟩, (unhide HBW).trans (hb3.mono (unhide HBW).size)⟩
        · rw [(unhide HN).1, (unhide HN).2]; rfl
        · rw [(unhide HN).1]; exact rowApp_nil _ _
      subst hae
      have hAS : tA = tB := by rw [unhide HAS, if_pos rfl]
      subst hAS
      by_cases hse : tA = s
      case neg =>
        have t2 : (tA.toList == s.toList) = false := toList_neQ hse
        have hN : readsL s = [] ∧ readsE s = 1 := by
          rw [unhide HRL, unhide HRE, unhide HRD, if_neg (fun h => hse h.2)]
          exact ⟨rfl, rfl⟩
        have HN := hide hN
        clear hse hN
        go_wp2_with fail
        refine (unhide N3).mono ?_
        rintro e w3 ⟨rfl, hb3⟩
        go_wp2
        go_ret2
        refine ⟨⟨none, 0, ?_, ?_⟩, (unhide HBW).trans (hb3.mono (unhide HBW).size)⟩
        · rw [(unhide HN).1, (unhide HN).2]; rfl
        · rw [(unhide HN).1]; exact rowApp_nil _ _
      subst hse
      have t2 : (tA.toList == tA.toList) = true := by simp
      have hN : readsL tA = D.map appR ∧ readsE tA = 0 := by
        rw [unhide HRL, unhide HRE, unhide HRD, if_pos ⟨rfl, rfl⟩]
        exact ⟨rfl, rfl⟩
      have HN := hide hN
      clear hN
      go_wp2_with fail
      refine (unhide N3).mono ?_
      rintro e w3 ⟨rfl, hb3⟩
      go_wp2
      go_ret2
      refine ⟨⟨ao2, cap2, ?_, ?_⟩, (unhide HBW).trans (hb3.mono (unhide HBW).size)⟩
      · rw [(unhide HN).1, (unhide HN).2, unhide HL]; rfl
      · rw [(unhide HN).1]; exact (unhide HM).below hb3
end Go.Proofs.YtfpglpefofcdeaaGreatDoor
namespace Go.Proofs.YtfpglpefofcdeaaGreatDoor
open Go.RowKit
set_option linter.unusedVariables false
set_option linter.unusedSimpArgs false
set_option maxRecDepth 100000

/-- a row of cells, some of them laid anew -/
def spl (cur : Array Value) : Nat → List Value → Array Value
  | _, [] => cur
  | i, v :: r => spl (cur.setIfInBounds i v) (i + 1) r
theorem setCells_spl (g : Nat) (t : TypeId) (fr : Nat × Nat) : ∀ (vs : List Value) (i : Nat) (cur : Array Value) (w : World), w.heap[g]? = some (.cells cur t fr) → w.setCells g i vs = w.setRow g (spl cur i vs)
  | [], i, cur, w, hg => (setRow_self w g cur t fr hg).symm
  | v :: r, i, cur, w, hg => by
    show (w.setCell ⟨g, i, none⟩ v).setCells g (i + 1) r = _
    rw [setCell_eq_setRow w g i cur t fr v hg, setCells_spl g t fr r (i + 1) (cur.setIfInBounds i v) _ (setRow_heap w g cur _ t _ hg), setRow_setRow]
    rfl
theorem there_row {w : World} {g : Nat} {cur : Array Value} {t : TypeId} (hg : w.heap[g]? = some (.cells cur t (0, 0))) {o n : Nat} (h : o + n ≤ cur.size) : w.there g o n := fun j hj =>
  ⟨by rw [cell_of_row _ _ (o + j) _ _ _ hg, Array.getElem?_eq_getElem (by omega)]; rfl, frozen_of_row _ _ (o + j) _ _ hg⟩
theorem wpList_store_spl {P : Program} {ops : Array Oper} {rest : List Oper} {op : Oper} {a : Act} {w : World} {Q : Exit → Act → World → Prop} (hgd : op.guard = none) (ty : TypeId) (x y : Operand) (ho : op.op = .store ty x y)
    (g o : Nat) (cells : Array Value) (hx : a.eval x = .pointer (some ⟨g, o, none⟩)) (hy : a.eval y = .agg cells) (t : TypeId) (old new : Array Value) (hg : w.heap[g]? = some (.cells old t (0, 0))) (hi : (P.info? ty).map (·.size) = some cells.size)
    (hs : o + cells.size ≤ old.size) (h1 : cells.all (·.oneCell') = true) (hn : spl old o cells.toList = new) (h : wpList P ops Q rest (a.put op.dst undef) (w.setRow g new)) : wpList P ops Q (op :: rest) a w :=
  wpList_plain hgd fun _ hK => wp_store_mid ty x y ho g o cells hx hy (there_row hg hs) hi h1 (by rw [setCells_spl g t (0, 0) cells.toList o old w hg, hn]; exact hK _ _ h)
theorem infoReply : (Tryz.prog.info? 35).map (·.size) = some 5 := by kernel_rfl
theorem infoCert : (Tryz.prog.info? 25).map (·.size) = some 2 := by kernel_rfl
theorem spl24_5 (v0 v1 v2 v3 v4 v5 v6 v7 v8 v9 v10 v11 v12 v13 v14 v15 v16 v17 v18 v19 v20 v21 v22 v23 r0 r1 r2 r3 r4 : Value) : spl #[v0, v1, v2, v3, v4, v5, v6, v7, v8, v9, v10, v11, v12, v13, v14, v15, v16, v17, v18, v19, v20, v21, v22, v23] 19 [r0, r1, r2, r3, r4] = #[v0, v1, v2, v3, v4, v5, v6, v7, v8, v9, v10, v11, v12, v13, v14, v15, v16, v17, v18, r0, r1, r2, r3, r4] := by kernel_rfl
theorem spl24_4 (v0 v1 v2 v3 v4 v5 v6 v7 v8 v9 v10 v11 v12 v13 v14 v15 v16 v17 v18 v19 v20 v21 v22 v23 r0 r1 r2 r3 : Value) : spl #[v0, v1, v2, v3, v4, v5, v6, v7, v8, v9, v10, v11, v12, v13, v14, v15, v16, v17, v18, v19, v20, v21, v22, v23] 8 [r0, r1, r2, r3] = #[v0, v1, v2, v3, v4, v5, v6, v7, r0, r1, r2, r3, v12, v13, v14, v15, v16, v17, v18, v19, v20, v21, v22, v23] := by kernel_rfl
theorem spl24_13 (v0 v1 v2 v3 v4 v5 v6 v7 v8 v9 v10 v11 v12 v13 v14 v15 v16 v17 v18 v19 v20 v21 v22 v23 f0 f1 f2 f3 f4 f5 f6 f7 f8 f9 f10 f11 f12 : Value) : spl #[v0, v1, v2, v3, v4, v5, v6, v7, v8, v9, v10, v11, v12, v13, v14, v15, v16, v17, v18, v19, v20, v21, v22, v23] 6 [f0, f1, f2, f3, f4, f5, f6, f7, f8, f9, f10, f11, f12] = #[v0, v1, v2, v3, v4, v5, f0, f1, f2, f3, f4, f5, f6, f7, f8, f9, f10, f11, f12, v19, v20, v21, v22, v23] := by kernel_rfl
theorem chain5 {w : World} {g : Nat} {t : TypeId} {fr : Nat × Nat} {v0 v1 v2 v3 v4 v5 v6 v7 v8 v9 v10 v11 v12 v13 v14 v15 v16 v17 v18 v19 v20 v21 v22 v23 : Value} (r0 r1 r2 r3 r4 : Value) (hx : w.heap[g]? = some (.cells #[v0, v1, v2, v3, v4, v5, v6, v7, v8, v9, v10, v11, v12, v13, v14, v15, v16, v17, v18, v19, v20, v21, v22, v23] t fr)) : ((((w.setCell ⟨g, 19, none⟩ r0).setCell ⟨g, 20, none⟩ r1).setCell ⟨g, 21, none⟩ r2).setCell ⟨g, 22, none⟩ r3).setCell ⟨g, 23, none⟩ r4 = w.setRow g #[v0, v1, v2, v3, v4, v5, v6, v7, v8, v9, v10, v11, v12, v13, v14, v15, v16, v17, v18, r0, r1, r2, r3, r4] := by
  have h := setCells_spl g t fr [r0, r1, r2, r3, r4] 19 _ w hx
  rw [spl24_5] at h
  exact h
theorem chain4 {w : World} {g : Nat} {t : TypeId} {fr : Nat × Nat} {v0 v1 v2 v3 v4 v5 v6 v7 v8 v9 v10 v11 v12 v13 v14 v15 v16 v17 v18 v19 v20 v21 v22 v23 : Value} (r0 r1 r2 r3 : Value) (hx : w.heap[g]? = some (.cells #[v0, v1, v2, v3, v4, v5, v6, v7, v8, v9, v10, v11, v12, v13, v14, v15, v16, v17, v18, v19, v20, v21, v22, v23] t fr)) : (((w.setCell ⟨g, 8, none⟩ r0).setCell ⟨g, 9, none⟩ r1).setCell ⟨g, 10, none⟩ r2).setCell ⟨g, 11, none⟩ r3 = w.setRow g #[v0, v1, v2, v3, v4, v5, v6, v7, r0, r1, r2, r3, v12, v13, v14, v15, v16, v17, v18, v19, v20, v21, v22, v23] := by
  have h := setCells_spl g t fr [r0, r1, r2, r3] 8 _ w hx
  rw [spl24_4] at h
  exact h
end Go.Proofs.YtfpglpefofcdeaaGreatDoor
