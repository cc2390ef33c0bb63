/- Parse of applications, of the program. -/
import Derived.Test.YtfpglpefofcdeaaGreatDoorM08
import Derived.Test.YtfpglpefofcdeaaGreatDoorM17
import Derived.Test.YtfpglpefofcdeaaGreatDoorM19
import Derived.Deep.RegionHeld3
namespace Go.Proofs.YtfpglpefofcdeaaGreatDoor
open Go.RowKit
set_option linter.unusedVariables false

set_option maxRecDepth 100000 in
set_option maxHeartbeats 2000000 in
theorem pparse_any (s : ByteArray) (w : World) (hs : s.size ≤ maxLen) :
    Calls Tryz.prog 93 #[.string s] w fun e w' => (∃ ao cap, e = .returned (.tuple #[.slice ao (readsL s).length cap, .int .i64 (readsE s)]) ∧ RowApp w' ao (readsL s)) ∧ Below w.heap.size w w' := by
  have n1 := parse_any s w hs
  by_cases he : parsesE s = 0
  case neg =>
    obtain ⟨h1, h2⟩ := parses_ne he
    rw [h1, h2]
    have t1 : (parsesE s != 0) = true := by simpa using he
    generalize parsesE s = pe at *
    generalize parsesL s = pl at *
    have N1 := hide n1
    clear n1 he h1 h2
    go_enter Tryz.func93, Tryz.ntmps93
    go_wp2_with fail
    refine (unhide N1).mono ?_
    rintro e w1 ⟨ao, cap, rfl, _, _, hb1⟩
    go_wp2
    go_ret2
    exact ⟨⟨none, 0, rfl, rowApp_nil _ _⟩, hb1⟩
  have hwt := parses_wt s
  have hln : (parsesL s).length ≤ wt 8 (parsesL s) := wt_length (d := 7) _
  have HRD : Hid (readA (appP 7) s = if appsE ((parsesL s).map (appP 7)) = 0 ∧ appsT ((parsesL s).map (appP 7)) = s then some ((parsesL s).map (appP 7)) else none) := hide (by
    unfold readA
    by_cases hc : appsE ((parsesL s).map (appP 7)) = 0 ∧ appsT ((parsesL s).map (appP 7)) = s
    · rw [if_pos ⟨he, hc⟩, if_pos hc]
    · rw [if_neg (fun h => hc h.2), if_neg hc])
  rw [he] at n1
  generalize parsesL s = D at *
  have hD : (D.length : Int) ≤ 65535 := by omega
  have HL : Hid ((D.map (appP 7)).length = D.length) := hide (List.length_map ..)
  have N1 := hide n1; have HWT := hide hwt
  obtain ⟨i0, hi, hz0, hz1, hz2⟩ := info_parts infoAppP
  clear n1 he hwt hln
  go_enter Tryz.func93, Tryz.ntmps93
  go_wp2_with fail
  refine (unhide N1).mono ?_
  rintro e w1 ⟨ao, cap, rfl, _, hrowA, hb1⟩
  have hrow := IRowA.row 8 hrowA
  clear hrowA
  have HROW := hide hrow; have HB1 := hide hb1
  clear hrow hb1
  go_wp2_with (at_make; refine wpList_make_full _ rfl _ _ 23 rfl w1.heap.size 90 i0 (.agg #[.string ⟨#[]⟩, .string ⟨#[]⟩, .int .i64 0, .bool false]) 4 Tryz.underlying23 hi hz0 hz1 .i64 .i64 _ _ D.length rfl rfl rfl rfl (by rw [hz2]; omega) (by unfold maxLen; omega) (Nat.le_refl _) ?_)
  intro w2 hown hgrow
  have hb2 : Below w1.heap.size w1 w2 := (Below.refl _ _).grown hgrow (Nat.le_refl _) (fun q hq => by cases hq)
  have hI : APart w2 w1.heap.size (D.map (appP 7)) 0 := by
    obtain ⟨cur, hh, hs⟩ := own_blockP hown
    exact ⟨cur, hh, by rw [unhide HL]; exact hs, fun i x hi _ => absurd hi (Nat.not_lt_zero _)⟩
  clear hown hgrow hi hz0 hz1 hz2
  have hg0 : w.heap.size ≤ w1.heap.size := (unhide HB1).size
  have HBG : Hid (∀ w' : World, Below w1.heap.size w1 w' → Below w.heap.size w w') := hide (fun w' hb => (unhide HB1).trans (hb.mono (unhide HB1).size))
  have HRG : Hid (∀ (w' : World) (d : Nat) (ao : Option Addr) (l : List It), Below w1.heap.size w1 w' → IRow w1 d ao l → IRow w' d ao l) := hide (fun w' d ao l hb hr => IRow.below hb _ hr)
  have HBL : Hid (∀ (b off : Nat) (l : List It), IRow w1 8 (some ⟨b, off, none⟩) l → l ≠ [] → b < w1.heap.size) := hide (fun b off l h hne => by
    rcases h with h | ⟨b', off', e, hlt, _⟩
    · exact absurd h hne
    · cases e; exact hlt)
  have HSZ1 : Hid (∀ w' : World, Below w1.heap.size w1 w' → w1.heap.size ≤ w'.heap.size) := hide (fun w' hb => hb.size)
  obtain ⟨g, hg⟩ : ∃ g, w1.heap.size = g := ⟨_, rfl⟩
  rw [hg] at HBG HRG HBL hb2 hI hg0 HSZ1
  rw [hg]
  clear hg
  go_wp2
  go_loopw [23] (fun i wr => ∃ k : Nat, k ≤ D.length ∧ i = .int .i64 k ∧ APart wr g (D.map (appP 7)) k ∧ Below g w1 wr) (fun i _ => D.length - (intOf i).toNat)
  case atStart => exact ⟨0, Nat.zero_le _, rfl, hI, hb2⟩
  case round =>
    clear hI hb2
    obtain ⟨k, hk, rfl, hI, hbw⟩ := hrel
    by_cases hlt : k < D.length
    · obtain ⟨x, hx⟩ : ∃ x, D[k]? = some x := ⟨_, List.getElem?_eq_getElem hlt⟩
      have hki : (k : Int) < (D.length : Int) := by omega
      rcases unhide HROW with hn | ⟨b, off, rfl, hbl, hcl⟩
      · rw [hn] at hlt; simp at hlt
      obtain ⟨co, cc, c0, c1, c2, _, hco, _, _⟩ := hcl k x hx
      clear hbl
      have hwx : wt 7 x.list ≤ 1048576 := by
        have h1 := wt_get (d := 7) hx
        have h2 : wt (7 + 1) D ≤ 65535 := unhide HWT
        omega
      have hgl := hI.lt
      have hbwx := hbw
      have n2 := fun w' (hb : Below g w1 w') => appOf_any 7 x co cc w' (unhide HRG _ _ _ _ hb hco) hwx
      have hbl := unhide HBL _ _ _ (unhide HROW) (List.ne_nil_of_mem (List.mem_of_getElem? hx))
      have d0 := (hbw.cell (p := ⟨b, off + k * 3, none⟩) hbl).trans c0
      have d1 := (hbw.cell (p := ⟨b, off + k * 3 + 1, none⟩) hbl).trans c1
      have d2 := (hbw.cell (p := ⟨b, off + k * 3 + 2, none⟩) hbl).trans c2
      have hxm : (D.map (appP 7))[k]? = some (appP 7 x) := by rw [List.getElem?_map, hx]; rfl
      have hV : valApp (appP 7 x) = .agg #[.string (appP 7 x).name, .string (appP 7 x).label, .int .i64 (appP 7 x).prio, .bool (appP 7 x).confirm] := rfl
      rw [hV] at n2
      generalize appP 7 x = y at *
      obtain ⟨nm, lb, pr, cf⟩ := y
      simp only at n2
      generalize x.tag = tg at *
      generalize x.text = tx at *
      generalize x.list.length = xl at *
      have N2 := hide n2; have HX := hide hxm; have HI := hide hI; have HBW := hide hbw
      clear hV n2 hxm hI hbw hbwx c0 c1 c2 hcl hco hwx hx
      go_wp2_with fail
      refine (unhide N2 _ (((unhide HBW).alloc (unhide HSZ1 _ (unhide HBW)) _))).mono ?_
      rintro e w3 ⟨rfl, hb3⟩
      have hbA := (Below.refl wr.heap.size wr).alloc (Nat.le_refl _) (.cells #[.int .i64 tg, .string tx, .slice co xl cc] 101)
      have hbB : Below wr.heap.size wr w3 := hbA.trans (hb3.mono (by simp))
      have hI3 := (unhide HI).below hbB
      have hbW : Below g w1 w3 := (unhide HBW).trans (hbB.mono (unhide HSZ1 _ (unhide HBW)))
      obtain ⟨cur, hh, hs', hc⟩ := hI3
      have zf : ∀ o, w3.frozen? ⟨g, o, none⟩ = false := fun o => frozen_of_row _ _ o _ _ hh
      have hk3 : k * 4 + 3 < cur.size := by rw [hs', unhide HL]; omega
      have z0 : ∃ u, w3.cell? ⟨g, k * 4, none⟩ = some u := ⟨cur[k * 4]'(by omega), by rw [cell_of_row _ _ _ _ _ _ hh]; exact Array.getElem?_eq_getElem (by omega)⟩
      have z1 : ∃ u, w3.cell? ⟨g, k * 4 + 1, none⟩ = some u := ⟨cur[k * 4 + 1]'(by omega), by rw [cell_of_row _ _ _ _ _ _ hh]; exact Array.getElem?_eq_getElem (by omega)⟩
      have z2 : ∃ u, w3.cell? ⟨g, k * 4 + 2, none⟩ = some u := ⟨cur[k * 4 + 2]'(by omega), by rw [cell_of_row _ _ _ _ _ _ hh]; exact Array.getElem?_eq_getElem (by omega)⟩
      have z3 : ∃ u, w3.cell? ⟨g, k * 4 + 3, none⟩ = some u := ⟨cur[k * 4 + 3]'(by omega), by rw [cell_of_row _ _ _ _ _ _ hh]; exact Array.getElem?_eq_getElem (by omega)⟩
      obtain ⟨u0, z0⟩ := z0
      obtain ⟨u1, z1⟩ := z1
      obtain ⟨u2, z2⟩ := z2
      obtain ⟨u3, z3⟩ := z3
      have HI3 : Hid (APart w3 g (D.map (appP 7)) k) := hide ⟨cur, hh, hs', hc⟩
      have HBW3 := hide hbW
      have HG1 : Hid (g ≤ g) := hide (Nat.le_refl _)
      clear hbA hbB hbW hh hs' hc hk3 hb3
      go_wp2
      go_roundw
      case rel =>
        have hnx := (unhide HI3).next (unhide HX)
        simp only at hnx
        exact ⟨k + 1, by omega, by go_num, hnx, (((((unhide HBW3).setCell (unhide HG1) _).setCell (unhide HG1) _).setCell (unhide HG1) _).setCell (unhide HG1) _)⟩
      case measure => simp [intOf]; omega
    · obtain rfl : k = D.length := by omega
      have hrow : RowApp wr (some ⟨g, 0, none⟩) (D.map (appP 7)) := by
        refine APart.row (by rw [unhide HL]; exact hI) (fun y hy => ?_) (by rw [unhide HL]; unfold maxLen; omega)
        obtain ⟨x, hx, rfl⟩ := List.mem_map.1 hy
        obtain ⟨i, hi, rfl⟩ := List.mem_iff_getElem.1 hx
        refine appP_ok 7 _ _ ?_
        have h1 := wt_get (d := 7) (List.getElem?_eq_getElem hi)
        have h2 : wt (7 + 1) D ≤ 65535 := unhide HWT
        omega
      have n3 := pprint_any (D.map (appP 7)) (some ⟨g, 0, none⟩) D.length wr hrow
      have HRL : Hid (readsL s = (readA (appP 7) s).getD []) := hide rfl
      have HRE : Hid (readsE s = if (readA (appP 7) s).isSome then 0 else 1) := hide rfl
      have HAS : Hid (appsS (D.map (appP 7)) = if appsE (D.map (appP 7)) = 0 then appsT (D.map (appP 7)) else ⟨#[]⟩) := hide rfl
      have HM := hide hrow
      have hbww : Below w.heap.size w wr := unhide HBG _ hbw
      have HBW := hide hbww
      clear hrow hI hbw hbww hlt
      rw [unhide HL] at n3
      generalize appsE (D.map (appP 7)) = ae at *
      generalize appsS (D.map (appP 7)) = tA at *
      generalize appsT (D.map (appP 7)) = tB at *
      have N3 := hide n3
      clear n3
      by_cases hae : ae = 0
      case neg =>
        have t1 : (ae != 0) = true := by simpa using hae
        have hN : readsL s = [] ∧ readsE s = 1 := by
          rw [unhide HRL, unhide HRE, unhide HRD, if_neg (fun h => hae h.1)]
          exact ⟨rfl, rfl⟩
        have HN := hide hN
        clear hae hN
        go_wp2_with fail
        refine (unhide N3).mono ?_
        rintro e w3 ⟨rfl, hb3⟩
        go_wp2
        go_ret2
        refine ⟨⟨none, 0, ?_, ?_⟩, (unhide HBW).trans (hb3.mono (unhide HBW).size)⟩
        · rw [(unhide HN).1, (unhide HN).2]; rfl
        · rw [(unhide HN).1]; exact rowApp_nil _ _
      subst hae
      have hAS : tA = tB := by rw [unhide HAS, if_pos rfl]
      subst hAS
      by_cases hse : tA = s
      case neg =>
        have t2 : (tA.toList == s.toList) = false := toList_neQ hse
        have hN : readsL s = [] ∧ readsE s = 1 := by
          rw [unhide HRL, unhide HRE, unhide HRD, if_neg (fun h => hse h.2)]
          exact ⟨rfl, rfl⟩
        have HN := hide hN
        clear hse hN
        go_wp2_with fail
        refine (unhide N3).mono ?_
        rintro e w3 ⟨rfl, hb3⟩
        go_wp2
        go_ret2
        refine ⟨⟨none, 0, ?_, ?_⟩, (unhide HBW).trans (hb3.mono (unhide HBW).size)⟩
        · rw [(unhide HN).1, (unhide HN).2]; rfl
        · rw [(unhide HN).1]; exact rowApp_nil _ _
      subst hse
      have t2 : (tA.toList == tA.toList) = true := by simp
      have hN : readsL tA = D.map (appP 7) ∧ readsE tA = 0 := by
        rw [unhide HRL, unhide HRE, unhide HRD, if_pos ⟨rfl, rfl⟩]
        exact ⟨rfl, rfl⟩
      have HN := hide hN
      clear hN
      go_wp2_with fail
      refine (unhide N3).mono ?_
      rintro e w3 ⟨rfl, hb3⟩
      go_wp2
      go_ret2
      refine ⟨⟨some ⟨g, 0, none⟩, D.length, ?_, ?_⟩, (unhide HBW).trans (hb3.mono (unhide HBW).size)⟩
      · rw [(unhide HN).1, (unhide HN).2, unhide HL]; rfl
      · rw [(unhide HN).1]; exact (unhide HM).below hb3
end Go.Proofs.YtfpglpefofcdeaaGreatDoor
namespace Go.Proofs.YtfpglpefofcdeaaGreatDoor
open Go.RowKit
set_option linter.unusedVariables false
set_option linter.unusedSimpArgs false
set_option maxRecDepth 100000

set_option maxHeartbeats 2000000 in
theorem hcert_any (n m : Int) (d : Nat) (l : List It) (ao : Option Addr) (cap : Nat) (w : World) (hr : IRow w d ao l) (hw : wt d l ≤ 1048576) :
    Calls Tryz.prog 60 #[.slice ao l.length cap, .int .i64 n, .int .i64 m] w fun e w' => e = .returned (.agg #[.string (gotT n d l), .string (gotT m d l)]) ∧ Below w.heap.size w w' := by
  obtain ⟨W1, hW1⟩ : ∃ W1, W1 = w.alloc (.cells #[.string ⟨#[]⟩, .string ⟨#[]⟩] 25) := ⟨_, rfl⟩
  have hB1 : Below w.heap.size w W1 := by rw [hW1]; exact (Below.refl _ _).alloc (Nat.le_refl _) _
  have hX1 : W1.heap[w.heap.size]? = some (.cells #[.string ⟨#[]⟩, .string ⟨#[]⟩] 25) := by rw [hW1]; exact heap_alloc_new _ _
  have hr1 := hr.below hB1
  have N1 := hide (fun (W : World) (hb : Below W1.heap.size W1 W) => htext_any n d l ao cap W (hr1.below hb) hw)
  have N2 := hide (fun (W : World) (hb : Below W1.heap.size W1 W) => htext_any m d l ao cap W (hr1.below hb) hw)
  generalize gotT n d l = s1 at *
  generalize gotT m d l = s2 at *
  have HB1 := hide hB1; have HX1 := hide hX1; have HW1 := hide hW1
  clear hr hw hW1 hB1 hX1 hr1
  go_enter Tryz.func60, Tryz.ntmps60
  go_upto_region 1 with fail
  rw [← unhide HW1]
  go_wp2_with fail
  refine (unhide N1 _ (Below.refl _ _)).mono ?_
  rintro e y1 ⟨rfl, k1⟩
  have HK1 := hide k1
  clear k1
  go_wp2_with fail
  refine (unhide N2 _ (unhide HK1)).mono ?_
  rintro e y2 ⟨rfl, k2⟩
  have k3 := (unhide HK1).trans (k2.mono (unhide HK1).size)
  have x2 := (k3.block _ (block_ltQ (unhide HX1))).trans (unhide HX1)
  have c0 : y2.cell? ⟨w.heap.size, 0, none⟩ = some (.string ⟨#[]⟩) := cell_of_row _ _ 0 _ _ _ x2
  have c1 : y2.cell? ⟨w.heap.size, 1, none⟩ = some (.string ⟨#[]⟩) := cell_of_row _ _ 1 _ _ _ x2
  have f0 : y2.frozen? ⟨w.heap.size, 0, none⟩ = false := frozen_of_row _ _ 0 _ _ x2
  have f1 : y2.frozen? ⟨w.heap.size, 1, none⟩ = false := frozen_of_row _ _ 1 _ _ x2
  have HB := hide ((((unhide HB1).trans (k3.mono (unhide HB1).size)).setCell (p := ⟨w.heap.size, 0, none⟩) (Nat.le_refl _) (.string s1)).setCell (p := ⟨w.heap.size, 1, none⟩) (Nat.le_refl _) (.string s2))
  have HZ : Hid (((y2.setCell ⟨w.heap.size, 0, none⟩ (.string s1)).setCell ⟨w.heap.size, 1, none⟩ (.string s2)).heap[w.heap.size]? = some (.cells #[.string s1, .string s2] 25)) := hide (by simp [World.setCell, Array.getElem?_modify, x2])
  clear k2 k3 x2
  go_wp2
  refine bodyPost_ret (v := .agg #[.string s1, .string s2]) ?_ rfl ⟨rfl, unhide HB⟩
  have z := unhide HZ
  have z0 : ((y2.setCell ⟨w.heap.size, 0, none⟩ (.string s1)).setCell ⟨w.heap.size, 1, none⟩ (.string s2)).cell? ⟨w.heap.size, 0, none⟩ = some (.string s1) := cell_of_row _ _ 0 _ _ _ z
  have z1 : ((y2.setCell ⟨w.heap.size, 0, none⟩ (.string s1)).setCell ⟨w.heap.size, 1, none⟩ (.string s2)).cell? ⟨w.heap.size, 1, none⟩ = some (.string s2) := cell_of_row _ _ 1 _ _ _ z
  clear z
  generalize (y2.setCell ⟨w.heap.size, 0, none⟩ (.string s1)).setCell ⟨w.heap.size, 1, none⟩ (.string s2) = W9 at *
  simp [results, Tryz.results60, go_sem, z0, z1]
set_option maxHeartbeats 2000000 in
theorem happs_any (n : Int) (d : Nat) (l : List It) (ao : Option Addr) (cap : Nat) (w : World) (hr : IRow w d ao l) (hw : wt d l ≤ 1048576) (hs : (gotT n d l).size ≤ maxLen) :
    Calls Tryz.prog 62 #[.slice ao l.length cap, .int .i64 n] w fun e w' => (∃ ro rc, e = .returned (.slice ro (readsL (gotT n d l)).length rc) ∧ RowApp w' ro (readsL (gotT n d l))) ∧ Below w.heap.size w w' := by
  have N1 := hide (htext_any n d l ao cap w hr hw)
  have N2 := hide (fun W => pparse_any (gotT n d l) W hs)
  generalize gotT n d l = s1 at *
  clear hr hw hs
  go_enter Tryz.func62, Tryz.ntmps62
  go_wp2_with fail
  refine (unhide N1).mono ?_
  rintro e y1 ⟨rfl, k1⟩
  have HK1 := hide k1
  clear k1
  go_wp2_with fail
  refine (unhide N2 _).mono ?_
  rintro e y2 ⟨⟨ro, rc, rfl, hrow⟩, k2⟩
  have HK2 := hide ((unhide HK1).trans (k2.mono (unhide HK1).size)); have HROW := hide hrow
  clear k2 hrow
  go_wp2
  go_ret
  exact ⟨⟨_, _, rfl, unhide HROW⟩, unhide HK2⟩
end Go.Proofs.YtfpglpefofcdeaaGreatDoor
namespace Go.Proofs.YtfpglpefofcdeaaGreatDoor
open Go.RowKit
set_option linter.unusedVariables false
set_option linter.unusedSimpArgs false
set_option maxRecDepth 100000

def maskD (s : ByteArray) : Int := if s.size = 6 then readV (s.extract 0 2) else 0
def maskO (s : ByteArray) : Int := if s.size = 6 then readV (s.extract 2 4) else 0
def maskF (s : ByteArray) : Int := if s.size = 6 then readV (s.extract 4 s.size) else 0
set_option maxHeartbeats 4000000 in
theorem masksOf_any (s : ByteArray) (w : World) :
    Calls Tryz.prog 96 #[.string s] w fun e w' => e = .returned (.agg #[.int .i64 (maskD s), .int .i64 (maskO s), .int .i64 (maskF s)]) ∧ Below w.heap.size w w' := by
  have HB := hide (fun o : Obj => (Below.refl w.heap.size w).alloc (Nat.le_refl _) o)
  unfold maskD maskO maskF
  by_cases h : s.size = 6
  case neg =>
    rw [if_neg h, if_neg h, if_neg h]
    have t1 : ((s.size : Int) != 6) = true := by simp; omega
    clear h
    go_enter Tryz.func96, Tryz.ntmps96
    go_wp2
    exact bodyPost_ret (v := .agg #[.int .i64 0, .int .i64 0, .int .i64 0]) (by simp [results, Tryz.results96, go_sem]) rfl ⟨rfl, unhide HB _⟩
  rw [if_pos h, if_pos h, if_pos h]
  have t1 : ((s.size : Int) != 6) = false := by simp; omega
  have hsi : (s.size : Int) = 6 := by omega
  have n0 := fun w => tnumber_any (s.extract 0 2) w (by rw [ByteArray.size_extract]; unfold maxLen; omega)
  have hsl0 : ∀ wx, (Instr.slice 9 (.string s) none (some (.int .i64 2)) none).run Tryz.prog wx = .ok (.string (s.extract 0 2)) wx := fun wx => run_slice_string_h (P := Tryz.prog) wx 9 s Tryz.underlying9 .i64 2 (by omega) (by omega)
  have n1 := fun w => tnumber_any (s.extract 2 4) w (by rw [ByteArray.size_extract]; unfold maxLen; omega)
  have hsl1 : ∀ wx, (Instr.slice 9 (.string s) (some (.int .i64 2)) (some (.int .i64 4)) none).run Tryz.prog wx = .ok (.string (s.extract 2 4)) wx := fun wx => run_slice_string (P := Tryz.prog) wx 9 s .i64 .i64 2 4 Tryz.underlying9 (by omega) (by omega) (by omega)
  have n2 := fun w => tnumber_any (s.extract 4 s.size) w (by rw [ByteArray.size_extract]; unfold maxLen; omega)
  have hsl2 : ∀ wx, (Instr.slice 9 (.string s) (some (.int .i64 4)) none none).run Tryz.prog wx = .ok (.string (s.extract 4 s.size)) wx := fun wx => run_slice_string_l (P := Tryz.prog) wx 9 s Tryz.underlying9 .i64 4 (by omega) (by omega)
  generalize readV (s.extract 0 2) = v0 at *
  generalize readV (s.extract 2 4) = v1 at *
  generalize readV (s.extract 4 s.size) = v2 at *
  generalize s.extract 0 2 = p0 at *
  generalize s.extract 2 4 = p1 at *
  generalize s.extract 4 s.size = p2 at *
  have N0 := hide n0; have N1 := hide n1; have N2 := hide n2
  clear n0 n1 n2 h
  go_enter Tryz.func96, Tryz.ntmps96
  go_wp2_with fail
  go_region_held3 (fun _ => True) (exact trivial)
    ((first | (go_at_call_of 98 (Value.string p0); refine (unhide N0 _).mono ?_; rintro e y0 ⟨rfl, hy⟩; subst hy) | (go_at_call_of 98 (Value.string p1); refine (unhide N1 _).mono ?_; rintro e y1 ⟨rfl, hy⟩; subst hy) | (go_at_call_of 98 (Value.string p2); refine (unhide N2 _).mono ?_; rintro e y2 ⟨rfl, hy⟩; subst hy)))
  all_goals
    go_wp2
    exact bodyPost_ret (v := .agg #[.int .i64 v0, .int .i64 v1, .int .i64 v2]) (by simp [results, Tryz.results96, go_sem]) rfl ⟨rfl, (unhide HB _).drew⟩
/-- a row taken apart into the parts that are there whole -/
def cutR : Nat → ByteArray → List ByteArray
  | 0, _ => []
  | k + 1, s => if s.size < 4 then [] else
      let n := readV (s.extract 0 4)
      let r := s.extract 4 s.size
      if (r.size : Int) < n then [] else r.extract 0 n.toNat :: cutR k (r.extract n.toNat r.size)
def sC (s : ByteArray) : List Value := [.string s]
def rowT : List ByteArray → List Value
  | [] => []
  | s :: l => .string s :: rowT l
theorem rowT_snoc (l : List ByteArray) (s : ByteArray) : rowT (l ++ [s]) = rowT l ++ [.string s] := by
  induction l with
  | nil => rfl
  | cons x l ih => simp [rowT, ih]
theorem rowT_len (l : List ByteArray) : (rowT l).length = l.length := by
  induction l with
  | nil => rfl
  | cons x l ih => simp [rowT, ih]
theorem infoStrT : (Tryz.prog.info? 9).map (fun i => (i.zero, i.size, i.bytes)) = some (some (.string ⟨#[]⟩), 1, 16) := by kernel_rfl
theorem cutR_some {k : Nat} {s : ByteArray} (h4 : ¬ s.size < 4) (hn : ¬ (((s.extract 4 s.size).size : Int) < readV (s.extract 0 4))) : cutR (k + 1) s = (s.extract 4 s.size).extract 0 (readV (s.extract 0 4)).toNat :: cutR k ((s.extract 4 s.size).extract (readV (s.extract 0 4)).toNat (s.extract 4 s.size).size) := by
  rw [cutR, if_neg h4]
  simp only [if_neg hn]
theorem cutR_none {k : Nat} {s : ByteArray} (h : s.size < 4 ∨ ((s.extract 4 s.size).size : Int) < readV (s.extract 0 4)) : cutR (k + 1) s = [] := by
  rw [cutR]
  by_cases h4 : s.size < 4
  · rw [if_pos h4]
  · rw [if_neg h4]
    simp only [if_pos (h.resolve_left h4)]
set_option maxHeartbeats 4000000 in
theorem cutRow_any (s : ByteArray) (w : World) (hs : s.size ≤ 65535) :
    Calls Tryz.prog 92 #[.string s] w fun e w' => (∃ v, e = .returned v ∧ w'.ownsRow w.heap.size 9 1 v (cutR 65536 s).length (rowT (cutR 65536 s))) ∧ Below w.heap.size w w' := by
  obtain ⟨i0, hi, hz0, hz1, hz2⟩ := info_parts infoStrT
  obtain ⟨T, hT⟩ : ∃ T, T = cutR 65536 s := ⟨_, rfl⟩
  rw [← hT]
  have HT := hide hT
  have HI := hide hi; have Z0 := hide hz0; have Z1 := hide hz1; have Z2 := hide hz2; have HSZ := hide hs
  clear hi hz0 hz1 hz2 hT hs
  go_enter Tryz.func92, Tryz.ntmps92
  go_wp2
  go_loopw [0, 3] (fun sv lv wx => ∃ (t : ByteArray) (l : List ByteArray), sv = .string t ∧ t.size + 4 * l.length ≤ 65535 ∧ T = l ++ cutR (65536 - l.length) t ∧ wx.ownsRow w.heap.size 9 1 lv l.length (rowT l) ∧ Below w.heap.size w wx) (fun sv _ _ => match sv with | .string t => t.size | _ => 0)
  case atStart => exact ⟨s, [], rfl, by have := unhide HSZ; simpa using this, unhide HT, World.ownsRow_nil _ _ _ _, Below.refl _ _⟩
  case round =>
    obtain ⟨t, l, rfl, hz, hTl, ho, hbw⟩ := hrel
    obtain ⟨k, hk⟩ : ∃ k, 65536 - l.length = k + 1 := ⟨65535 - l.length, by omega⟩
    rw [hk] at hTl
    by_cases h4 : t.size < 4
    · rw [cutR_none (.inl h4), List.append_nil] at hTl
      have h4i : ¬ 4 ≤ (t.size : Int) := by omega
      have HO : Hid (wr.ownsRow w.heap.size 9 1 u3 T.length (rowT T)) := hide (by rw [hTl]; exact ho)
      have HB := hide hbw
      clear ho hbw hTl hz hk
      go_wp2
      go_ret
      exact ⟨⟨_, rfl, unhide HO⟩, unhide HB⟩
    · have h4i : 4 ≤ (t.size : Int) := by omega
      obtain ⟨p, hp⟩ : ∃ p, p = t.extract 0 4 := ⟨_, rfl⟩
      obtain ⟨r, hr⟩ : ∃ r, r = t.extract 4 t.size := ⟨_, rfl⟩
      have hps : p.size ≤ maxLen := by rw [hp, ByteArray.size_extract]; unfold maxLen; omega
      have hrs : r.size = t.size - 4 := by rw [hr, ByteArray.size_extract]; omega
      have hb := readV_bound p
      obtain ⟨m, hm⟩ : ∃ m : Nat, readV p = (m : Int) := ⟨(readV p).toNat, by omega⟩
      have N1 := hide (fun W => tnumber_any p W hps)
      rw [hm] at N1
      have hslA : ∀ wx, (Instr.slice 9 (.string t) none (some (.int .i64 4)) none).run Tryz.prog wx = .ok (.string p) wx := fun wx => by rw [hp]; exact run_slice_string_h (P := Tryz.prog) wx 9 t Tryz.underlying9 .i64 4 (by omega) (by omega)
      have hslB : ∀ wx, (Instr.slice 9 (.string t) (some (.int .i64 4)) none none).run Tryz.prog wx = .ok (.string r) wx := fun wx => by rw [hr]; exact run_slice_string_l (P := Tryz.prog) wx 9 t Tryz.underlying9 .i64 4 (by omega) (by omega)
      by_cases hn : (r.size : Int) < (m : Int)
      · rw [cutR_none (.inr (by rw [← hp, ← hr, hm]; exact hn)), List.append_nil] at hTl
        have HO : Hid (wr.ownsRow w.heap.size 9 1 u3 T.length (rowT T)) := hide (by rw [hTl]; exact ho)
        have HB := hide hbw
        clear ho hbw hTl hz hk hp hr hps hrs hb hm h4
        go_wp2_with fail
        refine (unhide N1 _).mono ?_
        rintro e w1 ⟨rfl, hw⟩
        have hw' := hw.symm
        subst hw'
        go_wp2
        go_ret
        exact ⟨⟨_, rfl, unhide HO⟩, unhide HB⟩
      · obtain ⟨x, hx⟩ : ∃ x, x = r.extract 0 m := ⟨_, rfl⟩
        obtain ⟨r2, hr2⟩ : ∃ r2, r2 = r.extract m r.size := ⟨_, rfl⟩
        have hr2s : r2.size = r.size - m := by rw [hr2, ByteArray.size_extract]; omega
        have hcut : cutR (k + 1) t = x :: cutR k r2 := by
          rw [cutR_some h4 (by rw [← hp, ← hr, hm]; exact hn), ← hp, ← hr, hm, hx, hr2]
          rfl
        have hslC : ∀ wx, (Instr.slice 9 (.string r) none (some (.int .i64 (m : Int))) none).run Tryz.prog wx = .ok (.string x) wx := fun wx => by rw [hx]; exact slice_to r m (by omega) wx
        have hslD : ∀ wx, (Instr.slice 9 (.string r) (some (.int .i64 (m : Int))) none none).run Tryz.prog wx = .ok (.string r2) wx := fun wx => by rw [hr2]; exact slice_from r m (by omega) wx
        have hTl2 : T = l ++ [x] ++ cutR (65536 - (l ++ [x]).length) r2 := by
          rw [hTl, hcut, List.length_append, List.length_singleton, show 65536 - (l.length + 1) = k by omega]
          simp
        have hz2 : r2.size + 4 * (l ++ [x]).length ≤ 65535 := by rw [List.length_append, List.length_singleton]; omega
        have hll : l.length ≤ 20000 := by omega
        have hms : r2.size < t.size := by omega
        have HT2 := hide hTl2; have HZ2 := hide hz2; have HLL := hide hll; have HMS := hide hms; have HO := hide ho; have HB := hide hbw
        clear ho hbw hTl hz hk hp hr hps hrs hb hm h4 hx hr2 hr2s hcut hTl2 hz2 hll hms
        go_wp2_with fail
        refine (unhide N1 _).mono ?_
        rintro e w1 ⟨rfl, hw⟩
        have hw' := hw.symm
        subst hw'
        go_wp2_with (at_builtin; refine wpList_append_own _ rfl _ _ 83 rfl w.heap.size 9 i0 (.string ⟨#[]⟩) 1 16 Tryz.underlying83 (unhide HI) (unhide Z0) (unhide Z1) (unhide Z2) rfl (by decide) _ _ _ rfl ((unhide HO).alloc _) ⟨wr.heap.size, 0, none⟩ 1 1 [.string x] rfl rfl (World.news_of_block (heap_alloc_new _ _)) ?c2 ?c3 ?c4 ?c5 ?_)
        try (case c2 => intro u hu; simp at hu; subst hu; rfl)
        try (case c3 => have := unhide HLL; unfold maxLen; omega)
        try (case c4 => have := unhide HLL; omega)
        try (case c5 => have := (unhide HB).size; simp; omega)
        intro v5 w5 hown5 hgrow5 _
        have ho5 : w5.ownsRow w.heap.size 9 1 v5 (l ++ [x]).length (rowT (l ++ [x])) := by rw [rowT_snoc, List.length_append]; exact hown5
        have hb5 : Below w.heap.size w w5 := ((unhide HB).alloc (unhide HB).size (.cells #[.string x] 9)).grown hgrow5 (by have := (unhide HB).size; simp; omega) (fun j hj => ((unhide HO).lt j hj).1)
        have HO5 := hide ho5; have HB5 := hide hb5
        clear ho5 hb5 hown5 hgrow5
        go_wp2
        go_roundw
        case rel => exact ⟨r2, l ++ [x], rfl, unhide HZ2, unhide HT2, unhide HO5, unhide HB5⟩
        case measure => exact unhide HMS
end Go.Proofs.YtfpglpefofcdeaaGreatDoor
