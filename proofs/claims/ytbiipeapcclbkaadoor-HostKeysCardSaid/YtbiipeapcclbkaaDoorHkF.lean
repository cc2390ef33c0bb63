/- host's New. (Made by wip/drafts/genHkF.py.) -/
import Derived.Test.YtbiipeapcclbkaaDoorHkE
import Derived.Deep.RegionHeld3
namespace Go.Proofs.YtbiipeapcclbkaaDoor
open Go.RowKit Go.WideMaps Go.Maps
set_option linter.unusedVariables false
set_option linter.unusedSimpArgs false
set_option maxRecDepth 100000

theorem blkLtH {w : World} {g : Nat} {o : Obj} (h : w.heap[g]? = some o) : g < w.heap.size := by
  rcases Nat.lt_or_ge g w.heap.size with h1 | h1
  · exact h1
  · rw [Array.getElem?_eq_none h1] at h; cases h
abbrev mapM (w : World) (m : Nat) (g : Int → Option KV) (ks : List Int) : Prop := XMap rdM 3 (fun a : Int => .int .i64 a) InX w m g ks
abbrev mapL (w : World) (m : Nat) (g : Int → Option (Option Nat)) (ks : List Int) : Prop := XMap rdA 3 (fun a : Int => .int .i64 a) InX w m g ks
abbrev mapA (w : World) (m : Nat) (g : ByteArray → Option (Option Nat)) (ks : List ByteArray) : Prop := XMap rdA 9 (fun a : ByteArray => .string a) (fun a => a.size ≤ maxLen) w m g ks
def hostObj (m : Nat) : Obj := .cells #[.map (some m), .map (some (m + 1)), .map (some (m + 1 + 1)), .map (some (m + 1 + 1 + 1))] 50
/-- a host in memory: its four maps lie from m on, its block behind them -/
structure HostAt (w : World) (m : Nat) (gm : Int → Option KV) (km : List Int) (ga : ByteArray → Option (Option Nat)) (ka : List ByteArray) : Prop where
  box : w.heap[m + 1 + 1 + 1 + 1]? = some (hostObj m)
  mas : mapM w m gm km
  acc : mapA w (m + 1 + 1) ga ka
theorem HostAt.below {w w' : World} {m : Nat} {gm : Int → Option KV} {km : List Int} {ga : ByteArray → Option (Option Nat)} {ka : List ByteArray} (h : HostAt w m gm km ga ka) (hb : Below w.heap.size w w') : HostAt w' m gm km ga ka :=
  ⟨(hb.block _ (blkLtH h.box)).trans h.box, h.mas.below hb, h.acc.below hb⟩
/-- the host while it is made -/
structure NewAt (w0 w : World) (m : Nat) (gm : Int → Option KV) (km : List Int) (gl : Int → Option (Option Nat)) (kl : List Int) : Prop where
  host : HostAt w m gm km (fun _ => none) []
  lnk : mapL w (m + 1) gl kl
  pay : m + 1 + 1 + 1 < w.heap.size
  mB : w0.heap.size ≤ m
  bel : Below w0.heap.size w0 w
theorem NewAt.below {w0 w w' : World} {m : Nat} {gm : Int → Option KV} {km : List Int} {gl : Int → Option (Option Nat)} {kl : List Int} (h : NewAt w0 w m gm km gl kl) (hb : Below w.heap.size w w') : NewAt w0 w' m gm km gl kl :=
  ⟨h.host.below hb, h.lnk.below hb, Nat.lt_of_lt_of_le h.pay hb.size, h.mB, h.bel.trans (hb.mono h.bel.size)⟩
theorem NewAt.putM {w0 w w' : World} {m : Nat} {gm gm' : Int → Option KV} {km km' : List Int} {gl : Int → Option (Option Nat)} {kl : List Int} (h : NewAt w0 w m gm km gl kl) (hm : mapM w' m gm' km') (hg : w.grownBy w' (some m)) : NewAt w0 w' m gm' km' gl kl := by
  have hb : ∀ i, i < w.heap.size → i ≠ m → w'.heap[i]? = w.heap[i]? := fun i hi hne => hg.block i hi (by simpa using hne)
  have l1 := blkLtH h.host.box
  have l2 := h.host.acc.lt
  have l3 := h.lnk.lt
  refine ⟨⟨(hb _ l1 (by omega)).trans h.host.box, hm, h.host.acc.of_block (hb _ l2 (by omega))⟩, h.lnk.of_block (hb _ l3 (by omega)), Nat.lt_of_lt_of_le h.pay hg.size, h.mB, h.bel.grown hg h.bel.size (fun j hj => by cases hj; exact h.mB)⟩
theorem NewAt.putL {w0 w w' : World} {m : Nat} {gm : Int → Option KV} {km : List Int} {gl gl' : Int → Option (Option Nat)} {kl kl' : List Int} (h : NewAt w0 w m gm km gl kl) (hm : mapL w' (m + 1) gl' kl') (hg : w.grownBy w' (some (m + 1))) : NewAt w0 w' m gm km gl' kl' := by
  have hb : ∀ i, i < w.heap.size → i ≠ m + 1 → w'.heap[i]? = w.heap[i]? := fun i hi hne => hg.block i hi (by simpa using hne)
  have l1 := blkLtH h.host.box
  have l2 := h.host.acc.lt
  have l3 := h.host.mas.lt
  refine ⟨⟨(hb _ l1 (by omega)).trans h.host.box, h.host.mas.of_block (hb _ l3 (by omega)), h.host.acc.of_block (hb _ l2 (by omega))⟩, hm, Nat.lt_of_lt_of_le h.pay hg.size, h.mB, h.bel.grown hg h.bel.size (fun j hj => by cases hj; have := h.mB; omega)⟩
theorem new_start (w0 w : World) (hb : Below w0.heap.size w0 w) :
    NewAt w0 (((((w.alloc (.map #[] 0)).alloc (.map #[] 0)).alloc (.map #[] 0)).alloc (.map #[] 0)).alloc (hostObj w.heap.size)) w.heap.size (fun _ => none) [] (fun _ => none) [] := by
  have s0 := hb.size
  have q1 : Below w.heap.size w (w.alloc (.map #[] 0)) := (Below.refl _ _).alloc (Nat.le_refl _) _
  have s1 : (w.alloc (.map #[] 0)).heap.size = w.heap.size + 1 := by simp
  have s2 : ((w.alloc (.map #[] 0)).alloc (.map #[] 0)).heap.size = w.heap.size + 1 + 1 := by simp
  have s3 : (((w.alloc (.map #[] 0)).alloc (.map #[] 0)).alloc (.map #[] 0)).heap.size = w.heap.size + 1 + 1 + 1 := by simp
  have s4 : ((((w.alloc (.map #[] 0)).alloc (.map #[] 0)).alloc (.map #[] 0)).alloc (.map #[] 0)).heap.size = w.heap.size + 1 + 1 + 1 + 1 := by simp
  have a1 : ∀ (u : World) (o : Obj), Below u.heap.size u (u.alloc o) := fun u o => (Below.refl _ _).alloc (Nat.le_refl _) _
  have m1 := XMap.made rdM 3 (fun a : Int => .int .i64 a) InX w
  have m2 := XMap.made rdA 3 (fun a : Int => .int .i64 a) InX (w.alloc (.map #[] 0))
  have m3 := XMap.made rdA 9 (fun a : ByteArray => .string a) (fun a => a.size ≤ maxLen) ((w.alloc (.map #[] 0)).alloc (.map #[] 0))
  rw [s1] at m2
  rw [s2] at m3
  have hx := heap_alloc_new ((((w.alloc (.map #[] 0)).alloc (.map #[] 0)).alloc (.map #[] 0)).alloc (.map #[] 0)) (hostObj w.heap.size)
  rw [s4] at hx
  refine ⟨⟨hx, (((m1.below (a1 _ _)).below (a1 _ _)).below (a1 _ _)).below (a1 _ _), (((m3.below (a1 _ _)).below (a1 _ _)))⟩, ((m2.below (a1 _ _)).below (a1 _ _)).below (a1 _ _), ?_, s0, ?_⟩
  · simp
  · exact ((((hb.alloc (by omega) _).alloc (by simp; omega) _).alloc (by simp; omega) _).alloc (by simp; omega) _).alloc (by simp; omega) _
theorem cellsOfZM (u : World) : (zeroValue 52).run Tryd.prog u = .ok (rdM.val (0, ⟨#[]⟩)) u := by kernel_rfl
theorem hostCells {w : World} {m : Nat} (h : w.heap[m + 1 + 1 + 1 + 1]? = some (hostObj m)) : w.cell? ⟨m + 1 + 1 + 1 + 1, 0, none⟩ = some (.map (some m)) ∧ w.cell? ⟨m + 1 + 1 + 1 + 1, 1, none⟩ = some (.map (some (m + 1))) ∧ w.cell? ⟨m + 1 + 1 + 1 + 1, 2, none⟩ = some (.map (some (m + 1 + 1))) := by
  unfold hostObj at h
  refine ⟨?_, ?_, ?_⟩ <;> simp [World.cell?, h]

set_option maxHeartbeats 8000000 in
theorem hnew_any (ms : List XMst) (ls : List XLnk) (ma la : Option Addr) (mc lc : Nat) (w : World) (hm : RowMst w ma ms) (hl : RowLnk w la ls) :
    Calls Tryd.prog 6 #[.agg #[.slice ma ms.length mc, .slice la ls.length lc]] w fun e w' => Below w.heap.size w w' ∧
      ((planE (ms.map kvM) (ls.map kvL) ≠ 0 ∧ e = .returned (.tuple #[.pointer none, .int .i64 (planE (ms.map kvM) (ls.map kvL))])) ∨
       (planE (ms.map kvM) (ls.map kvL) = 0 ∧ ∃ m, w.heap.size ≤ m ∧ e = .returned (.tuple #[.pointer (some ⟨m + 1 + 1 + 1 + 1, 0, none⟩), .int .i64 0]) ∧ HostAt w' m (gF (ms.map kvM)) (kF (ms.map kvM)) (fun _ => none) [])) := by
  obtain ⟨W1, hW1⟩ : ∃ W1, W1 = w.alloc (.cells #[.slice ma ms.length mc, .slice la ls.length lc] 25) := ⟨_, rfl⟩
  have hB1 : Below w.heap.size w W1 := by rw [hW1]; exact (Below.refl _ _).alloc (Nat.le_refl _) _
  have hS1 : W1.heap.size = w.heap.size + 1 := by rw [hW1]; simp
  have hX1 : W1.heap[w.heap.size]? = some (.cells #[.slice ma ms.length mc, .slice la ls.length lc] 25 (0, 0)) := by rw [hW1]; exact heap_alloc_new _ _
  have hwl : w.heap.size < W1.heap.size := by omega
  have C0 := hide (fun w' (h : Below W1.heap.size W1 w') => (show w'.cell? ⟨w.heap.size, 0, none⟩ = some (.slice ma ms.length mc) from (cell_of_row _ _ 0 _ _ _ ((h.block _ hwl).trans hX1)).trans rfl))
  have C1 := hide (fun w' (h : Below W1.heap.size W1 w') => (show w'.cell? ⟨w.heap.size, 1, none⟩ = some (.slice la ls.length lc) from (cell_of_row _ _ 1 _ _ _ ((h.block _ hwl).trans hX1)).trans rfl))
  have HM := hide (hm.below hB1); have HL := hide (hl.below hB1)
  have hml : (ms.length : Int) ≤ 9223372036854775807 := by have := hm.2.2; unfold maxLen at this; omega
  have hll : (ls.length : Int) ≤ 9223372036854775807 := by have := hl.2.2; unfold maxLen at this; omega
  have hmx : ms.length ≤ maxLen := hm.2.2
  have hlx : ls.length ≤ maxLen := hl.2.2
  have NC := hide (fun w' (h : Below W1.heap.size W1 w') => checkPlan_any ms ls ma la mc lc w' ((hm.below hB1).below h) ((hl.below hB1).below h))
  have HPE := hide (planE_as ms ls)
  obtain ⟨gm, hgm⟩ : ∃ gm, gm = gF (ms.map kvM) := ⟨_, rfl⟩
  obtain ⟨km, hkm⟩ : ∃ km, km = kF (ms.map kvM) := ⟨_, rfl⟩
  rw [← hkm] at HPE
  rw [← hgm, ← hkm]
  have HGM := hide hgm; have HKM := hide hkm
  clear hgm hkm
  generalize planE (ms.map kvM) (ls.map kvL) = pe at *
  generalize chkE ms ls = ce at *
  have HST := hide (new_start W1 W1 (Below.refl _ _))
  have HW1 := hide hW1; have HB1 := hide hB1; have HMX := hide hmx; have HLX := hide hlx
  have hmm := @run_makeMap Tryd.prog
  clear hW1 hB1 hS1 hX1 hm hl hmx hlx
  go_enter Tryd.func6, Tryd.ntmps6
  go_upto_region 1 with fail
  rw [← unhide HW1]
  unfold hostObj at HST
  go_upto_region 2 with fail
  generalize ((((W1.alloc _).alloc _).alloc _).alloc _).alloc _ = W2 at *
  obtain ⟨mp, hmp⟩ : ∃ mp, mp = W1.heap.size := ⟨_, rfl⟩
  rw [← hmp] at HST ⊢
  have HMP := hide hmp
  clear hmp
  have hST := unhide HST
  have c0 := unhide C0 W2 hST.bel; have c1 := unhide C1 W2 hST.bel
  clear hST
  go_wp2_with fail
  go_loopw [19] (fun iv wx => ∃ q : Nat, q ≤ ms.length ∧ iv = .int .i64 (q : Int) ∧ NewAt W1 wx mp (gF ((ms.map kvM).take q)) (kF ((ms.map kvM).take q)) (fun _ => none) []) (fun iv _ => ms.length - (intOf iv).toNat)
  case atStart => exact ⟨0, Nat.zero_le _, rfl, unhide HST⟩
  case round =>
    obtain ⟨q, hq, rfl, hN⟩ := hrel
    by_cases hlt : q < ms.length
    · obtain ⟨x, hx⟩ : ∃ x, ms[q]? = some x := ⟨_, List.getElem?_eq_getElem hlt⟩
      obtain ⟨hrr, hok, _⟩ := (unhide HM).below hN.bel
      have hxo := hok x (List.mem_of_getElem? hx)
      rcases hrr with hnil | ⟨b, off, hae, hbl, hc⟩
      · rw [hnil] at hlt; simp at hlt
      obtain ⟨d0, d1⟩ := hc q x hx
      obtain ⟨v, k⟩ := x
      have hkx : (ms.map kvM)[q]? = some (v, k) := by rw [List.getElem?_map, hx]; rfl
      dsimp only at d0 d1
      have hv : InX v := hxo.1
      have hlti : (q : Int) < (ms.length : Int) := by omega
      have hB3 : Below wr.heap.size wr (wr.alloc (.cells #[.int .i64 v, .string k] 52)) := (Below.refl _ _).alloc (Nat.le_refl _) _
      have hN3 := hN.below hB3
      have hN4 : NewAt W1 (wr.alloc (.cells #[.int .i64 v, .string k] 52)).drew mp (gF ((ms.map kvM).take q)) (kF ((ms.map kvM).take q)) (fun _ => none) [] := hN3.below (Below.refl _ _).drew
      have hkl : (kF ((ms.map kvM).take q)).length < maxLen := by
        have := (kF_facts (ms.map kvM) q (by rw [List.length_map]; exact hq)).1
        have := unhide HMX; omega
      obtain ⟨w5, hrun, hmap, hgr⟩ := hN4.host.mas.put keyInt Tryd.underlying45 hkl v (v, k) hv
      have hrun' : (Instr.mapUpdate 45 (.map (some mp)) (.int .i64 v) (.agg #[.int .i64 v, .string k])).run Tryd.prog (wr.alloc (.cells #[.int .i64 v, .string k] 52)).drew = .ok () w5 := hrun
      have hN5 := hN4.putM hmap hgr
      rw [← kF_snoc ((ms.map kvM).take q) (v, k), ← gF_snoc ((ms.map kvM).take q) (v, k), ← take_snocK hkx] at hN5
      have hh := (hostCells hN.host.box).1
      have hhl : mp + 1 + 1 + 1 + 1 < wr.heap.size := blkLtH hN.host.box
      have HN5 := hide hN5
      subst hae
      clear hN hN3 hN4 hN5 hrun hmap hgr hB3 hc hok hx hkx hxo hv hkl hbl
      go_wp2_with fail
      go_region
      all_goals
        go_wp2
        go_roundw
        case rel => exact ⟨q + 1, by omega, by go_num, unhide HN5⟩
        case measure => simp [intOf]; omega
    · have hlti : ¬ (q : Int) < (ms.length : Int) := by omega
      have hqe : q = ms.length := by omega
      have hN1 : NewAt W1 wr mp (gF (ms.map kvM)) (kF (ms.map kvM)) (fun _ => none) [] := by
        rw [hqe, List.take_of_length_le (by simp)] at hN; exact hN
      rw [← unhide HGM, ← unhide HKM] at hN1
      have c1 := unhide C1 wr hN1.bel
      have HN1 := hide hN1
      clear hN hqe hN1 HST
      obtain ⟨W4, hW4⟩ : ∃ W4, W4 = wr := ⟨_, rfl⟩
      rw [← hW4] at HN1 c1 ⊢
      clear hW4 c0
      go_wp2_with fail
      go_loopw [34] (fun iv wx => ∃ (q : Nat) (gl : Int → Option (Option Nat)), q ≤ ls.length ∧ iv = .int .i64 (q : Int) ∧ NewAt W1 wx mp gm km gl (kF ((ls.map kvL).take q))) (fun iv _ => ls.length - (intOf iv).toNat)
      case atStart => exact ⟨0, _, Nat.zero_le _, rfl, unhide HN1⟩
      case round =>
        obtain ⟨q, gl, hq, rfl, hN⟩ := hrel
        by_cases hlt : q < ls.length
        · obtain ⟨x, hx⟩ : ∃ x, ls[q]? = some x := ⟨_, List.getElem?_eq_getElem hlt⟩
          obtain ⟨hrr, hok, _⟩ := (unhide HL).below hN.bel
          have hxo := hok x (List.mem_of_getElem? hx)
          rcases hrr with hnil | ⟨b, off, hae, hbl, hc⟩
          · rw [hnil] at hlt; simp at hlt
          obtain ⟨d0, d1⟩ := hc q x hx
          obtain ⟨v, k⟩ := x
          have hkx : (ls.map kvL)[q]? = some (v, k) := by rw [List.getElem?_map, hx]; rfl
          dsimp only at d0 d1
          have hv : InX v := hxo.1
          have hlti : (q : Int) < (ls.length : Int) := by omega
          have hB3 : Below wr.heap.size wr (wr.alloc (.cells #[.int .i64 v, .string k] 54)) := (Below.refl _ _).alloc (Nat.le_refl _) _
          have hN3 := hN.below hB3
          have hN4 : NewAt W1 ((wr.alloc (.cells #[.int .i64 v, .string k] 54)).alloc (.cells #[.string k, .int .i64 0] 57)).drew mp gm km gl (kF ((ls.map kvL).take q)) := hN3.below ((Below.refl _ _).alloc (Nat.le_refl _) _).drew
          have hkl : (kF ((ls.map kvL).take q)).length < maxLen := by
            have := (kF_facts (ls.map kvL) q (by rw [List.length_map]; exact hq)).1
            have := unhide HLX; omega
          obtain ⟨w5, hrun, hmap, hgr⟩ := hN4.lnk.put keyInt Tryd.underlying46 hkl v (some (wr.heap.size + 1)) hv
          have hrun' : (Instr.mapUpdate 46 (.map (some (mp + 1))) (.int .i64 v) (.pointer (some ⟨wr.heap.size + 1, 0, none⟩))).run Tryd.prog ((wr.alloc (.cells #[.int .i64 v, .string k] 54)).alloc (.cells #[.string k, .int .i64 0] 57)).drew = .ok () w5 := hrun
          have hN5 := hN4.putL hmap hgr
          rw [show addX (kF ((ls.map kvL).take q)) v = kF ((ls.map kvL).take (q + 1)) from by rw [take_snocK hkx, kF_snoc]] at hN5
          have hh := (hostCells hN.host.box).2.1
          have hh3 := (hostCells hN3.host.box).2.1
          have hh4 : ((wr.alloc (.cells #[.int .i64 v, .string k] 54)).alloc (.cells #[.string k, .int .i64 0] 57)).cell? ⟨mp + 1 + 1 + 1 + 1, 1, none⟩ = some (.map (some (mp + 1))) := (hostCells hN4.host.box).2.1
          have hhl : mp + 1 + 1 + 1 + 1 < wr.heap.size := blkLtH hN.host.box
          have HN5 := hide hN5
          subst hae
          clear hN hN3 hN4 hN5 hrun hmap hgr hB3 hc hok hx hkx hxo hv hkl hbl
          go_wp2_with fail
          go_region
          all_goals
            go_wp2
            go_roundw
            case rel => exact ⟨q + 1, _, by omega, by go_num, unhide HN5⟩
            case measure => simp [intOf]; omega
        · have hlti : ¬ (q : Int) < (ls.length : Int) := by omega
          have hqe : q = ls.length := by omega
          have hN2 : NewAt W1 wr mp gm km gl (kF (ls.map kvL)) := by
            rw [hqe, List.take_of_length_le (by simp)] at hN; exact hN
          have hpe := unhide HPE
          obtain ⟨kl, hkl⟩ : ∃ kl, kl = kF (ls.map kvL) := ⟨_, rfl⟩
          rw [← hkl] at hN2 hpe
          have c0 := unhide C0 wr hN2.bel; have c1 := unhide C1 wr hN2.bel
          have HN2 := hide hN2
          clear hN hqe hN2 HN1 hkl HPE HGM HKM
          obtain ⟨W5, hW5⟩ : ∃ W5, W5 = wr := ⟨_, rfl⟩
          rw [← hW5] at HN2 c0 c1 ⊢
          clear hW5
          go_wp2_with fail
          refine (unhide NC _ (unhide HN2).bel).mono ?_
          rintro e y1 ⟨rfl, hy1⟩
          have hN6 := (unhide HN2).below hy1
          have c0 := unhide C0 y1 hN6.bel; have c1 := unhide C1 y1 hN6.bel
          have HBZ := hide ((unhide HB1).trans (hN6.bel.mono (unhide HB1).size))
          by_cases hce : ce = 0
          · have hl1 := fun q ty => (hN6.host.mas.of_block (w' := y1.drewN q) rfl).len Tryd.underlying45 ty
            have hl2 := fun q ty => (hN6.lnk.of_block (w' := y1.drewN q) rfl).len Tryd.underlying46 ty
            obtain ⟨h0, h1, h2⟩ := hostCells hN6.host.box
            rw [if_neg (by simp [hce])] at hpe
            have HN6 := hide hN6
            subst hce
            clear hN6 hy1
            by_cases g1 : km.length < ms.length
            · have g1i : decide (km.length < ms.length) = true := decide_eq_true g1
              rw [if_pos (.inl g1)] at hpe
              have HPZ := hide hpe
              clear g1 hpe
              go_wp2_with fail
              go_quiet (fail)
              go_wp2
              go_ret2
              exact ⟨below_drewN (unhide HBZ) _, .inl ⟨by rw [unhide HPZ]; decide, by rw [unhide HPZ]; rfl⟩⟩
            · have g1i : decide (km.length < ms.length) = false := decide_eq_false g1
              by_cases g2 : kl.length < ls.length
              · have g2i : decide (kl.length < ls.length) = true := decide_eq_true g2
                rw [if_pos (.inr g2)] at hpe
                have HPZ := hide hpe
                clear g1 g2 hpe
                go_wp2_with fail
                go_quiet (fail)
                go_wp2
                go_ret2
                exact ⟨below_drewN (unhide HBZ) _, .inl ⟨by rw [unhide HPZ]; decide, by rw [unhide HPZ]; rfl⟩⟩
              · have g2i : decide (kl.length < ls.length) = false := decide_eq_false g2
                rw [if_neg (fun hh => hh.elim g1 g2)] at hpe
                by_cases hm5 : 50 < ms.length
                · have hm6 : (50 : Int) < (ms.length : Int) := by omega
                  rw [if_pos (.inl hm5)] at hpe
                  have HPZ := hide hpe
                  clear g1 g2 hm5 hpe
                  go_wp2_with fail
                  go_quiet (fail)
                  go_wp2
                  go_ret2
                  exact ⟨below_drewN (unhide HBZ) _, .inl ⟨by rw [unhide HPZ]; decide, by rw [unhide HPZ]; rfl⟩⟩
                · have hm6 : ¬ (50 : Int) < (ms.length : Int) := by omega
                  by_cases hl5 : 50 < ls.length
                  · have hl6 : (50 : Int) < (ls.length : Int) := by omega
                    rw [if_pos (.inr hl5)] at hpe
                    have HPZ := hide hpe
                    clear g1 g2 hm5 hl5 hpe
                    go_wp2_with fail
                    go_quiet (fail)
                    go_wp2
                    go_ret2
                    exact ⟨below_drewN (unhide HBZ) _, .inl ⟨by rw [unhide HPZ]; decide, by rw [unhide HPZ]; rfl⟩⟩
                  · have hl6 : ¬ (50 : Int) < (ls.length : Int) := by omega
                    rw [if_neg (fun hh => hh.elim hm5 hl5)] at hpe
                    have HPZ := hide hpe
                    clear g1 g2 hm5 hl5 hpe
                    go_wp2_with fail
                    go_quiet (fail)
                    go_wp2
                    go_ret2
                    exact ⟨below_drewN (unhide HBZ) _, .inr ⟨unhide HPZ, mp, by rw [unhide HMP]; exact (unhide HB1).size, rfl, (unhide HN6).host.below (below_drewN (Below.refl _ _) _)⟩⟩
          · rw [if_pos hce] at hpe
            have HCE := hide hce
            have hceb : (ce != 0) = true := by simpa using hce
            subst hpe
            clear hce hN6 hy1
            go_wp2
            go_ret2
            exact ⟨unhide HBZ, .inl ⟨unhide HCE, rfl⟩⟩
end Go.Proofs.YtbiipeapcclbkaaDoor
