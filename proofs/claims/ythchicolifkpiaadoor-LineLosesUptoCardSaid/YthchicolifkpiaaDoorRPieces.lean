/- pieces of the reference: the pieces of all texts, and of which text each is. -/
import Derived.Test.YthchicolifkpiaaDoorEndsP
import Derived.Deep.RegionHeld3
import Derived.Deep.AppendLies
namespace Go.Proofs.YthchicolifkpiaaDoor
open Go.RowKit
set_option linter.unusedVariables false

/-- texts that lie in a row -/
def SRow (w : World) (ao : Option Addr) (l : List ByteArray) : Prop :=
  l = [] ∨ ∃ b off, ao = some ⟨b, off, none⟩ ∧ b < w.heap.size ∧ ∀ i s, l[i]? = some s → w.cell? ⟨b, off + i, none⟩ = some (.string s)
def cellsP (ps : List (ByteArray × Bool)) : List Value := ps.flatMap fun p => [.int .i64 0, .int .i64 0, .bool p.2, .bool true, .string p.1]
def cellsN (l : List Nat) : List Value := l.map fun n : Nat => .int .i64 (n : Int)
theorem cellsP_append (a b : List (ByteArray × Bool)) : cellsP (a ++ b) = cellsP a ++ cellsP b := by simp [cellsP]
theorem cellsN_append (a b : List Nat) : cellsN (a ++ b) = cellsN a ++ cellsN b := by simp [cellsN]
theorem infoBlk : (Tryd.prog.info? 59).map (fun i => (i.zero, i.size, i.bytes)) = some (some (.agg #[.int .i64 0, .int .i64 0, .bool false, .bool false, .string ⟨#[]⟩]), 5, 40) := by kernel_rfl
theorem infoInt : (Tryd.prog.info? 3).map (fun i => (i.zero, i.size, i.bytes)) = some (some (.int .i64 0), 1, 8) := by kernel_rfl
/-- two rows that do not lie in one block -/
def Apart (v u : Value) : Prop := ∀ q, v.ownBlock = some q → u.ownBlock ≠ some q
theorem Apart.symm {v u : Value} (h : Apart v u) : Apart u v := fun q h1 h2 => h q h2 h1
theorem Apart.nil {v u : Value} (h : v.ownBlock = none) : Apart v u := fun q h1 => by rw [h] at h1; cases h1
theorem Apart.kept {v u : Value} (h : Apart v u) : u.ownBlock = none ∨ u.ownBlock ≠ v.ownBlock := by
  cases hu : u.ownBlock with
  | none => exact .inl rfl
  | some q => exact .inr fun e => h q e.symm hu
theorem Apart.grown {v u : Value} {H g n c : Nat} (h : Apart v u) (hu : ∀ q, u.ownBlock = some q → q < H) (hg : v.ownBlock = some g ∨ g = H) : Apart (.slice (some ⟨g, 0, none⟩) n c) u := fun q h1 h2 => by
  have e : g = q := Option.some.inj h1
  subst e
  rcases hg with hg | hg
  · exact h g hg h2
  · have := hu g h2; omega
theorem info_parts' {P : Program} {t : TypeId} {z : Value} {s b : Nat} (h : (P.info? t).map (fun i => (i.zero, i.size, i.bytes)) = some (some z, s, b)) : ∃ i, P.info? t = some i ∧ i.zero = some z ∧ i.size = s ∧ i.bytes = b := by
  cases hi : P.info? t with
  | none => rw [hi] at h; cases h
  | some i => rw [hi] at h; simp at h; exact ⟨i, rfl, h.1, h.2.1, h.2.2⟩
theorem pcs_take {s : ByteArray} {j : Nat} (h : j < npc s) : (pcs s).take (j + 1) = (pcs s).take j ++ [pcAt s j] := by
  have hl : j < (pcs s).length := by rw [pcs_length]; exact h
  rw [List.take_succ_eq_append_getElem hl]
  simp [pcs]
theorem rep_take (n k : Nat) : List.replicate (n + 1) k = List.replicate n k ++ [k] := List.replicate_succ'
theorem pieces_take {l : List ByteArray} {k : Nat} {s : ByteArray} (h : l[k]? = some s) : piecesL (l.take (k + 1)) = piecesL (l.take k) ++ pcs s ∧ ofFrom 0 (l.take (k + 1)) = ofFrom 0 (l.take k) ++ List.replicate (npc s) k := by
  have hk : k < l.length := by
    rcases Nat.lt_or_ge k l.length with h' | h'
    · exact h'
    · rw [List.getElem?_eq_none h'] at h; cases h
  rw [List.getElem?_eq_getElem hk] at h
  rw [List.take_succ_eq_append_getElem hk, Option.some.inj h]
  refine ⟨piecesL_snoc _ _, ?_⟩
  rw [ofFrom_append, ofFrom, ofFrom, List.append_nil, List.length_take, Nat.min_eq_left (by omega), Nat.zero_add]

set_option maxRecDepth 1000000 in
set_option maxHeartbeats 4000000 in
theorem pieces_any (l : List ByteArray) (ao : Option Addr) (cap : Nat) (w : World) (hr : SRow w ao l) (hs : ∀ s ∈ l, s.size ≤ 4096) (hl : (l.length : Int) ≤ 1048576) :
    Calls Tryd.prog 24 #[.slice ao l.length cap] w fun e w' => ∃ v u, e = .returned (.tuple #[v, u]) ∧ w'.ownsRow w.heap.size 59 5 v (piecesL l).length (cellsP (piecesL l)) ∧ w'.ownsRow w.heap.size 3 1 u (ofFrom 0 l).length (cellsN (ofFrom 0 l)) ∧ Below w.heap.size w w' := by
  obtain ⟨i0, hi, hz0, hz1, hz2⟩ := info_parts' infoBlk
  obtain ⟨i1, ki, kz0, kz1, kz2⟩ := info_parts' infoInt
  go_enter Tryd.func24, Tryd.ntmps24
  go_wp2
  go_loopw [4, 5, 6] (fun v u i wr => ∃ k : Nat, k ≤ l.length ∧ i = .int .i64 k ∧ wr.ownsRow w.heap.size 59 5 v (piecesL (l.take k)).length (cellsP (piecesL (l.take k))) ∧ wr.ownsRow w.heap.size 3 1 u (ofFrom 0 (l.take k)).length (cellsN (ofFrom 0 (l.take k))) ∧ Apart v u ∧ Below w.heap.size w wr) (fun _ _ i _ => l.length - (intOf i).toNat)
  case atStart => exact ⟨0, Nat.zero_le _, rfl, World.ownsRow_nil _ _ _ _, World.ownsRow_nil _ _ _ _, Apart.nil rfl, Below.refl _ _⟩
  case round =>
    rename World => wo
    obtain ⟨k, hk, rfl, hv, hu, hap, hbw⟩ := hrel
    by_cases hlt : k < l.length
    · rcases hr with hnil | ⟨b, off, rfl, hb, hc⟩
      · rw [hnil] at hlt; simp at hlt
      obtain ⟨s, hx⟩ : ∃ s, l[k]? = some s := ⟨l[k], List.getElem?_eq_getElem hlt⟩
      have c0 := hc k s hx
      have hs4 : s.size ≤ 4096 := hs s (List.mem_of_getElem? hx)
      have hn1 := piecesL_length_le (l.take k) (fun x hx => hs x (List.mem_of_mem_take hx))
      have hn2 : (l.take k).length ≤ 1048576 := Nat.le_trans (List.length_take_le _ _) (by omega)
      have hnp := npc_le s hs4
      have hof := ofFrom_length (l.take k) 0
      obtain ⟨hp1, hp2⟩ := pieces_take hx
      generalize piecesL (l.take k) = A at *
      generalize ofFrom 0 (l.take k) = B at *
      generalize (l.take k).length = kk at *
      have HP1 := hide hp1; have HP2 := hide hp2
      have HN := hide (show A.length + npc s ≤ 134217856 by omega)
      have HO := hide hof
      have hki : (k : Int) < (l.length : Int) := by omega
      clear hc hx hs hn1 hn2 hp1 hp2 hof
      go_wp2
      go_loopw [4, 5, 7] (fun v u a wr => ∃ j : Nat, j ≤ npc s ∧ a = .int .i64 ((32 * j : Nat) : Int) ∧ wr.ownsRow w.heap.size 59 5 v (A ++ (pcs s).take j).length (cellsP (A ++ (pcs s).take j)) ∧ wr.ownsRow w.heap.size 3 1 u (B ++ List.replicate j k).length (cellsN (B ++ List.replicate j k)) ∧ Apart v u ∧ Below w.heap.size w wr) (fun _ _ a _ => npc s - (intOf a).toNat / 32)
      case atStart => exact ⟨0, Nat.zero_le _, rfl, by simpa using hv, by simpa using hu, hap, hbw⟩
      case round =>
        clear hv hu hap hbw
        obtain ⟨j, hj, rfl, hv, hu, hap, hbw⟩ := hrel
        have d0 : wr.cell? ⟨b, off + k, none⟩ = _ := (hbw.cell (p := ⟨b, off + k, none⟩) hb).trans c0
        by_cases hjn : j < npc s
        · have hcond : (((32 * j : Nat) : Int) == 0) = true ∨ ((((32 * j : Nat) : Int) == 0) = false ∧ ((32 * j : Nat) : Int) < (s.size : Int)) := by
            rcases Nat.eq_zero_or_pos j with rfl | h0
            · exact .inl rfl
            · right
              have := (npc_next s (j - 1)).1 (by omega)
              refine ⟨by rw [beq_eq_false_iff_ne]; omega, by omega⟩
          have hat := npc_at hjn
          have hpt := pcs_take hjn
          have hlen : (A ++ (pcs s).take j).length + 1 ≤ 134217857 := by
            have := unhide HN
            rw [List.length_append, List.length_take, pcs_length]; omega
          have hlen2 : (B ++ List.replicate j k).length + 1 ≤ 134217857 := by
            have := unhide HN; have := unhide HO
            rw [List.length_append, List.length_replicate]; omega
          have hbs := hbw.size
          have hfin : cellsP (A ++ (pcs s).take (j + 1)) = cellsP (A ++ (pcs s).take j) ++ [.int .i64 0, .int .i64 0, .bool (pcAt s j).2, .bool true, .string (pcAt s j).1] := by
            rw [hpt, ← List.append_assoc, cellsP_append]; rfl
          have hfl : (A ++ (pcs s).take (j + 1)).length = (A ++ (pcs s).take j).length + 1 := by rw [hpt, ← List.append_assoc, List.length_append]; rfl
          have gfin : cellsN (B ++ List.replicate (j + 1) k) = cellsN (B ++ List.replicate j k) ++ [.int .i64 (k : Int)] := by
            rw [rep_take, ← List.append_assoc, cellsN_append]; rfl
          have gfl : (B ++ List.replicate (j + 1) k).length = (B ++ List.replicate j k).length + 1 := by rw [rep_take, ← List.append_assoc, List.length_append]; rfl
          have hnx : ((32 * (j + 1) : Nat) : Int) = ((32 * j : Nat) : Int) + 32 := by omega
          have HME := hide (show npc s - (32 * (j + 1)) / 32 < npc s - (32 * j) / 32 by omega)
          have hpa : pcAt s j = (s.extract (32 * j) (min (32 * j + 32) s.size), decide (32 * j + 32 < s.size)) := rfl
          generalize cellsP (A ++ (pcs s).take j) = CA at *
          generalize cellsN (B ++ List.replicate j k) = CB at *
          generalize (A ++ (pcs s).take j).length = n at *
          generalize (B ++ List.replicate j k).length = n2 at *
          have HNX := hide hnx
          have HM := hide (show n + 1 ≤ maxLen by unfold maxLen; omega); have HB := hide (show (n + 1) * 40 ≤ 140737488355328 by omega)
          have HM2 := hide (show n2 + 1 ≤ maxLen by unfold maxLen; omega); have HB2 := hide (show (n2 + 1) * 8 ≤ 140737488355328 by omega)
          have HF := hide hfin; have HL := hide hfl; have GF := hide gfin; have GL := hide gfl
          have HJ := hide hjn
          have a4 : ((32 * j : Nat) : Int) ≤ 4096 := by omega
          generalize (32 * j : Nat) = a at *
          clear hnx hfin hfl gfin gfl hjn hpt hlen hlen2 hj hnp hs4
          have HBS := hide hbs
          have hnb : some b ≠ u4.ownBlock := fun e => by have := (hv.lt b e.symm).1; omega
          by_cases h3 : a + 32 < s.size
          · have hsl : ∀ wx, (Instr.slice 9 (.string s) (some (.int .i64 (a : Int))) (some (.int .i64 ((a : Int) + 32))) none).run Tryd.prog wx = .ok (.string (s.extract a (a + 32))) wx := fun wx =>
              run_slice_string (P := Tryd.prog) wx 9 s .i64 .i64 (a : Int) ((a : Int) + 32) Tryd.underlying9 (by omega) (by omega) (by omega)
            rw [Nat.min_eq_left (by omega), decide_eq_true h3] at hpa
            have HPA := hide hpa
            have h4 : ¬ (s.size : Int) < (a : Int) + 32 := by omega
            have h5 : (a : Int) + 32 < (s.size : Int) := by omega
            clear hpa h3
            rcases hcond with h1 | ⟨h1, h2⟩
            all_goals
              go_wp2_with fail
              go_region_held3 (fun w' => w'.cell? ⟨b, off + k, none⟩ = some (.string s))
                (first | go_keep | (have hq := hgrow; exact hgrow.cell (by assumption) hnb))
                ((refine step_append_lies _ (by rfl) _ _ _ (by rfl) w.heap.size 59 i0 _ 5 40 Tryd.underlying26 hi hz0 hz1 hz2 rfl (by omega) _ _ _ (by rfl) (hv.drew.alloc _) ⟨wr.heap.size, 0, none⟩ 1 1 [.int .i64 0, .int .i64 0, .bool true, .bool true, .string (s.extract a (a + 32))] (by rfl) (by rfl) (World.news_of_block (heap_alloc_new _ _)) (by simp [Value.oneCell']) (by omega) (unhide HM) (unhide HB) (by simp; have := unhide HBS; omega) (wr.heap.size + 1) (by simp) ?_; intro g cap' w3 own3 hgrow hat3 hlt3))
              have hb3 : Below w.heap.size w w3 := (hbw.drew.alloc hbs _).grown hgrow (by simp; have := unhide HBS; omega) (fun q hq => (hv.lt q hq).1)
              have hu3 : w3.ownsRow w.heap.size 3 1 u5 n2 CB := (hu.drew.alloc _).kept hgrow hap.kept
              have hap3 : Apart u5 (.slice (some ⟨g, 0, none⟩) (n + 1) cap') := (hap.grown (H := wr.heap.size + 1) (fun q hq => by have := (hu.lt q hq).2; omega) hat3).symm
              have own4 : w3.ownsRow w.heap.size 59 5 (.slice (some ⟨g, 0, none⟩) (n + 1) cap') (A ++ (pcs s).take (j + 1)).length (cellsP (A ++ (pcs s).take (j + 1))) := by
                rw [unhide HL, unhide HF, unhide HPA]; exact own3
              clear own3 hgrow hat3 hlt3 hv hu hap d0
              go_wp2_with (at_builtin; refine wpList_append_lies _ rfl _ _ 62 rfl w.heap.size 3 i1 (.int .i64 0) 1 8 Tryd.underlying62 ki kz0 kz1 kz2 rfl (by decide) _ _ _ rfl (World.ownsRow.alloc hu3 _) ⟨w3.heap.size, 0, none⟩ 1 1 [.int .i64 (k : Int)] rfl rfl (World.news_of_block (heap_alloc_new _ _)) ?c2 ?c3 ?c4 ?c5 ?c6 (w3.heap.size + 1) ?c7 ?_)
              case c2 => intro u hu; simp at hu; subst hu; rfl
              case c3 => omega
              case c4 => exact unhide HM2
              case c5 => exact unhide HB2
              case c6 => have := hb3.size; simp; omega
              case c7 => simp
              intro g2 cap2 w4 own5 hgrow2 hat4 hlt4
              have hb4 : Below w.heap.size w w4 := (hb3.alloc hb3.size _).grown hgrow2 (by have := hb3.size; simp; omega) (fun q hq => (hu3.lt q hq).1)
              have own6 : w4.ownsRow w.heap.size 3 1 (.slice (some ⟨g2, 0, none⟩) (n2 + 1) cap2) (B ++ List.replicate (j + 1) k).length (cellsN (B ++ List.replicate (j + 1) k)) := by
                rw [unhide GL, unhide GF]; exact own5
              have own7 := (own4.alloc _).kept hgrow2 hap3.kept
              have hap4 : Apart (.slice (some ⟨g, 0, none⟩) (n + 1) cap') (.slice (some ⟨g2, 0, none⟩) (n2 + 1) cap2) := (hap3.grown (H := w3.heap.size + 1) (fun q hq => by have := (own4.lt q hq).2; omega) hat4).symm
              clear own5 hgrow2 hat4 hlt4 own4 hap3 hu3 hb3
              go_wp2
              go_roundw
              case rel => exact ⟨j + 1, unhide HJ, by rw [unhide HNX], own7, own6, hap4, hb4⟩
              case measure => simp [intOf]; have := unhide HME; omega
          · rw [decide_eq_false h3] at hpa
            by_cases h6 : s.size < a + 32
            · have hsl : ∀ wx, (Instr.slice 9 (.string s) (some (.int .i64 (a : Int))) (some (.int .i64 (s.size : Int))) none).run Tryd.prog wx = .ok (.string (s.extract a s.size)) wx := fun wx =>
                run_slice_string (P := Tryd.prog) wx 9 s .i64 .i64 (a : Int) (s.size : Int) Tryd.underlying9 (by omega) (by omega) (by omega)
              rw [Nat.min_eq_right (by omega)] at hpa
              have HPA := hide hpa
              have h4 : (s.size : Int) < (a : Int) + 32 := by omega
              clear hpa h3 h6
              rcases hcond with h1 | ⟨h1, h2⟩
              all_goals
                go_wp2_with fail
                go_region_held3 (fun w' => w'.cell? ⟨b, off + k, none⟩ = some (.string s))
                  (first | go_keep | (have hq := hgrow; exact hgrow.cell (by assumption) hnb))
                  ((refine step_append_lies _ (by rfl) _ _ _ (by rfl) w.heap.size 59 i0 _ 5 40 Tryd.underlying26 hi hz0 hz1 hz2 rfl (by omega) _ _ _ (by rfl) (hv.drew.alloc _) ⟨wr.heap.size, 0, none⟩ 1 1 [.int .i64 0, .int .i64 0, .bool false, .bool true, .string (s.extract a s.size)] (by rfl) (by rfl) (World.news_of_block (heap_alloc_new _ _)) (by simp [Value.oneCell']) (by omega) (unhide HM) (unhide HB) (by simp; have := unhide HBS; omega) (wr.heap.size + 1) (by simp) ?_; intro g cap' w3 own3 hgrow hat3 hlt3))
                have hb3 : Below w.heap.size w w3 := (hbw.drew.alloc hbs _).grown hgrow (by simp; have := unhide HBS; omega) (fun q hq => (hv.lt q hq).1)
                have hu3 : w3.ownsRow w.heap.size 3 1 u5 n2 CB := (hu.drew.alloc _).kept hgrow hap.kept
                have hap3 : Apart u5 (.slice (some ⟨g, 0, none⟩) (n + 1) cap') := (hap.grown (H := wr.heap.size + 1) (fun q hq => by have := (hu.lt q hq).2; omega) hat3).symm
                have own4 : w3.ownsRow w.heap.size 59 5 (.slice (some ⟨g, 0, none⟩) (n + 1) cap') (A ++ (pcs s).take (j + 1)).length (cellsP (A ++ (pcs s).take (j + 1))) := by
                  rw [unhide HL, unhide HF, unhide HPA]; exact own3
                clear own3 hgrow hat3 hlt3 hv hu hap d0
                go_wp2_with (at_builtin; refine wpList_append_lies _ rfl _ _ 62 rfl w.heap.size 3 i1 (.int .i64 0) 1 8 Tryd.underlying62 ki kz0 kz1 kz2 rfl (by decide) _ _ _ rfl (World.ownsRow.alloc hu3 _) ⟨w3.heap.size, 0, none⟩ 1 1 [.int .i64 (k : Int)] rfl rfl (World.news_of_block (heap_alloc_new _ _)) ?c2 ?c3 ?c4 ?c5 ?c6 (w3.heap.size + 1) ?c7 ?_)
                case c2 => intro u hu; simp at hu; subst hu; rfl
                case c3 => omega
                case c4 => exact unhide HM2
                case c5 => exact unhide HB2
                case c6 => have := hb3.size; simp; omega
                case c7 => simp
                intro g2 cap2 w4 own5 hgrow2 hat4 hlt4
                have hb4 : Below w.heap.size w w4 := (hb3.alloc hb3.size _).grown hgrow2 (by have := hb3.size; simp; omega) (fun q hq => (hu3.lt q hq).1)
                have own6 : w4.ownsRow w.heap.size 3 1 (.slice (some ⟨g2, 0, none⟩) (n2 + 1) cap2) (B ++ List.replicate (j + 1) k).length (cellsN (B ++ List.replicate (j + 1) k)) := by
                  rw [unhide GL, unhide GF]; exact own5
                have own7 := (own4.alloc _).kept hgrow2 hap3.kept
                have hap4 : Apart (.slice (some ⟨g, 0, none⟩) (n + 1) cap') (.slice (some ⟨g2, 0, none⟩) (n2 + 1) cap2) := (hap3.grown (H := w3.heap.size + 1) (fun q hq => by have := (own4.lt q hq).2; omega) hat4).symm
                clear own5 hgrow2 hat4 hlt4 own4 hap3 hu3 hb3
                go_wp2
                go_roundw
                case rel => exact ⟨j + 1, unhide HJ, by rw [unhide HNX], own7, own6, hap4, hb4⟩
                case measure => simp [intOf]; have := unhide HME; omega
            · have hsl : ∀ wx, (Instr.slice 9 (.string s) (some (.int .i64 (a : Int))) (some (.int .i64 ((a : Int) + 32))) none).run Tryd.prog wx = .ok (.string (s.extract a (a + 32))) wx := fun wx =>
                run_slice_string (P := Tryd.prog) wx 9 s .i64 .i64 (a : Int) ((a : Int) + 32) Tryd.underlying9 (by omega) (by omega) (by omega)
              rw [Nat.min_eq_left (by omega)] at hpa
              have HPA := hide hpa
              have h4 : ¬ (s.size : Int) < (a : Int) + 32 := by omega
              have h5 : decide ((a : Int) + 32 < (s.size : Int)) = false := by rw [decide_eq_false_iff_not]; omega
              clear hpa h3 h6
              rcases hcond with h1 | ⟨h1, h2⟩
              all_goals
                go_wp2_with fail
                go_region_held3 (fun w' => w'.cell? ⟨b, off + k, none⟩ = some (.string s))
                  (first | go_keep | (have hq := hgrow; exact hgrow.cell (by assumption) hnb))
                  ((refine step_append_lies _ (by rfl) _ _ _ (by rfl) w.heap.size 59 i0 _ 5 40 Tryd.underlying26 hi hz0 hz1 hz2 rfl (by omega) _ _ _ (by rfl) (hv.drew.alloc _) ⟨wr.heap.size, 0, none⟩ 1 1 [.int .i64 0, .int .i64 0, .bool false, .bool true, .string (s.extract a (a + 32))] (by rfl) (by rfl) (World.news_of_block (heap_alloc_new _ _)) (by simp [Value.oneCell']) (by omega) (unhide HM) (unhide HB) (by simp; have := unhide HBS; omega) (wr.heap.size + 1) (by simp) ?_; intro g cap' w3 own3 hgrow hat3 hlt3))
                have hb3 : Below w.heap.size w w3 := (hbw.drew.alloc hbs _).grown hgrow (by simp; have := unhide HBS; omega) (fun q hq => (hv.lt q hq).1)
                have hu3 : w3.ownsRow w.heap.size 3 1 u5 n2 CB := (hu.drew.alloc _).kept hgrow hap.kept
                have hap3 : Apart u5 (.slice (some ⟨g, 0, none⟩) (n + 1) cap') := (hap.grown (H := wr.heap.size + 1) (fun q hq => by have := (hu.lt q hq).2; omega) hat3).symm
                have own4 : w3.ownsRow w.heap.size 59 5 (.slice (some ⟨g, 0, none⟩) (n + 1) cap') (A ++ (pcs s).take (j + 1)).length (cellsP (A ++ (pcs s).take (j + 1))) := by
                  rw [unhide HL, unhide HF, unhide HPA]; exact own3
                clear own3 hgrow hat3 hlt3 hv hu hap d0
                go_wp2_with (at_builtin; refine wpList_append_lies _ rfl _ _ 62 rfl w.heap.size 3 i1 (.int .i64 0) 1 8 Tryd.underlying62 ki kz0 kz1 kz2 rfl (by decide) _ _ _ rfl (World.ownsRow.alloc hu3 _) ⟨w3.heap.size, 0, none⟩ 1 1 [.int .i64 (k : Int)] rfl rfl (World.news_of_block (heap_alloc_new _ _)) ?c2 ?c3 ?c4 ?c5 ?c6 (w3.heap.size + 1) ?c7 ?_)
                case c2 => intro u hu; simp at hu; subst hu; rfl
                case c3 => omega
                case c4 => exact unhide HM2
                case c5 => exact unhide HB2
                case c6 => have := hb3.size; simp; omega
                case c7 => simp
                intro g2 cap2 w4 own5 hgrow2 hat4 hlt4
                have hb4 : Below w.heap.size w w4 := (hb3.alloc hb3.size _).grown hgrow2 (by have := hb3.size; simp; omega) (fun q hq => (hu3.lt q hq).1)
                have own6 : w4.ownsRow w.heap.size 3 1 (.slice (some ⟨g2, 0, none⟩) (n2 + 1) cap2) (B ++ List.replicate (j + 1) k).length (cellsN (B ++ List.replicate (j + 1) k)) := by
                  rw [unhide GL, unhide GF]; exact own5
                have own7 := (own4.alloc _).kept hgrow2 hap3.kept
                have hap4 : Apart (.slice (some ⟨g, 0, none⟩) (n + 1) cap') (.slice (some ⟨g2, 0, none⟩) (n2 + 1) cap2) := (hap3.grown (H := w3.heap.size + 1) (fun q hq => by have := (own4.lt q hq).2; omega) hat4).symm
                clear own5 hgrow2 hat4 hlt4 own4 hap3 hu3 hb3
                go_wp2
                go_roundw
                case rel => exact ⟨j + 1, unhide HJ, by rw [unhide HNX], own7, own6, hap4, hb4⟩
                case measure => simp [intOf]; have := unhide HME; omega
        · have hje : j = npc s := by omega
          subst hje
          have h1 : (((32 * npc s : Nat) : Int) == 0) = false := by have := npc_pos s; rw [beq_eq_false_iff_ne]; omega
          have h2 : ¬ ((32 * npc s : Nat) : Int) < (s.size : Int) := by have := npc_pos s; have := npc_next s (npc s - 1); omega
          have hv' := hv
          rw [List.take_of_length_le (by rw [pcs_length]; exact Nat.le_refl _), ← unhide HP1] at hv
          rw [← unhide HP2] at hu
          clear hv'
          generalize (32 * npc s : Nat) = a at *
          go_wp2
          go_roundw
          case rel => exact ⟨k + 1, by omega, by go_num, hv, hu, hap, hbw⟩
          case measure => simp [intOf]; omega
    · have hke : k = l.length := by omega
      rw [hke, List.take_length] at hv hu
      clear hap
      go_wp2
      go_ret2
      exact ⟨_, _, rfl, hv, hu, hbw⟩
end Go.Proofs.YthchicolifkpiaaDoor
