/- The memory after a cut (as BkA1, over BkM alone). -/
import Derived.Test.YtajkbkljonejnaaGreatDoorM01
import Derived.Laws.AppendOwn
import Derived.Deep.AppendLies
import Derived.Deep.RegionLaw
import Derived.Deep.RegionHeld3
import Derived.Shelf.Strings.Repeat
import Derived.Shelf.Strings.BuilderF
import Derived.Test.YtajkbkljonejnaaGreatDoorM42
import Derived.Test.YtajkbkljonejnaaGreatDoorM43
import Derived.Test.YtajkbkljonejnaaGreatDoorM45
namespace Go.Proofs.YtajkbkljonejnaaGreatDoor
open Go.RowKit
set_option linter.unusedVariables false
set_option linter.unusedSimpArgs false
set_option maxRecDepth 100000
theorem info_partsB {P : Program} {t : TypeId} {z : Value} {s b : Nat} (h : (P.info? t).map (fun i => (i.zero, i.size, i.bytes)) = some (some z, s, b)) : ∃ i, P.info? t = some i ∧ i.zero = some z ∧ i.size = s ∧ i.bytes = b := by
  cases hi : P.info? t with
  | none => rw [hi] at h; cases h
  | some i =>
    rw [hi] at h
    injection h with h
    injection h with h1 h
    injection h with h2 h3
    exact ⟨i, rfl, h1, h2, h3⟩
theorem infoSt : (Tryz.prog.info? 9).map (fun i => (i.zero, i.size, i.bytes)) = some (some (.string ⟨#[]⟩), 1, 16) := by kernel_rfl
theorem rowS_one (C : List ByteArray) : ∀ u ∈ rowC cellsS C, u.oneCell' = true := by
  induction C with
  | nil => intro u hu; cases hu
  | cons x l ih =>
    intro u hu
    rcases List.mem_append.1 (show u ∈ cellsS x ++ rowC cellsS l from hu) with h | h
    · rw [List.mem_singleton.1 h]; rfl
    · exact ih u h
section
variable {w w' : World} {B mb : Nat} {v : Value} {M : Mm}
set_option maxHeartbeats 4000000 in
theorem after_any (h : MemAt w B mb v M) (hC : M.C ≠ []) (p : Int) (hp : -9223372036854775808 ≤ p ∧ p ≤ 9223372036854775807) :
    Calls Tryz.prog 12 #[.pointer (some ⟨mb, 0, none⟩), .int .i64 p] w fun r w' => (∃ mb' v', r = .returned (.pointer (some ⟨mb', 0, none⟩)) ∧ MemAt w' w.heap.size mb' v' ⟨M.C, p, false⟩ ∧ w.heap.size ≤ mb') ∧ Below w.heap.size w w' := by
  obtain ⟨i0, hi, hz0, hz1, hz2⟩ := info_partsB infoSt
  obtain ⟨c0, c1, c2⟩ := h.cells
  have hml := h.lt
  rcases h.row.form.2 with hn | ⟨g, cap, hv, hgB, hgl⟩
  · exact absurd hn hC
  have hcell : ∀ j u, (rowC cellsS M.C)[j]? = some u → (w.alloc (.cells #[] 9)).cell? ((⟨g, 0, none⟩ : Addr).add j) = some u := fun j u hu => by
    have hr := (h.row.alloc (.cells #[] 9))
    rw [hv] at hr
    have hlt : j < M.C.length * 1 := by
      have := (List.getElem?_eq_some_iff.1 hu).1
      rw [rowC_length cellsS_len] at this
      exact this
    have := World.ownsRow.cellAt hr j hlt
    rw [hu] at this
    rw [show ((⟨g, 0, none⟩ : Addr).add j) = ⟨g, j, none⟩ by unfold Addr.add; split <;> simp_all]
    exact this
  have hone := rowS_one M.C
  have hEA : (w.alloc (.cells #[] 9)).ownsRow w.heap.size 9 1 (.slice (some ⟨w.heap.size, 0, none⟩) 0 0) 0 [] := ⟨rfl, .inr ⟨w.heap.size, 0, #[], rfl, Nat.le_refl _, heap_alloc_new _ _, Nat.le_refl _, by unfold maxLen; omega, rfl, rfl⟩⟩
  have hlen := h.len
  have hrl : (rowC cellsS M.C).length = M.C.length * 1 := rowC_length cellsS_len _
  rw [hv] at c0
  have hbm : mb ≠ w.heap.size := by omega
  have HI := hide hi; have Z0 := hide hz0; have Z1 := hide hz1; have Z2 := hide hz2; have HE := hide hEA; have HCL := hide hcell; have HON := hide hone; have HRL := hide hrl; have HLN := hide hlen
  clear h hv hcell hone hEA hrl hlen hi hz0 hz1 hz2 c1 c2
  go_enter Tryz.func12, Tryz.ntmps12
  go_wp2_with (at_builtin; refine wpList_append_own _ rfl _ _ 52 rfl w.heap.size 9 i0 (.string ⟨#[]⟩) 1 16 Tryz.underlying52 (unhide HI) (unhide Z0) (unhide Z1) (unhide Z2) rfl (by decide) _ _ _ rfl (unhide HE) ⟨g, 0, none⟩ M.C.length cap (rowC cellsS M.C) rfl (unhide HRL) (unhide HCL) (unhide HON) ?c3 ?c4 ?c5 ?_)
  case c3 => have := unhide HLN; unfold maxLen; omega
  case c4 => have := unhide HLN; omega
  case c5 => simp
  intro v5 w5 hown5 hgrow5 _
  have ho5 : OwnR w5 w.heap.size 9 1 cellsS v5 M.C := hown5
  obtain ⟨⟨ao5, cap5, hv5⟩, _⟩ := ho5.form
  subst hv5
  generalize hm5 : M.C.length = m5 at *
  have hs5 := hgrow5.size
  have hb5 : Below w.heap.size w w5 := ((Below.refl w.heap.size w).alloc (Nat.le_refl _) (.cells #[] 9)).grown hgrow5 (by simp) (fun j hj => by cases hj; exact Nat.le_refl _)
  have hM : MemAt (w5.alloc (.cells #[(.slice ao5 m5 cap5), .int .i64 p, .bool false] 54)) w.heap.size w5.heap.size (.slice ao5 m5 cap5) ⟨M.C, p, false⟩ :=
    ⟨heap_alloc_new _ _, ho5.alloc _, (by rw [hm5]; exact unhide HLN), fun e => Nat.lt_irrefl _ (ho5.lt _ e).2, hp⟩
  have HM := hide hM
  have HB := hide (hb5.alloc hb5.size (.cells #[(.slice ao5 m5 cap5), .int .i64 p, .bool false] 54))
  have HSZ := hide hb5.size
  clear ho5 hs5 hb5 hM hown5 hgrow5
  go_wp2
  go_ret
  exact ⟨⟨_, _, rfl, unhide HM, unhide HSZ⟩, unhide HB⟩
end
end Go.Proofs.YtajkbkljonejnaaGreatDoor
namespace Go.Proofs.YtajkbkljonejnaaGreatDoor
open Go.RowKit
set_option linter.unusedVariables false
set_option linter.unusedSimpArgs false
set_option maxRecDepth 100000
def zCells : Array Value := Array.replicate 16 (.int .u8 0)
theorem infoU8 : (Tryz.prog.info? 5).map (fun i => (i.zero, i.size, i.bytes)) = some (some (.int .u8 0), 1, 1) := by kernel_rfl
theorem mk_zero (w : World) : (Instr.makeSlice 55 (.int .i64 16) (.int .i64 16)).run Tryz.prog w = .ok (.slice (some ⟨w.heap.size, 0, none⟩) 16 16) (w.alloc (.cells zCells 5)) := by
  obtain ⟨i0, hi, hz0, hz1, hz2⟩ := info_partsB infoU8
  have := run_make (P := Tryz.prog) w 55 5 i0 (.int .u8 0) Tryz.underlying55 hi hz0 .i64 .i64 16 16 (by decide) (by decide) (by rw [hz2]; decide) (by decide)
  rw [hz1] at this
  rw [show zCells = madeCells (Value.int .u8 0).cells (Int.toNat 16 * 1) by kernel_rfl]
  exact this
theorem cv_zero (w : World) : (convert 55 9 (.slice (some ⟨w.heap.size, 0, none⟩) 16 16)).run Tryz.prog (w.alloc (.cells zCells 5)) = .ok (.string zeroCk) (w.alloc (.cells zCells 5)) := by
  have := run_convert_bytes_arg (P := Tryz.prog) (w.alloc (.cells zCells 5)) 55 5 Tryz.underlying55 Tryz.underlying5 w.heap.size 0 16 16 (List.replicate 16 0) (by simp) (fun i hi => by
    rw [Nat.zero_add]
    have := new_cells w zCells 5 i
    rw [Addr.add_lit] at this
    rw [Nat.zero_add] at this
    rw [this]
    rw [zCells, Array.getElem?_replicate, if_pos hi, List.getD_eq_getElem?_getD, List.getElem?_replicate, if_pos hi]; rfl) 9 Tryz.underlying9
  rw [this]
  congr 1
section
variable {W w3 : World} {B mb : Nat} {v : Value} {M : Mm}
theorem new_keep {o1 o2 : Obj} (h : MemAt W B mb v M) (hg : ((W.alloc o1).alloc o2).drew.grownBy w3 v.ownBlock) : w3.heap[mb]? = W.heap[mb]? := by
  have hb : Below W.heap.size W ((W.alloc o1).alloc o2).drew := (((Below.refl W.heap.size W).alloc (Nat.le_refl _) o1).alloc (by simp) o2).drew
  exact (hg.block mb (Nat.lt_of_lt_of_le h.lt hb.size) (fun e => h.ne e.symm)).trans (hb.block mb h.lt)
theorem new_last {o1 o2 : Obj} {s : ByteArray} {g cap : Nat} (h : MemAt W B mb v M) (hg : ((W.alloc o1).alloc o2).drew.grownBy w3 v.ownBlock)
    (own : w3.ownsRow B 9 1 (.slice (some ⟨g, 0, none⟩) (M.C.length + 1) cap) (M.C.length + 1) (rowC cellsS M.C ++ cellsS s)) (hat : v.ownBlock = some g ∨ g = W.heap.size + 1 + 1) (hl : M.C.length + 1 ≤ 100000) :
    MemAt (w3.setCell ⟨mb, 0, none⟩ (.slice (some ⟨g, 0, none⟩) (M.C.length + 1) cap)) B mb (.slice (some ⟨g, 0, none⟩) (M.C.length + 1) cap) ⟨M.C ++ [s], M.pw, M.off⟩ := by
  have hgm : g ≠ mb := fun e => by
    rcases hat with hat | hat
    · exact h.ne (by rw [hat, e])
    · have := h.lt; omega
  have hb := (new_keep h hg).trans h.box
  have o3 : OwnR w3 B 9 1 cellsS (.slice (some ⟨g, 0, none⟩) (M.C.length + 1) cap) (M.C ++ [s]) := OwnR.snoc _ own
  refine ⟨?_, o3.other (a := ⟨mb, 0, none⟩) (fun e => hgm (Option.some.inj e)) _, by simpa using hl, fun e => hgm (Option.some.inj e), h.pwb⟩
  simp [World.setCell, Array.getElem?_modify, hb]
end
set_option maxHeartbeats 4000000 in
theorem newMemory_any (c p : Int) (hp : -9223372036854775808 ≤ p ∧ p ≤ 9223372036854775807) (w : World) :
    Calls Tryz.prog 4 #[.int .i64 c, .int .i64 p] w fun r w' => (∃ v, r = .returned (.pointer (some ⟨w.heap.size, 0, none⟩)) ∧ MemAt w' w.heap.size w.heap.size v ⟨List.replicate (min (max c 0) 100000).toNat zeroCk, p, false⟩) ∧ Below w.heap.size w w' := by
  obtain ⟨i0, hi, hz0, hz1, hz2⟩ := info_partsB infoSt
  obtain ⟨n, hn⟩ : ∃ n : Nat, n = (min (max c 0) 100000).toNat := ⟨_, rfl⟩
  rw [← hn]
  have hnl : n ≤ 100000 := by omega
  have hni : (n : Int) ≤ 100000 := by omega
  have hmn : min (max c 0) 100000 = (n : Int) := by omega
  have hmk := mk_zero
  have hcv := cv_zero
  have hM0 : MemAt (w.alloc (.cells #[.slice none 0 0, .int .i64 p, .bool false] 54)) w.heap.size w.heap.size (.slice none 0 0) ⟨List.replicate 0 zeroCk, p, false⟩ := ⟨heap_alloc_new _ _, OwnR.nil _ _ _ _ _, Nat.zero_le _, (fun e => by cases e), hp⟩
  have HM0 := hide hM0
  have HB0 := hide ((Below.refl w.heap.size w).alloc (Nat.le_refl _) (.cells #[.slice none 0 0, .int .i64 p, .bool false] 54))
  have HI := hide hi; have Z0 := hide hz0; have Z1 := hide hz1; have Z2 := hide hz2; have HNL := hide hnl
  generalize zCells = Z at *
  generalize zeroCk = zc at *
  clear hn hi hz0 hz1 hz2 hM0 hnl
  go_enter Tryz.func4, Tryz.ntmps4
  go_wp2
  go_loopw [12] (fun iv wx => ∃ (i : Nat) (v : Value), i ≤ n ∧ iv = .int .i64 (i : Int) ∧ MemAt wx w.heap.size w.heap.size v ⟨List.replicate i zc, p, false⟩ ∧ Below w.heap.size w wx) (fun iv _ => n - (intOf iv).toNat)
  case atStart => exact ⟨0, _, Nat.zero_le _, rfl, unhide HM0, unhide HB0⟩
  case round =>
    obtain ⟨i, v, hi, rfl, hM, hbw⟩ := hrel
    obtain ⟨c0, c1, c2⟩ := hM.cells
    by_cases hlt : i < n
    · have hii : (i : Int) < (n : Int) := by omega
      have HM := hide hM; have HB := hide hbw
      have hwl : w.heap.size ≤ wr.heap.size := hbw.size
      have hwl2 : w.heap.size < wr.heap.size := hM.lt
      have hcv1 : (convert 55 9 (.slice (some ⟨wr.heap.size, 0, none⟩) 16 16)).run Tryz.prog (wr.alloc (.cells Z 5)).drew = .ok (.string zc) (wr.alloc (.cells Z 5)).drew := hcv wr.drew
      have hnb : (((wr.alloc (.cells Z 5)).alloc (.cells #[.string zc] 9)).drew).heap[wr.heap.size + 1]? = some (.cells #[.string zc] 9) := by
        have := heap_alloc_new (wr.alloc (.cells Z 5)) (.cells #[.string zc] 9)
        rw [show (wr.alloc (.cells Z 5)).heap.size = wr.heap.size + 1 by simp] at this
        exact this
      have HNB := hide hnb
      clear hM hbw hnb
      go_wp2_with fail
      go_region_law ((refine step_append_lies _ (by rfl) _ _ _ (by rfl) w.heap.size 9 i0 _ 1 16 Tryz.underlying52 (unhide HI) (unhide Z0) (unhide Z1) (unhide Z2) rfl (by omega) _ _ _ (by rfl) (((unhide HM).row.alloc _).alloc _).drew ⟨wr.heap.size + 1, 0, none⟩ 1 1 [.string zc] (by rfl) (by rfl) (World.news_of_block (unhide HNB)) (by simp [Value.oneCell']) (by omega) (by have := unhide HNL; unfold maxLen; simp; omega) (by have := unhide HNL; simp; omega) (by simp; omega) (wr.heap.size + 1 + 1) (by simp) ?_; intro g3 cap3 w3 own3 hgrow hat3 hlt3; have qb := (new_keep (unhide HM) hgrow).trans (unhide HM).box; have q7 : w3.cell? ⟨w.heap.size, 0, none⟩ = some v := (by simp [World.cell?, qb]); have qf : w3.frozen? ⟨w.heap.size, 0, none⟩ = false := (by simp [World.frozen?, qb])))
      all_goals
        have hla := new_last (unhide HM) hgrow own3 hat3 (by have := unhide HNL; simp; omega)
        have hsn : List.replicate i zc ++ [zc] = List.replicate (i + 1) zc := by rw [List.replicate_succ']
        dsimp only at hla
        rw [hsn] at hla
        have hlr : (List.replicate i zc).length = i := by simp
        rw [hlr] at hla
        have hb3 : Below w.heap.size w (w3.setCell ⟨w.heap.size, 0, none⟩ (.slice (some ⟨g3, 0, none⟩) (i + 1) cap3)) := ((((unhide HB).alloc (unhide HB).size _).alloc (by simp; omega) _).drew.grown hgrow (by simp; omega) (fun j hj => ((unhide HM).row.lt j hj).1)).setCell (p := ⟨w.heap.size, 0, none⟩) (Nat.le_refl _) _
        have HL := hide hla; have HB3 := hide hb3
        clear hla hb3 hlr hsn own3 hgrow hat3 hlt3 c0 c1 c2 hcv1 q7 qf qb
        go_wp2
        go_roundw
        case rel => exact ⟨i + 1, _, by omega, by go_num, unhide HL, unhide HB3⟩
        case measure => simp [intOf]; omega
    · have hii : ¬ (i : Int) < (n : Int) := by omega
      obtain rfl : i = n := by omega
      have HM := hide hM; have HB := hide hbw
      clear hM hbw c0 c1 c2
      go_wp2
      go_ret
      exact ⟨⟨rfl, v, unhide HM⟩, unhide HB⟩
end Go.Proofs.YtajkbkljonejnaaGreatDoor
namespace Go.Proofs.YtajkbkljonejnaaGreatDoor
open Go.RowKit
set_option linter.unusedVariables false
set_option linter.unusedSimpArgs false
set_option maxRecDepth 100000
theorem mem_far {w : World} {L mb : Nat} {v : Value} {M : Mm} (h : MemAt w L mb v M) (hm : L ≤ mb) : ∀ x, memF mb v x → L ≤ x := by
  rintro x (e | e)
  · rw [e]; exact hm
  · exact (h.row.lt x e).1
theorem chg_step {w w' w0 : World} {L : Nat} {G : Nat → Prop} (hb : Below L w0 w) (hl : L ≤ w.heap.size) (hc : Chg G w w') (hG : ∀ x, G x → L ≤ x) : Below L w0 w' := hb.trans (hc.below hl hG)
theorem walkW_no (id pin key : ByteArray) (pu on ru tr ve : Int) (sp sq : ByteArray) (fs : List (Int × Int)) (ao : Option Addr) (cap : Nat) (power again : Int) (l : List XOrder) (ra : Option Addr) (rc : Nat) (w : World) (hi : id.size ≤ maxLen) (hp : pin.size ≤ maxLen) (hr : FRow w ao fs) (hn : FNums fs) (hfl : (fs.length : Int) ≤ 9000000000000) (hpw : -9223372036854775808 ≤ power ∧ power ≤ 9223372036854775807) (hro : RowOrder w ra l) (hE : planCE id pin key pu on ru tr ve sp sq fs ≠ 0) : Calls Tryz.prog 3 #[.agg #[.string id, .string pin, .string key, .int .i64 pu, .int .i64 on, .int .i64 ru, .int .i64 tr, .int .i64 ve, .string sp, .string sq, .slice ao fs.length cap], .int .i64 power, .slice ra l.length rc, .int .i64 again] w fun e w' => e = .returned (.bool true) ∧ Below w.heap.size w w' := by
  obtain ⟨W1, hW1⟩ : ∃ W1, W1 = w.alloc (.cells #[.string id, .string pin, .string key, .int .i64 pu, .int .i64 on, .int .i64 ru, .int .i64 tr, .int .i64 ve, .string sp, .string sq, .slice ao fs.length cap] 26) := ⟨_, rfl⟩
  have hb1 : Below w.heap.size w W1 := by rw [hW1]; exact (Below.refl _ _).alloc (Nat.le_refl _) _
  have hX : W1.heap[w.heap.size]? = some (.cells #[.string id, .string pin, .string key, .int .i64 pu, .int .i64 on, .int .i64 ru, .int .i64 tr, .int .i64 ve, .string sp, .string sq, .slice ao fs.length cap] 26) := by rw [hW1]; exact heap_alloc_new _ _
  obtain ⟨g0, hg0⟩ : ∃ g0, g0 = w.heap.size := ⟨_, rfl⟩
  rw [← hg0] at hX
  have hF : ∀ W : World, Below W1.heap.size W1 W → W.cell? ⟨g0, 0, none⟩ = some (.string id) ∧ W.cell? ⟨g0, 1, none⟩ = some (.string pin) ∧ W.cell? ⟨g0, 2, none⟩ = some (.string key) ∧ W.cell? ⟨g0, 3, none⟩ = some (.int .i64 pu) ∧ W.cell? ⟨g0, 4, none⟩ = some (.int .i64 on) ∧ W.cell? ⟨g0, 5, none⟩ = some (.int .i64 ru) ∧ W.cell? ⟨g0, 6, none⟩ = some (.int .i64 tr) ∧ W.cell? ⟨g0, 7, none⟩ = some (.int .i64 ve) ∧ W.cell? ⟨g0, 8, none⟩ = some (.string sp) ∧ W.cell? ⟨g0, 9, none⟩ = some (.string sq) ∧ W.cell? ⟨g0, 10, none⟩ = some (.slice ao fs.length cap) := fun W hb => by
    have hW := (hb.block _ (block_ltR hX)).trans hX
    refine ⟨?_, ?_, ?_, ?_, ?_, ?_, ?_, ?_, ?_, ?_, ?_⟩ <;> simp [World.cell?, hW]
  have NM : Hid (Calls Tryz.prog 4 #[.int .i64 32, .int .i64 power] W1 fun r w' => (∃ v, r = .returned (.pointer (some ⟨W1.heap.size, 0, none⟩)) ∧ MemAt w' W1.heap.size W1.heap.size v ⟨List.replicate 32 zeroCk, power, false⟩) ∧ Below W1.heap.size W1 w') := hide (newMemory_any 32 power hpw W1)
  have HR : Hid (∀ W, Below W1.heap.size W1 W → FRow W ao fs) := hide (fun W hb => (hr.below hb1).below hb)
  have NP : Hid (∀ W, Below W1.heap.size W1 W → Calls Tryz.prog 6 #[.agg #[.string id, .string pin, .string key, .int .i64 pu, .int .i64 on, .int .i64 ru, .int .i64 tr, .int .i64 ve, .string sp, .string sq, .slice ao fs.length cap]] W fun e w' => e = .returned (.int .i64 (planCE id pin key pu on ru tr ve sp sq fs)) ∧ Below W.heap.size W w') := hide (fun W hb => rplanC_any id pin key pu on ru tr ve sp sq fs ao cap W hi hp (unhide HR W hb) hn hfl)
  have NO : Hid (∀ W, Below W1.heap.size W1 W → Calls Tryz.prog 5 #[.agg #[.string id, .string pin, .string key, .int .i64 pu, .int .i64 on, .int .i64 ru, .int .i64 tr, .int .i64 ve, .string sp, .string sq, .slice ao fs.length cap], .iface 28 (.pointer (some ⟨W1.heap.size, 0, none⟩))] W fun e w' => e = .returned (.tuple #[.pointer none, .int .i64 (planCE id pin key pu on ru tr ve sp sq fs)]) ∧ Below W.heap.size W w') := hide (fun W hb => open_no id pin key pu on ru tr ve sp sq fs ao cap hi hp (unhide HR W hb) hn hfl hE)
  generalize planCE id pin key pu on ru tr ve sp sq fs = E at *
  have hEb : (E != 0) = true := by simpa using hE
  have hEb2 : (E == 0) = false := by simpa using hE
  have HW1 := hide hW1; have HB0 := hide hb1; have HG0 := hide hg0; have HF := hide hF
  clear hW1 hb1 hX hg0 hF hi hp hr hn hfl hpw hro
  go_enter Tryz.func3, Tryz.ntmps3
  go_upto_region 1 with fail
  rw [← unhide HW1, ← unhide HG0]
  go_wp2_with fail
  refine (unhide NM).mono ?_
  rintro r y1 ⟨⟨v, rfl, hM⟩, hb⟩
  have HB1 := hide hb
  have HM := hide hM
  clear hb hM NM
  obtain ⟨a0, a1, a2, a3, a4, a5, a6, a7, a8, a9, a10⟩ := unhide HF y1 (unhide HB1)
  go_wp2_with fail
  refine (unhide NO _ (unhide HB1)).mono ?_
  rintro r y2 ⟨rfl, hb⟩
  have HB2 := hide ((unhide HB1).trans (hb.mono (unhide HB1).size))
  clear hb a0 a1 a2 a3 a4 a5 a6 a7 a8 a9 a10 HB1 HM
  obtain ⟨a0, a1, a2, a3, a4, a5, a6, a7, a8, a9, a10⟩ := unhide HF y2 (unhide HB2)
  go_wp2_with fail
  refine (unhide NP _ (unhide HB2)).mono ?_
  rintro r y3 ⟨rfl, hb⟩
  have HB3 := hide ((unhide HB0).trans (((unhide HB2).trans (hb.mono (unhide HB2).size)).mono (unhide HB0).size))
  clear hb a0 a1 a2 a3 a4 a5 a6 a7 a8 a9 a10 HB2
  go_wp2
  go_ret
  exact ⟨rfl, unhide HB3⟩
theorem walkW_form (id pin key : ByteArray) (pu on ru tr ve : Int) (sp sq : ByteArray) (fs : List (Int × Int)) (ao : Option Addr) (cap : Nat) (power again : Int) (l : List XOrder) (ra : Option Addr) (rc : Nat) (w : World) (hi : id.size ≤ maxLen) (hp : pin.size ≤ maxLen) (hr : FRow w ao fs) (hn : FNums fs) (hfl : (fs.length : Int) ≤ 9000000000000) (hpw : -9223372036854775808 ≤ power ∧ power ≤ 9223372036854775807) (hro : RowOrder w ra l) (hE : planCE id pin key pu on ru tr ve sp sq fs = 0) (hoe : ordersE key 1 l ≠ 0) : Calls Tryz.prog 3 #[.agg #[.string id, .string pin, .string key, .int .i64 pu, .int .i64 on, .int .i64 ru, .int .i64 tr, .int .i64 ve, .string sp, .string sq, .slice ao fs.length cap], .int .i64 power, .slice ra l.length rc, .int .i64 again] w fun e w' => e = .returned (.bool true) ∧ Below w.heap.size w w' := by
  obtain ⟨W1, hW1⟩ : ∃ W1, W1 = w.alloc (.cells #[.string id, .string pin, .string key, .int .i64 pu, .int .i64 on, .int .i64 ru, .int .i64 tr, .int .i64 ve, .string sp, .string sq, .slice ao fs.length cap] 26) := ⟨_, rfl⟩
  have hb1 : Below w.heap.size w W1 := by rw [hW1]; exact (Below.refl _ _).alloc (Nat.le_refl _) _
  have hX : W1.heap[w.heap.size]? = some (.cells #[.string id, .string pin, .string key, .int .i64 pu, .int .i64 on, .int .i64 ru, .int .i64 tr, .int .i64 ve, .string sp, .string sq, .slice ao fs.length cap] 26) := by rw [hW1]; exact heap_alloc_new _ _
  obtain ⟨g0, hg0⟩ : ∃ g0, g0 = w.heap.size := ⟨_, rfl⟩
  rw [← hg0] at hX
  have hF : ∀ W : World, Below W1.heap.size W1 W → W.cell? ⟨g0, 0, none⟩ = some (.string id) ∧ W.cell? ⟨g0, 1, none⟩ = some (.string pin) ∧ W.cell? ⟨g0, 2, none⟩ = some (.string key) ∧ W.cell? ⟨g0, 3, none⟩ = some (.int .i64 pu) ∧ W.cell? ⟨g0, 4, none⟩ = some (.int .i64 on) ∧ W.cell? ⟨g0, 5, none⟩ = some (.int .i64 ru) ∧ W.cell? ⟨g0, 6, none⟩ = some (.int .i64 tr) ∧ W.cell? ⟨g0, 7, none⟩ = some (.int .i64 ve) ∧ W.cell? ⟨g0, 8, none⟩ = some (.string sp) ∧ W.cell? ⟨g0, 9, none⟩ = some (.string sq) ∧ W.cell? ⟨g0, 10, none⟩ = some (.slice ao fs.length cap) := fun W hb => by
    have hW := (hb.block _ (block_ltR hX)).trans hX
    refine ⟨?_, ?_, ?_, ?_, ?_, ?_, ?_, ?_, ?_, ?_, ?_⟩ <;> simp [World.cell?, hW]
  have NM : Hid (Calls Tryz.prog 4 #[.int .i64 32, .int .i64 power] W1 fun r w' => (∃ v, r = .returned (.pointer (some ⟨W1.heap.size, 0, none⟩)) ∧ MemAt w' W1.heap.size W1.heap.size v ⟨List.replicate 32 zeroCk, power, false⟩) ∧ Below W1.heap.size W1 w') := hide (newMemory_any 32 power hpw W1)
  have HR : Hid (∀ W, Below W1.heap.size W1 W → FRow W ao fs) := hide (fun W hb => (hr.below hb1).below hb)
  have NP : Hid (∀ W, Below W1.heap.size W1 W → Calls Tryz.prog 6 #[.agg #[.string id, .string pin, .string key, .int .i64 pu, .int .i64 on, .int .i64 ru, .int .i64 tr, .int .i64 ve, .string sp, .string sq, .slice ao fs.length cap]] W fun e w' => e = .returned (.int .i64 (planCE id pin key pu on ru tr ve sp sq fs)) ∧ Below W.heap.size W w') := hide (fun W hb => rplanC_any id pin key pu on ru tr ve sp sq fs ao cap W hi hp (unhide HR W hb) hn hfl)
  obtain ⟨hK0, ht⟩ := planCE_ok hE
  have NO : Hid (∀ W v, Below W1.heap.size W1 W → MemAt W W1.heap.size W1.heap.size v ⟨List.replicate 32 zeroCk, power, false⟩ → Calls Tryz.prog 5 #[.agg #[.string id, .string pin, .string key, .int .i64 pu, .int .i64 on, .int .i64 ru, .int .i64 tr, .int .i64 ve, .string sp, .string sq, .slice ao fs.length cap], .iface 28 (.pointer (some ⟨W1.heap.size, 0, none⟩))] W fun e w' => ∃ cb bb, e = .returned (.tuple #[.pointer (some ⟨cb, 0, none⟩), .int .i64 0]) ∧ CdAt w' W1.heap.size cb bb W1.heap.size v (openC (firstK pin key pu on ru tr ve) ⟨List.replicate 32 zeroCk, power, false⟩ (roomR fs) sp sq) ∧ Below W1.heap.size W1 w' ∧ W1.heap.size ≤ cb ∧ W1.heap.size ≤ bb) := hide (fun W v hb hM => by
    refine (open_yes id pin key pu on ru tr ve sp sq fs ao cap hM rfl (by simp) (fun c hc => by rw [(List.mem_replicate.1 hc).2]; rfl) (fun e => by have := (new_bare power).headOf; rw [this] at e; cases e) hi hp (unhide HR W hb) hn hfl hE).mono ?_
    rintro r w' ⟨cb, bb, q1, q2, q3, q4, q5⟩
    exact ⟨cb, bb, q1, q2, chg_step hb hb.size q3 (mem_far hM (Nat.le_refl _)), Nat.le_trans hb.size q4, Nat.le_trans hb.size q5⟩)
  rw [hE] at NP
  have NR : Hid (∀ W, Below W1.heap.size W1 W → Calls Tryz.prog 8 #[.string key, .int .i64 1, .slice ra l.length rc] W fun e w' => e = .returned (.tuple #[.string (ordersV key 1 l), .int .i64 (ordersE key 1 l)]) ∧ Below W.heap.size W w') := hide (fun W hb => orders_any key 1 l ra rc W ((hro.below hb1).below hb))
  have hV : ordersV key 1 l = ⟨#[]⟩ := by unfold ordersV; rw [if_neg hoe]
  rw [hV] at NR
  generalize ordersE key 1 l = oe at *
  have hob : (oe != 0) = true := by simpa using hoe
  have hob2 : (oe == 0) = false := by simpa using hoe
  have HW1 := hide hW1; have HB0 := hide hb1; have HG0 := hide hg0; have HF := hide hF
  clear hW1 hb1 hX hg0 hF hi hp hr hn hfl hpw hro hE hK0 ht hV
  go_enter Tryz.func3, Tryz.ntmps3
  go_upto_region 1 with fail
  rw [← unhide HW1, ← unhide HG0]
  go_wp2_with fail
  refine (unhide NM).mono ?_
  rintro r y1 ⟨⟨v, rfl, hM⟩, hb⟩
  have HB1 := hide hb
  have HM := hide hM
  clear hb hM NM
  obtain ⟨a0, a1, a2, a3, a4, a5, a6, a7, a8, a9, a10⟩ := unhide HF y1 (unhide HB1)
  go_wp2_with fail
  refine (unhide NO _ _ (unhide HB1) (unhide HM)).mono ?_
  rintro r y2 ⟨cb, bb, rfl, hC, hb, hcb, hbb⟩
  have HB2 := hide hb; have HC := hide hC; have HCB := hide hcb; have HBB := hide hbb
  clear hb hC hcb hbb a0 a1 a2 a3 a4 a5 a6 a7 a8 a9 a10 HB1 HM NO
  obtain ⟨a0, a1, a2, a3, a4, a5, a6, a7, a8, a9, a10⟩ := unhide HF y2 (unhide HB2)
  go_wp2_with fail
  refine (unhide NP _ (unhide HB2)).mono ?_
  rintro r y3 ⟨rfl, hb⟩
  have HB3 := hide ((unhide HB2).trans (hb.mono (unhide HB2).size))
  have HC3 := hide ((unhide HC).below hb)
  clear hb a0 a1 a2 a3 a4 a5 a6 a7 a8 a9 a10 HB2 HC NP
  go_wp2_with fail
  refine (opened_yes cb W1.heap.size _).mono ?_
  rintro r y4 ⟨rfl, hy⟩
  have hy' := hy.symm
  subst hy'
  obtain ⟨a0, a1, a2, a3, a4, a5, a6, a7, a8, a9, a10⟩ := unhide HF y3 (unhide HB3)
  go_wp2_with fail
  refine (unhide NR _ (unhide HB3)).mono ?_
  rintro r y5 ⟨rfl, hb⟩
  have HB5 := hide ((unhide HB3).trans (hb.mono (unhide HB3).size))
  have HC5 := hide ((unhide HC3).below hb)
  clear hb a0 a1 a2 a3 a4 a5 a6 a7 a8 a9 a10 HB3 HC3 NR
  have HB6 := hide ((unhide HB0).trans ((unhide HB5).mono (unhide HB0).size))
  clear HB5 HC5
  go_wp2
  go_ret
  exact ⟨rfl, unhide HB6⟩
end Go.Proofs.YtajkbkljonejnaaGreatDoor
