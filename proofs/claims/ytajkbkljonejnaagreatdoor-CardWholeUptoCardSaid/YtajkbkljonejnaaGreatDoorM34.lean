/- tagSize of the program. -/
import Derived.Test.YtajkbkljonejnaaGreatDoorM33
import Derived.Test.YtajkbkljonejnaaGreatDoorM00
import Derived.Test.YtajkbkljonejnaaGreatDoorRows
import Derived.Test.YtajkbkljonejnaaGreatDoorM02
import Derived.ProofKit
import Derived.OpenShut
import Derived.Deep.Slices
import Derived.Deep.RegionWith
import Derived.Deep.RegionHeld3
import Derived.Deep.DeepCutAuto
import Derived.Deep.DrawnRows
import Derived.Deep.AppendLies
import Derived.Laws.AppendOwn
import Derived.Laws.AppendOwnNone
import Derived.Deep.CutBlock
namespace Go.Proofs.YtajkbkljonejnaaGreatDoor
open Go.RowKit
set_option linter.unusedVariables false
def tagSz (l : List UInt8) : Nat :=
  match l with
  | [] => 1
  | [a] => if a.toNat % 32 = 31 then 2 else 1
  | a :: b :: _ => if a.toNat % 32 = 31 then (if b.toNat < 128 then 2 else 3) else 1
end Go.Proofs.YtajkbkljonejnaaGreatDoor
namespace Go.Proofs.YtajkbkljonejnaaGreatDoor
open Go.RowKit
set_option linter.unusedVariables false
end Go.Proofs.YtajkbkljonejnaaGreatDoor
namespace Go.Proofs.YtajkbkljonejnaaGreatDoor
open Go.RowKit
set_option linter.unusedVariables false
def lenN (z x y t : Nat) : Option (Nat × Nat) :=
  if z = 0 then none else if x < 128 then some (x, 1)
  else if x = 129 ∧ 2 ≤ z then (if 128 ≤ y then some (y, 2) else none)
  else if x = 130 ∧ 3 ≤ z then (if 256 ≤ y * 256 + t then some (y * 256 + t, 3) else none) else none
def lenAt (s : ByteArray) : Option (Nat × Nat) := lenN s.size (byteAt s 0) (byteAt s 1) (byteAt s 2)
end Go.Proofs.YtajkbkljonejnaaGreatDoor
namespace Go.Proofs.YtajkbkljonejnaaGreatDoor
open Go.ChangeShapes Go.WideShapes Go.ChangeAt Go.RowKit Go.Deep
set_option linter.unusedVariables false
inductive It where
  | mk (tag : Int) (text : ByteArray) (list : List It)
def It.tag : It → Int | .mk t _ _ => t
def It.text : It → ByteArray | .mk _ s _ => s
def It.list : It → List It | .mk _ _ l => l
instance : Inhabited It := ⟨.mk 0 ⟨#[]⟩ []⟩
def IAt (W : World) (R : Option Addr → List It → Prop) (b off i : Nat) (x : It) : Prop :=
  ∃ co cc, W.cell? ⟨b, off + i * 3, none⟩ = some (.int .i64 x.tag) ∧ W.cell? ⟨b, off + i * 3 + 1, none⟩ = some (.string x.text) ∧
    W.cell? ⟨b, off + i * 3 + 2, none⟩ = some (.slice co x.list.length cc) ∧ x.list.length ≤ cc ∧ R co x.list ∧ x.tag ≤ 9223372036854775807 ∧ x.text.size ≤ maxLen
def IRow (W : World) : Nat → Option Addr → List It → Prop
  | 0, _, l => l = []
  | d + 1, ao, l => l = [] ∨ ∃ b off, ao = some ⟨b, off, none⟩ ∧ b < W.heap.size ∧ ∀ i x, l[i]? = some x → IAt W (IRow W d) b off i x
theorem IRow.below {W W' : World} (hb : Below W.heap.size W W') : ∀ (d : Nat) {ao : Option Addr} {l : List It}, IRow W d ao l → IRow W' d ao l
  | 0, _, _, h => h
  | d + 1, _, _, h => by
    rcases h with h | ⟨b, off, rfl, hlt, hc⟩
    · exact .inl h
    · refine .inr ⟨b, off, rfl, Nat.lt_of_lt_of_le hlt hb.size, fun i x hx => ?_⟩
      obtain ⟨co, cc, h1, h2, h3, h4, h5, h6⟩ := hc i x hx
      exact ⟨co, cc, (hb.cell (p := ⟨b, off + i * 3, none⟩) hlt).trans h1, (hb.cell (p := ⟨b, off + i * 3 + 1, none⟩) hlt).trans h2, (hb.cell (p := ⟨b, off + i * 3 + 2, none⟩) hlt).trans h3, h4, IRow.below hb d h5, h6⟩
theorem IRow.nil (W : World) (d : Nat) (ao : Option Addr) : IRow W d ao [] := by
  cases d with
  | zero => rfl
  | succ d => exact .inl rfl
end Go.Proofs.YtajkbkljonejnaaGreatDoor
namespace Go.Proofs.YtajkbkljonejnaaGreatDoor
open Go.RowKit
set_option linter.unusedVariables false
def tagAt (s : ByteArray) : Nat := valN (s.data.toList.take (tagSz s.data.toList))
def behind (s : ByteArray) (k : Nat) : ByteArray := s.extract k s.size
def IRowA (W : World) (A : Nat → Prop) : Nat → Option Addr → List It → Prop
  | 0, _, l => l = []
  | d + 1, ao, l => l = [] ∨ ∃ b off, ao = some ⟨b, off, none⟩ ∧ b < W.heap.size ∧ A b ∧ ∀ i x, l[i]? = some x → IAt W (IRowA W A d) b off i x
theorem IRowA.nil (W : World) (A : Nat → Prop) (d : Nat) (ao : Option Addr) : IRowA W A d ao [] := by
  cases d with
  | zero => rfl
  | succ d => exact .inl rfl
theorem IRowA.row {W : World} {A : Nat → Prop} : ∀ (d : Nat) {ao : Option Addr} {l : List It}, IRowA W A d ao l → IRow W d ao l
  | 0, _, _, h => h
  | d + 1, _, _, h => by
    rcases h with h | ⟨b, off, rfl, hlt, _, hc⟩
    · exact .inl h
    · refine .inr ⟨b, off, rfl, hlt, fun i x hx => ?_⟩
      obtain ⟨co, cc, h1, h2, h3, h4, h5, h6⟩ := hc i x hx
      exact ⟨co, cc, h1, h2, h3, h4, IRowA.row d h5, h6⟩
theorem IRowA.kept {W W' : World} {A A' : Nat → Prop} (hs : W.heap.size ≤ W'.heap.size) (hk : ∀ b, b < W.heap.size → A b → W'.heap[b]? = W.heap[b]? ∧ A' b) : ∀ (d : Nat) {ao : Option Addr} {l : List It}, IRowA W A d ao l → IRowA W' A' d ao l
  | 0, _, _, h => h
  | d + 1, _, _, h => by
    rcases h with h | ⟨b, off, rfl, hlt, hA, hc⟩
    · exact .inl h
    · obtain ⟨hb, hA'⟩ := hk b hlt hA
      refine .inr ⟨b, off, rfl, Nat.lt_of_lt_of_le hlt hs, hA', fun i x hx => ?_⟩
      obtain ⟨co, cc, h1, h2, h3, h4, h5, h6⟩ := hc i x hx
      exact ⟨co, cc, (World.cell?_of_block (w := W) (w' := W') (a := ⟨b, off + i * 3, none⟩) hb).trans h1, (World.cell?_of_block (w := W) (w' := W') (a := ⟨b, off + i * 3 + 1, none⟩) hb).trans h2, (World.cell?_of_block (w := W) (w' := W') (a := ⟨b, off + i * 3 + 2, none⟩) hb).trans h3, h4, IRowA.kept hs hk d h5, h6⟩
theorem IRowA.below {W W' : World} {A : Nat → Prop} (hb : Below W.heap.size W W') (d : Nat) {ao : Option Addr} {l : List It} (h : IRowA W A d ao l) : IRowA W' A d ao l :=
  IRowA.kept hb.size (fun b hlt hA => ⟨hb.block b hlt, hA⟩) d h
theorem IRowA.mono {W : World} {A A' : Nat → Prop} (hA : ∀ b, b < W.heap.size → A b → A' b) (d : Nat) {ao : Option Addr} {l : List It} (h : IRowA W A d ao l) : IRowA W A' d ao l :=
  IRowA.kept (Nat.le_refl _) (fun b hlt h => ⟨rfl, hA b hlt h⟩) d h
end Go.Proofs.YtajkbkljonejnaaGreatDoor
namespace Go.Proofs.YtajkbkljonejnaaGreatDoor
open Go.RowKit
set_option linter.unusedVariables false
def SameBut (g : Nat) (w w' : World) : Prop := w'.heap.size = w.heap.size ∧ ∀ b, b ≠ g → w'.heap[b]? = w.heap[b]?
theorem SameBut.refl (g : Nat) (w : World) : SameBut g w w := ⟨rfl, fun _ _ => rfl⟩
theorem SameBut.cell {g : Nat} {w w' : World} (h : SameBut g w w') (j : Nat) (u : Value) : SameBut g w (w'.setCell ⟨g, j, none⟩ u) :=
  ⟨by have := h.1; simpa using this, fun b hb => (Below.heap_setCell _ _ _ _ hb).trans (h.2 b hb)⟩
theorem SameBut.drew {g : Nat} {w w' : World} (h : SameBut g w w') : SameBut g w w'.drew := h
theorem SameBut.drewN {g : Nat} {w w' : World} (h : SameBut g w w') (q : Nat) : SameBut g w (w'.drewN q) := h
theorem IRowA.but {w w' : World} {g B base d : Nat} {ao : Option Addr} {l : List It} (h : IRowA w (fun b => B ≤ b) d ao l) (hs : SameBut g w w') (hg : g < B) (hB : base ≤ B) : IRowA w' (fun b => base ≤ b) d ao l :=
  IRowA.kept (Nat.le_of_eq hs.1.symm) (fun b _ hb => ⟨hs.2 b (by have : B ≤ b := hb; omega), Nat.le_trans hB hb⟩) d h
end Go.Proofs.YtajkbkljonejnaaGreatDoor
namespace Go.Proofs.YtajkbkljonejnaaGreatDoor
open Go.RowKit
set_option linter.unusedVariables false
end Go.Proofs.YtajkbkljonejnaaGreatDoor
namespace Go.Proofs.YtajkbkljonejnaaGreatDoor
open Go.RowKit
set_option linter.unusedVariables false
attribute [local go_sem ↓] Go.wp_at_zero Go.wp_at_succ
abbrev tagL (t : Nat) : List Int := bigL t (tagLen t)
theorem two_new (w : World) (x y : Value) (e : TypeId) : ∀ j u, [x, y][j]? = some u → (w.alloc (.cells #[x, y] e)).cell? ((⟨w.heap.size, 0, none⟩ : Addr).add j) = some u := by
  intro j u hj
  have hg := heap_alloc_new w (.cells #[x, y] e)
  rw [show (⟨w.heap.size, 0, none⟩ : Addr).add j = ⟨w.heap.size, 0 + j, none⟩ from by unfold Addr.add; split <;> simp_all, Nat.zero_add, cell_of_row _ _ j #[x, y] e _ hg]
  simpa using hj
theorem three_new (w : World) (x y z : Value) (e : TypeId) : ∀ j u, [x, y, z][j]? = some u → (w.alloc (.cells #[x, y, z] e)).cell? ((⟨w.heap.size, 0, none⟩ : Addr).add j) = some u := by
  intro j u hj
  have hg := heap_alloc_new w (.cells #[x, y, z] e)
  rw [show (⟨w.heap.size, 0, none⟩ : Addr).add j = ⟨w.heap.size, 0 + j, none⟩ from by unfold Addr.add; split <;> simp_all, Nat.zero_add, cell_of_row _ _ j #[x, y, z] e _ hg]
  simpa using hj
set_option maxRecDepth 100000 in
set_option maxHeartbeats 1000000 in
theorem appendTag_any (t : Nat) (base n : Nat) (v : Value) (xs : List Value) (w : World) (ht : t < 16777216) (hown : w.ownsRow base 5 1 v n xs) (hn : n ≤ 1000000) (hbase : base ≤ w.heap.size) :
    Calls Tryz.prog 92 #[v, .int .i64 t] w fun e w' => ∃ g cap, e = .returned (.slice (some ⟨g, 0, none⟩) (n + tagLen t) cap) ∧ w'.ownsRow base 5 1 (.slice (some ⟨g, 0, none⟩) (n + tagLen t) cap) (n + tagLen t) (xs ++ (tagL t).map (Value.int .u8)) ∧ w.grownBy w' v.ownBlock ∧ (v.ownBlock = some g ∨ w.heap.size ≤ g) := by
  obtain ⟨i0, hi, hz0, hz1, hz2⟩ := info_parts infoByte
  by_cases c1 : t < 256
  · have hL : tagLen t = 1 := by unfold tagLen; rw [if_pos c1]
    have hB : (tagL t).map (Value.int .u8) = [.int .u8 ((t : Int))] := by unfold tagL; rw [hL]; simp [bigL]; omega
    rw [hL, hB]
    clear hL hB
    go_enter Tryz.func92, Tryz.ntmps92
    go_wp2_with (at_builtin; refine wpList_append_lies _ rfl _ _ 55 rfl base 5 i0 (.int .u8 0) 1 1 Tryz.underlying55 hi hz0 hz1 hz2 rfl (by decide) _ _ _ rfl (hown.alloc _) ⟨w.heap.size, 0, none⟩ 1 1 [.int .u8 ((t : Int))] rfl rfl (cell_one_new _ _ _) ?c2 (by omega) ?c3 ?c4 ?c5 (w.heap.size + 1) (by simp) ?_)
    case c2 => intro u hu; simp at hu; subst hu; rfl
    case c3 => unfold maxLen; omega
    case c4 => omega
    case c5 => simp; omega
    intro g cap w1 hown' hgrow hat hlt
    go_wp2
    go_ret
    exact ⟨_, _, rfl, hown', ⟨hgrow.os, hgrow.tape, hgrow.output, by have := hgrow.size; simp at this; omega, fun k hk hne => (hgrow.block k (by simp; omega) hne).trans (Below.heap_alloc _ _ _ hk)⟩, hat.elim (fun h => .inl h) (fun h => .inr (by omega))⟩
  · by_cases c2 : t < 65536
    · have hL : tagLen t = 2 := by unfold tagLen; rw [if_neg c1, if_pos c2]
      have hB : (tagL t).map (Value.int .u8) = [.int .u8 ((t : Int) / 256), .int .u8 ((t : Int) % 256)] := by unfold tagL; rw [hL]; simp [bigL]; omega
      rw [hL, hB]
      clear hL hB
      go_enter Tryz.func92, Tryz.ntmps92
      go_wp2_with (at_builtin; refine wpList_append_lies _ rfl _ _ 55 rfl base 5 i0 (.int .u8 0) 1 1 Tryz.underlying55 hi hz0 hz1 hz2 rfl (by decide) _ _ _ rfl (hown.alloc _) ⟨w.heap.size, 0, none⟩ 2 2 [.int .u8 ((t : Int) / 256), .int .u8 ((t : Int) % 256)] rfl rfl (two_new _ _ _ _) ?c2 (by omega) ?c3 ?c4 ?c5 (w.heap.size + 1) (by simp) ?_)
      case c2 => intro u hu; simp at hu; rcases hu with rfl | rfl <;> rfl
      case c3 => unfold maxLen; omega
      case c4 => omega
      case c5 => simp; omega
      intro g cap w1 hown' hgrow hat hlt
      go_wp2
      go_ret
      exact ⟨_, _, rfl, hown', ⟨hgrow.os, hgrow.tape, hgrow.output, by have := hgrow.size; simp at this; omega, fun k hk hne => (hgrow.block k (by simp; omega) hne).trans (Below.heap_alloc _ _ _ hk)⟩, hat.elim (fun h => .inl h) (fun h => .inr (by omega))⟩
    · have hL : tagLen t = 3 := by unfold tagLen; rw [if_neg c1, if_neg c2]
      have hB : (tagL t).map (Value.int .u8) = [.int .u8 ((t : Int) / 65536), .int .u8 ((t : Int) / 256 % 256), .int .u8 ((t : Int) % 256)] := by unfold tagL; rw [hL]; simp [bigL]; omega
      rw [hL, hB]
      clear hL hB
      go_enter Tryz.func92, Tryz.ntmps92
      go_wp2_with (at_builtin; refine wpList_append_lies _ rfl _ _ 55 rfl base 5 i0 (.int .u8 0) 1 1 Tryz.underlying55 hi hz0 hz1 hz2 rfl (by decide) _ _ _ rfl (hown.alloc _) ⟨w.heap.size, 0, none⟩ 3 3 [.int .u8 ((t : Int) / 65536), .int .u8 ((t : Int) / 256 % 256), .int .u8 ((t : Int) % 256)] rfl rfl (three_new _ _ _ _ _) ?c2 (by omega) ?c3 ?c4 ?c5 (w.heap.size + 1) (by simp) ?_)
      case c2 => intro u hu; simp at hu; rcases hu with rfl | rfl | rfl <;> rfl
      case c3 => unfold maxLen; omega
      case c4 => omega
      case c5 => simp; omega
      intro g cap w1 hown' hgrow hat hlt
      go_wp2
      go_ret
      exact ⟨_, _, rfl, hown', ⟨hgrow.os, hgrow.tape, hgrow.output, by have := hgrow.size; simp at this; omega, fun k hk hne => (hgrow.block k (by simp; omega) hne).trans (Below.heap_alloc _ _ _ hk)⟩, hat.elim (fun h => .inl h) (fun h => .inr (by omega))⟩
end Go.Proofs.YtajkbkljonejnaaGreatDoor
namespace Go.Proofs.YtajkbkljonejnaaGreatDoor
open Go.RowKit
set_option linter.unusedVariables false
attribute [local go_sem ↓] Go.wp_at_zero Go.wp_at_succ
def FRow (W : World) (ao : Option Addr) (fs : List (Int × Int)) : Prop :=
  fs = [] ∨ ∃ b off, ao = some ⟨b, off, none⟩ ∧ b < W.heap.size ∧ ∀ i, i < fs.length → W.cell? ⟨b, off + i * 2, none⟩ = some (.int .i64 (fs.getD i (0, 0)).1) ∧ W.cell? ⟨b, off + i * 2 + 1, none⟩ = some (.int .i64 (fs.getD i (0, 0)).2)
theorem FRow.below {W W' : World} {ao : Option Addr} {fs : List (Int × Int)} (h : FRow W ao fs) (hb : Below W.heap.size W W') : FRow W' ao fs := by
  rcases h with h | ⟨b, off, rfl, hlt, hc⟩
  · exact .inl h
  · exact .inr ⟨b, off, rfl, Nat.lt_of_lt_of_le hlt hb.size, fun i hi => ⟨(hb.cell (p := ⟨b, off + i * 2, none⟩) hlt).trans (hc i hi).1, (hb.cell (p := ⟨b, off + i * 2 + 1, none⟩) hlt).trans (hc i hi).2⟩⟩
def okF (f : Int × Int) : Bool := validB f.1 && (!madeB f.1.toNat && (decide (0 ≤ f.2) && decide (f.2 ≤ 255)))
def fieldsE (fs : List (Int × Int)) : Int := if fs.all okF = true then (if 100 < fs.length then 2 else 0) else 1
def FNums (fs : List (Int × Int)) : Prop := ∀ f ∈ fs, f.1 ≤ 9223372036854775807
def AllTo (fs : List (Int × Int)) (k : Nat) : Prop := (fs.take k).all okF = true
theorem all_take_succ (fs : List (Int × Int)) (k : Nat) (h : k < fs.length) : (fs.take (k + 1)).all okF = ((fs.take k).all okF && okF (fs.getD k (0, 0))) := by
  rw [List.take_succ_eq_append_getElem h, List.all_append]
  simp [List.getD_eq_getElem?_getD, List.getElem?_eq_getElem h]
theorem all_of_take_false (fs : List (Int × Int)) (k : Nat) (h : (fs.take k).all okF = false) : fs.all okF = false := by
  have e := List.take_append_drop k fs
  rw [← e, List.all_append, h, Bool.false_and]
set_option maxRecDepth 1000000 in
set_option maxHeartbeats 2000000 in
theorem checkFields_any (fs : List (Int × Int)) (ao : Option Addr) (cap : Nat) (w : World) (hr : FRow w ao fs) (hn : FNums fs) (hl : (fs.length : Int) ≤ 9000000000000000000) :
    Calls Tryz.prog 91 #[.slice ao fs.length cap] w fun e w' => e = .returned (.int .i64 (fieldsE fs)) ∧ Below w.heap.size w w' := by
  go_enter Tryz.func91, Tryz.ntmps91
  go_wp2
  go_loopw [7] (fun i wr => ∃ k : Nat, k ≤ fs.length ∧ i = .int .i64 k ∧ AllTo fs k ∧ Below w.heap.size w wr) (fun i _ => fs.length - (intOf i).toNat)
  case atStart => exact ⟨0, Nat.zero_le _, rfl, by simp [AllTo], Below.refl _ _⟩
  case round =>
    obtain ⟨k, hk, rfl, hall', hbw⟩ := hrel
    have hall : (fs.take k).all okF = true := hall'
    clear hall'
    by_cases hlt : k < fs.length
    · rcases hr with hnil | ⟨b, off, rfl, hb, hc⟩
      · rw [hnil] at hlt; simp at hlt
      obtain ⟨c0, c1⟩ := hc k hlt
      have d0 : wr.cell? ⟨b, off + k * 2, none⟩ = _ := (hbw.cell (p := ⟨b, off + k * 2, none⟩) hb).trans c0
      have d1 : wr.cell? ⟨b, off + k * 2 + 1, none⟩ = _ := (hbw.cell (p := ⟨b, off + k * 2 + 1, none⟩) hb).trans c1
      have hnext := all_take_succ fs k hlt
      rw [hall, Bool.true_and] at hnext
      have hfn : (fs.getD k (0, 0)).1 ≤ 9223372036854775807 := hn _ (by
        rw [List.getD_eq_getElem?_getD, List.getElem?_eq_getElem hlt]; exact List.getElem_mem hlt)
      have hfo : okF (fs.getD k (0, 0)) = false → fieldsE fs = 1 := fun h => by
        unfold fieldsE
        rw [all_of_take_false fs (k + 1) (by rw [hnext, h]), if_neg (by decide)]
      generalize fs.getD k (0, 0) = f at *
      obtain ⟨ft, fl⟩ := f
      simp only at d0 d1 hfn
      have n1 := fun w => valid_any ft w hfn
      have hbk : b < wr.heap.size := World.block_lt_of_cell? _ _ d0
      clear c0 c1 hc
      cases hv : validB ft with
      | false =>
        rw [hv] at n1
        have N1 := hide n1
        have HO := hide (hfo (by unfold okF; rw [hv, Bool.false_and]))
        clear n1 hfo hnext hall hv
        go_wp2_with (go_at_call 122; refine (unhide N1 _).mono ?_; rintro e w1 ⟨rfl, hw1⟩; subst hw1)
        go_ret
        exact ⟨ret_int (unhide HO).symm, hbw.alloc hbw.size _⟩
      | true =>
        obtain ⟨h1, h2⟩ := validB_lt hv
        obtain ⟨tn, rfl⟩ := Int.eq_ofNat_of_zero_le (show 0 ≤ ft by omega)
        have n2 := fun w => made_any tn w (by omega) hv
        rw [hv] at n1
        cases hm : madeB tn with
        | true =>
          rw [hm] at n2
          have N1 := hide n1; have N2 := hide n2
          have HO := hide (hfo (by unfold okF; simp [hv, hm]))
          clear n1 n2 hfo hnext hall hv hm
          go_wp2_with (first | (go_at_call 122; refine (unhide N1 _).mono ?_; rintro e w1 ⟨rfl, hw1⟩; subst hw1) | (go_at_call 123; refine (unhide N2 _).mono ?_; rintro e w1 ⟨rfl, hw1⟩; subst hw1))
          go_ret
          exact ⟨ret_int (unhide HO).symm, hbw.alloc hbw.size _⟩
        | false =>
          rw [hm] at n2
          have N1 := hide n1; have N2 := hide n2
          by_cases hl0 : fl < 0
          · have HO := hide (hfo (by unfold okF; simp; intros; omega))
            clear n1 n2 hfo hnext hall hv hm
            go_wp2_with (first | (go_at_call 122; refine (unhide N1 _).mono ?_; rintro e w1 ⟨rfl, hw1⟩; subst hw1) | (go_at_call 123; refine (unhide N2 _).mono ?_; rintro e w1 ⟨rfl, hw1⟩; subst hw1))
            go_ret
            exact ⟨ret_int (unhide HO).symm, hbw.alloc hbw.size _⟩
          · by_cases hl2 : 255 < fl
            · have HO := hide (hfo (by unfold okF; simp; intros; omega))
              clear n1 n2 hfo hnext hall hv hm
              go_wp2_with (first | (go_at_call 122; refine (unhide N1 _).mono ?_; rintro e w1 ⟨rfl, hw1⟩; subst hw1) | (go_at_call 123; refine (unhide N2 _).mono ?_; rintro e w1 ⟨rfl, hw1⟩; subst hw1))
              go_ret
              exact ⟨ret_int (unhide HO).symm, hbw.alloc hbw.size _⟩
            · have hok : okF ((tn : Int), fl) = true := by unfold okF; simp [hv, hm]; omega
              rw [hok] at hnext
              have HX := hide hnext
              have g0 : 0 ≤ fl := by omega
              have g1 : fl ≤ 255 := by omega
              clear n1 n2 hfo hnext hall hv hm hok hl0 hl2 h1 h2 hfn hn
              go_wp2_with fail
              refine (unhide N1 _).mono ?_
              rintro e w1 ⟨rfl, hw1⟩
              subst hw1
              go_wp2_with fail
              refine (unhide N2 _).mono ?_
              rintro e w1 ⟨rfl, hw1⟩
              subst hw1
              go_wp2_with fail
              go_roundw
              case rel => exact ⟨k + 1, by omega, by go_num, unhide HX, hbw.alloc hbw.size _⟩
              case measure => simp [intOf]; omega
    · rw [List.take_of_length_le (by omega)] at hall
      have he : fieldsE fs = if 100 < fs.length then 2 else 0 := by unfold fieldsE; rw [if_pos hall]
      have HE := hide he
      clear hall he
      by_cases h100 : 100 < fs.length
      · have H1 := hide h100
        go_wp2
        go_ret
        exact ⟨ret_int (by rw [unhide HE, if_pos (unhide H1)]), hbw⟩
      · have H1 := hide h100
        go_wp2
        go_ret
        exact ⟨ret_int (by rw [unhide HE, if_neg (unhide H1)]), hbw⟩
end Go.Proofs.YtajkbkljonejnaaGreatDoor
namespace Go.Proofs.YtajkbkljonejnaaGreatDoor
open Go.RowKit
set_option linter.unusedVariables false
structure Raw where
  tag : Int
  text : ByteArray
  co : Option Addr
  n : Nat
  cc : Nat
def Raw.cells (r : Raw) : List Value := [.int .i64 r.tag, .string r.text, .slice r.co r.n r.cc]
end Go.Proofs.YtajkbkljonejnaaGreatDoor
namespace Go.Proofs.YtajkbkljonejnaaGreatDoor
open Go.RowKit
set_option linter.unusedVariables false
end Go.Proofs.YtajkbkljonejnaaGreatDoor
