/- cutLength of the program: the length at the beginning of a text. -/
import Derived.Test.YtfpglpefofcdeaaGreatDoorM01
import Derived.Test.YtfpglpefofcdeaaGreatDoorM00
import Derived.Test.YtfpglpefofcdeaaGreatDoorRows
import Derived.ProofKit
import Derived.OpenShut
import Derived.Deep.Slices
import Derived.Deep.RegionWith
import Derived.Deep.RegionHeld3
import Derived.Deep.DeepCutAuto
import Derived.Deep.DrawnRows
import Derived.Deep.AppendLies
import Derived.Laws.AppendOwn
import Derived.Laws.AppendOwnNone
import Derived.Deep.CutBlock
namespace Go.Proofs.YtfpglpefofcdeaaGreatDoor
open Go.RowKit
set_option linter.unusedVariables false

/-- a length, and in how many bytes: of z bytes, the first three of them -/
def lenN (z x y t : Nat) : Option (Nat × Nat) :=
  if z = 0 then none else if x < 128 then some (x, 1)
  else if x = 129 ∧ 2 ≤ z then (if 128 ≤ y then some (y, 2) else none)
  else if x = 130 ∧ 3 ≤ z then (if 256 ≤ y * 256 + t then some (y * 256 + t, 3) else none) else none
def lenAt (s : ByteArray) : Option (Nat × Nat) := lenN s.size (byteAt s 0) (byteAt s 1) (byteAt s 2)
theorem lenN_spec {z x y t n k : Nat} (h : lenN z x y t = some (n, k)) : 1 ≤ k ∧ k ≤ z ∧ k ≤ 3 := by
  unfold lenN at h
  repeat' split at h
  all_goals first | (cases h; omega) | cases h
theorem lenAt_lt {s : ByteArray} {n k : Nat} (h : lenAt s = some (n, k)) : n < 65536 ∧ 1 ≤ k ∧ k ≤ s.size ∧ k ≤ 3 := by
  have h1 := byteAt_lt s 0
  have h2 := byteAt_lt s 1
  have h3 := byteAt_lt s 2
  have h4 := lenN_spec h
  refine ⟨?_, h4⟩
  unfold lenAt lenN at h
  repeat' split at h
  all_goals first | (cases h; omega) | cases h

def lenRet (r : Option (Nat × Nat)) (s : ByteArray) (e : Ending) : Prop :=
  match r with
  | some (n, k) => e = .returned (.tuple #[.int .i64 n, .string (s.extract k s.size), .bool true])
  | none => ∃ (m : Nat) (r : ByteArray), m < 65536 ∧ e = .returned (.tuple #[.int .i64 m, .string r, .bool false])

theorem len_ret {s : ByteArray} {n k : Nat} {a : Int} (h : a = (n : Int)) : Ending.returned (.tuple #[.int .i64 a, .string (s.extract k s.size), .bool true]) = .returned (.tuple #[.int .i64 n, .string (s.extract k s.size), .bool true]) := by rw [h]
theorem len_not {r : ByteArray} {m : Nat} {a : Int} (h : a = (m : Int)) : Ending.returned (.tuple #[.int .i64 a, .string r, .bool false]) = .returned (.tuple #[.int .i64 m, .string r, .bool false]) := by rw [h]

set_option maxRecDepth 100000 in
set_option maxHeartbeats 2000000 in
theorem cutLength_any (s : ByteArray) (w : World) (hs : s.size ≤ maxLen) :
    Calls Tryz.prog 121 #[.string s] w fun e w' => lenRet (lenAt s) s e ∧ ∃ q, w' = w.drewN q := by
  unfold maxLen at hs
  have b0 := get_byte s 0
  have b1 := get_byte s 1
  have b2 := get_byte s 2
  have l0 := byteAt_lt s 0
  have l1 := byteAt_lt s 1
  have l2 := byteAt_lt s 2
  have hv : lenAt s = lenN s.size (byteAt s 0) (byteAt s 1) (byteAt s 2) := rfl
  generalize byteAt s 0 = x at *
  generalize byteAt s 1 = y at *
  generalize byteAt s 2 = t at *
  generalize lenAt s = R at *
  unfold lenN at hv
  by_cases hz : s.size = 0
  · rw [if_pos hz] at hv
    have he : s.toList.isEmpty = true := by rw [Lib.toList_data]; have : s.data.toList.length = 0 := by simpa using hz
                                            rw [List.length_eq_zero_iff.1 this]; rfl
    have HV := hide hv
    clear hv hz b0 b1 b2
    go_enter Tryz.func121, Tryz.ntmps121
    go_wp2
    go_ret3
    exact ⟨by rw [unhide HV]; exact ⟨0, _, by omega, rfl⟩, 0, rfl⟩
  · rw [if_neg hz] at hv
    have he : s.toList.isEmpty = false := by
      rw [Lib.toList_data]
      cases hq : s.data.toList with
      | nil => have : s.data.toList.length = s.size := by simp
               rw [hq] at this; simp at this; omega
      | cons a b => rfl
    have hp : 0 < s.size := by omega
    clear hz
    by_cases c0 : x < 128
    · rw [if_pos c0] at hv
      have HV := hide hv
      clear hv b1 b2
      have t0 : decide ((x : Int) < 128) = true := by simp; omega
      go_enter Tryz.func121, Tryz.ntmps121
      go_wp2_with fail
      repeat (go_quiet (fail); go_wp2_with fail)
      go_ret3
      exact ⟨by rw [unhide HV]; first | rfl | exact len_ret (by omega), by first | exact ⟨0, rfl⟩ | exact ⟨_, rfl⟩ | exact ⟨_, World.drewN_drewN _ _ _⟩⟩
    · rw [if_neg c0] at hv
      have t0 : decide ((x : Int) < 128) = false := by simp; omega
      clear c0
      by_cases c1 : x = 129
      · subst c1
        by_cases c2 : 2 ≤ s.size
        · rw [if_pos ⟨rfl, c2⟩] at hv
          by_cases c3 : 128 ≤ y
          · rw [if_pos c3] at hv
            have t3 : decide (128 ≤ (y : Int)) = true := by simp; omega
            have HV := hide hv
            clear hv b2
            go_enter Tryz.func121, Tryz.ntmps121
            go_wp2_with fail
            repeat (go_quiet (fail); go_wp2_with fail)
            go_ret3
            exact ⟨by rw [unhide HV]; first | rfl | exact len_ret (by omega), by first | exact ⟨0, rfl⟩ | exact ⟨_, rfl⟩ | exact ⟨_, World.drewN_drewN _ _ _⟩⟩
          · rw [if_neg c3] at hv
            have t3 : decide (128 ≤ (y : Int)) = false := by simp; omega
            have HV := hide hv
            clear hv b2
            go_enter Tryz.func121, Tryz.ntmps121
            go_wp2_with fail
            repeat (go_quiet (fail); go_wp2_with fail)
            go_ret3
            exact ⟨by rw [unhide HV]; exact ⟨y, _, by omega, by first | rfl | exact len_not (by omega)⟩, by first | exact ⟨0, rfl⟩ | exact ⟨_, rfl⟩ | exact ⟨_, World.drewN_drewN _ _ _⟩⟩
        · rw [if_neg (by omega), if_neg (by omega)] at hv
          have HV := hide hv
          clear hv b1 b2
          go_enter Tryz.func121, Tryz.ntmps121
          go_wp2_with fail
          repeat (go_quiet (fail); go_wp2_with fail)
          go_ret3
          exact ⟨by rw [unhide HV]; exact ⟨0, _, by omega, by first | rfl | exact len_not (by omega)⟩, by first | exact ⟨0, rfl⟩ | exact ⟨_, rfl⟩ | exact ⟨_, World.drewN_drewN _ _ _⟩⟩
      · have t1 : ((x : Int) == 129) = false := by simp; omega
        rw [if_neg (by omega)] at hv
        clear c1
        by_cases c4 : x = 130
        · subst c4
          by_cases c2 : 3 ≤ s.size
          · have o1 := or_i64 y t l2 (by omega)
            rw [if_pos ⟨rfl, c2⟩] at hv
            by_cases c3 : 256 ≤ y * 256 + t
            · rw [if_pos c3] at hv
              have t3 : decide (256 ≤ (y : Int) * 256 + (t : Int)) = true := by simp; omega
              have HV := hide hv
              clear hv
              go_enter Tryz.func121, Tryz.ntmps121
              go_wp2_with fail
              repeat (go_quiet (fail); go_wp2_with fail)
              go_ret3
              exact ⟨by rw [unhide HV]; first | rfl | exact len_ret (by omega), by first | exact ⟨0, rfl⟩ | exact ⟨_, rfl⟩ | exact ⟨_, World.drewN_drewN _ _ _⟩⟩
            · rw [if_neg c3] at hv
              have t3 : decide (256 ≤ (y : Int) * 256 + (t : Int)) = false := by simp; omega
              have HV := hide hv
              clear hv
              go_enter Tryz.func121, Tryz.ntmps121
              go_wp2_with fail
              repeat (go_quiet (fail); go_wp2_with fail)
              go_ret3
              exact ⟨by rw [unhide HV]; exact ⟨(y * 256 + t), _, by omega, by first | rfl | exact len_not (by omega)⟩, by first | exact ⟨0, rfl⟩ | exact ⟨_, rfl⟩ | exact ⟨_, World.drewN_drewN _ _ _⟩⟩
          · rw [if_neg (by omega)] at hv
            have HV := hide hv
            clear hv b1 b2
            go_enter Tryz.func121, Tryz.ntmps121
            go_wp2_with fail
            repeat (go_quiet (fail); go_wp2_with fail)
            go_ret3
            exact ⟨by rw [unhide HV]; exact ⟨0, _, by omega, by first | rfl | exact len_not (by omega)⟩, by first | exact ⟨0, rfl⟩ | exact ⟨_, rfl⟩ | exact ⟨_, World.drewN_drewN _ _ _⟩⟩
        · have t2 : ((x : Int) == 130) = false := by simp; omega
          rw [if_neg (by omega)] at hv
          have HV := hide hv
          clear hv b1 b2 c4
          go_enter Tryz.func121, Tryz.ntmps121
          go_wp2_with fail
          repeat (go_quiet (fail); go_wp2_with fail)
          go_ret3
          exact ⟨by rw [unhide HV]; exact ⟨0, _, by omega, by first | rfl | exact len_not (by omega)⟩, by first | exact ⟨0, rfl⟩ | exact ⟨_, rfl⟩ | exact ⟨_, World.drewN_drewN _ _ _⟩⟩
end Go.Proofs.YtfpglpefofcdeaaGreatDoor
namespace Go.Proofs.YtfpglpefofcdeaaGreatDoor
end Go.Proofs.YtfpglpefofcdeaaGreatDoor
namespace Go.Proofs.YtfpglpefofcdeaaGreatDoor
open Go.ChangeShapes Go.WideShapes Go.ChangeAt Go.RowKit Go.Deep
set_option linter.unusedVariables false

inductive It where
  | mk (tag : Int) (text : ByteArray) (list : List It)
def It.tag : It → Int | .mk t _ _ => t
def It.text : It → ByteArray | .mk _ s _ => s
def It.list : It → List It | .mk _ _ l => l
instance : Inhabited It := ⟨.mk 0 ⟨#[]⟩ []⟩

/-- item number i of a list at this place; R: of its own list -/
def IAt (W : World) (R : Option Addr → List It → Prop) (b off i : Nat) (x : It) : Prop :=
  ∃ co cc, W.cell? ⟨b, off + i * 3, none⟩ = some (.int .i64 x.tag) ∧ W.cell? ⟨b, off + i * 3 + 1, none⟩ = some (.string x.text) ∧
    W.cell? ⟨b, off + i * 3 + 2, none⟩ = some (.slice co x.list.length cc) ∧ x.list.length ≤ cc ∧ R co x.list ∧ x.tag ≤ 9223372036854775807 ∧ x.text.size ≤ maxLen
/-- a list of items that lies in memory, at most d deep -/
def IRow (W : World) : Nat → Option Addr → List It → Prop
  | 0, _, l => l = []
  | d + 1, ao, l => l = [] ∨ ∃ b off, ao = some ⟨b, off, none⟩ ∧ b < W.heap.size ∧ ∀ i x, l[i]? = some x → IAt W (IRow W d) b off i x
/-- how much a list holds -/
def wt : Nat → List It → Nat
  | 0, _ => 0
  | d + 1, l => (l.map fun x => 1 + x.text.size + wt d x.list).sum

theorem IRow.below {W W' : World} (hb : Below W.heap.size W W') : ∀ (d : Nat) {ao : Option Addr} {l : List It}, IRow W d ao l → IRow W' d ao l
  | 0, _, _, h => h
  | d + 1, _, _, h => by
    rcases h with h | ⟨b, off, rfl, hlt, hc⟩
    · exact .inl h
    · refine .inr ⟨b, off, rfl, Nat.lt_of_lt_of_le hlt hb.size, fun i x hx => ?_⟩
      obtain ⟨co, cc, h1, h2, h3, h4, h5, h6⟩ := hc i x hx
      exact ⟨co, cc, (hb.cell (p := ⟨b, off + i * 3, none⟩) hlt).trans h1, (hb.cell (p := ⟨b, off + i * 3 + 1, none⟩) hlt).trans h2, (hb.cell (p := ⟨b, off + i * 3 + 2, none⟩) hlt).trans h3, h4, IRow.below hb d h5, h6⟩

theorem sum_get {f : It → Nat} : ∀ {l : List It} {i : Nat} {x : It}, l[i]? = some x → f x ≤ (l.map f).sum
  | [], i, x, h => by simp at h
  | y :: r, 0, x, h => by simp at h; subst h; simp
  | y :: r, i + 1, x, h => by
    have := sum_get (f := f) (l := r) (i := i) (x := x) (by simpa using h)
    simp only [List.map_cons, List.sum_cons]
    omega
theorem wt_get {d : Nat} {l : List It} {i : Nat} {x : It} (h : l[i]? = some x) : 1 + x.text.size + wt d x.list ≤ wt (d + 1) l := sum_get (f := fun x => 1 + x.text.size + wt d x.list) h
theorem wt_length {d : Nat} : ∀ l : List It, l.length ≤ wt (d + 1) l
  | [] => by simp
  | x :: r => by
    have := wt_length (d := d) r
    simp only [wt, List.map_cons, List.sum_cons, List.length_cons] at this ⊢
    omega
theorem IRow.length_le {W : World} {d : Nat} {ao : Option Addr} {l : List It} (h : IRow W d ao l) : l.length ≤ wt d l := by
  cases d with
  | zero => rw [show l = [] from h]; exact Nat.zero_le _
  | succ d => exact wt_length l
theorem wt_nil (d : Nat) : wt d [] = 0 := by cases d <;> rfl
theorem IRow.nil (W : World) (d : Nat) (ao : Option Addr) : IRow W d ao [] := by
  cases d with
  | zero => rfl
  | succ d => exact .inl rfl

theorem cellsItem : Tryz.prog.cellsOf 101 = 3 := by kernel_rfl
theorem cellsIntI : Tryz.prog.cellsOf 3 = 1 := by kernel_rfl
theorem cellsStrI : Tryz.prog.cellsOf 9 = 1 := by kernel_rfl
theorem cellsItems : Tryz.prog.cellsOf 55 = 1 := by kernel_rfl
theorem bytesItem : Tryz.prog.bytesOf 101 = 48 := by kernel_rfl

theorem cell_ltI {w : World} {a : Addr} {v : Value} (h : w.cell? a = some v) : a.block < w.heap.size := by
  rcases Nat.lt_or_ge a.block w.heap.size with h1 | h1
  · exact h1
  · unfold World.cell? at h
    rw [Array.getElem?_eq_none h1] at h
    cases h

theorem bulk_pos {H : Type} (d : DataW H) : 1 ≤ Rows.uptoBulk d := by
  cases d with
  | lit l => cases l <;> simp [Rows.uptoBulk]
  | nil => simp [Rows.uptoBulk]
  | ptr d => simp [Rows.uptoBulk]
  | slice elems spare => simp [Rows.uptoBulk]
  | agg parts => simp [Rows.uptoBulk]
  | iface t d => simp [Rows.uptoBulk]
  | map entries => simp [Rows.uptoBulk]
  | held h => simp [Rows.uptoBulk]
theorem bulk_sum {H : Type} : ∀ l : List (DataW H), Rows.uptoBulkAll l = (l.map Rows.uptoBulk).sum
  | [] => by simp [Rows.uptoBulkAll]
  | x :: r => by simp [Rows.uptoBulkAll, bulk_sum r]
theorem bulk_mem {H : Type} {d : DataW H} {l : List (DataW H)} (h : d ∈ l) : Rows.uptoBulk d ≤ Rows.uptoBulkAll l := by
  induction l with
  | nil => cases h
  | cons x r ih =>
    simp only [Rows.uptoBulkAll]
    cases List.mem_cons.1 h with
    | inl e => subst e; omega
    | inr e => have := ih e; omega
theorem sum_le_sum {α : Type} (f g : α → Nat) : ∀ l : List α, (∀ x ∈ l, f x ≤ g x) → (l.map f).sum ≤ (l.map g).sum
  | [], _ => by simp
  | x :: r, h => by
    have := sum_le_sum f g r (fun y hy => h y (List.mem_cons_of_mem _ hy))
    have h1 := h x (List.mem_cons_self ..)
    simp only [List.map_cons, List.sum_cons]
    omega

set_option maxRecDepth 100000 in
set_option maxHeartbeats 1000000 in
/-- a list of items that was read, opened -/
theorem open_items {H : Type} {enc : TypeId × Value → H} {W : World} {held : Bool} : ∀ (N fuel : Nat) {cs : List Value} {y : DataW H × List MemPlace},
    DataW.trod enc Tryz.prog W 0 (fun _ => true) held fuel 55 cs = some y → Rows.uptoBulk y.1 ≤ N →
    ∃ (ao : Option Addr) (cap : Nat) (l : List It), cs = [.slice ao l.length cap] ∧ l.length ≤ cap ∧ IRow W N ao l ∧ wt N l + 1 ≤ Rows.uptoBulk y.1
  | 0, fuel, cs, y, h, hN => by have := bulk_pos y.1; omega
  | N + 1, fuel, cs, y, h, hN => by
    rcases open_slice Tryz.underlying55 h with ⟨rfl, rfl⟩ | ⟨a, len, cap, m, n, D, Pl, rfl, _, hl, hm, hmm, rfl, hel⟩
    · exact ⟨none, 0, [], rfl, Nat.le_refl _, .inl rfl, by simp [wt, Rows.uptoBulk]⟩
    · simp only [if_true] at hmm
      rw [cellsItem] at hel
      simp only [Rows.uptoBulk] at hN ⊢
      have hDi : ∀ i, i < len → Rows.uptoBulk (D i) ≤ Rows.uptoBulkAll ((List.range len).map D) := fun i hi => bulk_mem (List.mem_map.2 ⟨i, by simpa using hi, rfl⟩)
      obtain ⟨F, hF⟩ := choose_lt (α := It) (n := len) (p := fun i x => (∃ co cc, W.cell? (a.add (i * 3)) = some (.int .i64 x.tag) ∧ W.cell? ((a.add (i * 3)).add 1) = some (.string x.text) ∧ W.cell? ((a.add (i * 3)).add 2) = some (.slice co x.list.length cc) ∧ x.list.length ≤ cc ∧ IRow W N co x.list ∧ x.tag ≤ 9223372036854775807 ∧ x.text.size ≤ maxLen) ∧ 1 + x.text.size + wt N x.list ≤ Rows.uptoBulk (D i)) (fun i hi => by
        obtain ⟨cs', h1, h2⟩ := hel i (by omega)
        obtain ⟨xs, k', _, hagg, hsz, hlen, hq⟩ := DataW.trod_struct Tryz.underlying101 h2
        rw [cellsItem] at hsz
        obtain ⟨_, _, hc⟩ := World.cells?_some h1
        match cs', hsz, hc with
        | [c0, c1, c2], _, hc =>
          match xs, hlen, hagg with
          | [y0, y1, y2], _, hagg =>
            have g0 : DataW.trod enc Tryz.prog W 0 (fun _ => true) held k' 3 [c0] = some y0 := by simpa [cellsIntI] using hq 0 _ rfl
            have g1 : DataW.trod enc Tryz.prog W 0 (fun _ => true) held k' 9 [c1] = some y1 := by simpa [cellsStrI] using hq 1 _ rfl
            have g2 : DataW.trod enc Tryz.prog W 0 (fun _ => true) held k' 55 [c2] = some y2 := by simpa [cellsItems] using hq 2 _ rfl
            obtain ⟨t, e0, rfl, w0⟩ := DataW.trod_int Tryz.underlying3 g0
            obtain ⟨s, e1, rfl, w1⟩ := DataW.trod_string Tryz.underlying9 g1
            have hb : Rows.uptoBulk (D i) = s.size + Rows.uptoBulk y2.1 + 3 := by
              have hD : D i = _ := (Prod.ext_iff.1 hagg).1
              rw [hD]
              simp only [List.map_cons, List.map_nil, Rows.uptoBulk, Rows.uptoBulkAll]
              have : s.data.toList.length = s.size := by simp
              omega
            have hi2 := hDi i hi
            obtain ⟨co, cc, l, e2, hlc, hr, hw⟩ := open_items N k' g2 (by omega)
            simp at e0 e1 e2
            subst e0 e1 e2
            have c0 := hc 0 (by omega)
            have c1 := hc 1 (by omega)
            have c2 := hc 2 (by omega)
            refine ⟨.mk t s l, ⟨co, cc, by simpa [Addr.add, It.tag] using c0, c1, c2, hlc, hr, (bounds_i64 w0).2, w1⟩, ?_⟩
            simp only [It.text, It.list]
            omega)
      refine ⟨some a, cap, (List.range len).map F, by simp, by simpa using hl, ?_, ?_⟩
      · by_cases hl0 : len = 0
        · subst hl0; exact .inl rfl
        · obtain ⟨b, off, spot⟩ := a
          obtain ⟨⟨co, cc, hc0, _⟩, _⟩ := hF 0 (by omega)
          have hspot : spot = none := by simpa [Addr.add] using World.cell?_spot hc0
          subst hspot
          refine .inr ⟨b, off, rfl, by simpa [Addr.add] using cell_ltI hc0, fun i x hx => ?_⟩
          have hi' : i < len := by
            rcases Nat.lt_or_ge i len with h | h
            · exact h
            · rw [List.getElem?_eq_none (by simpa using h)] at hx; cases hx
          rw [List.getElem?_map, List.getElem?_range hi'] at hx
          simp at hx
          subst hx
          obtain ⟨⟨co, cc, k0, k1, k2, k3⟩, _⟩ := hF i hi'
          rw [WideShapes.add_plain] at k0 k1 k2
          rw [WideShapes.add_plain] at k1 k2
          exact ⟨co, cc, k0, k1, k2, k3⟩
      · have e1 : wt (N + 1) ((List.range len).map F) = ((List.range len).map fun i => 1 + (F i).text.size + wt N (F i).list).sum := by simp only [wt, List.map_map]; rfl
        have e2 : Rows.uptoBulkAll ((List.range len).map D) = ((List.range len).map fun i => Rows.uptoBulk (D i)).sum := by rw [bulk_sum, List.map_map]; rfl
        have := sum_le_sum (fun i => 1 + (F i).text.size + wt N (F i).list) (fun i => Rows.uptoBulk (D i)) (List.range len) (fun i hi => (hF i (by simpa using hi)).2)
        omega
end Go.Proofs.YtfpglpefofcdeaaGreatDoor
namespace Go.Proofs.YtfpglpefofcdeaaGreatDoor
open Go.RowKit
set_option linter.unusedVariables false

/-- the tag at the beginning -/
def tagAt (s : ByteArray) : Nat := valN (s.data.toList.take (tagSz s.data.toList))
/-- what is behind the first k bytes -/
def behind (s : ByteArray) (k : Nat) : ByteArray := s.extract k s.size
theorem behind_size (s : ByteArray) (k : Nat) : (behind s k).size = s.size - k := by unfold behind; rw [ByteArray.size_extract]; omega
/-- the item at the beginning; P: how its own list is read -/
def itemAt (P : ByteArray → Option (List It)) (s : ByteArray) : Option (It × ByteArray) :=
  if s.size < tagSz s.data.toList then none
  else if validB (tagAt s) = false then none
  else match lenAt (behind s (tagSz s.data.toList)) with
    | none => none
    | some (n, k) =>
      if (behind (behind s (tagSz s.data.toList)) k).size < n then none
      else if madeB (tagAt s) = true then (P ((behind (behind s (tagSz s.data.toList)) k).extract 0 n)).map fun l => (.mk (tagAt s) ⟨#[]⟩ l, behind (behind (behind s (tagSz s.data.toList)) k) n)
      else some (.mk (tagAt s) ((behind (behind s (tagSz s.data.toList)) k).extract 0 n) [], behind (behind (behind s (tagSz s.data.toList)) k) n)
/-- items one behind the other -/
def listP (P : ByteArray → Option (List It)) : Nat → ByteArray → Option (List It)
  | 0, s => if s.size = 0 then some [] else none
  | f + 1, s => if s.size = 0 then some [] else match itemAt P s with | none => none | some (x, r) => (listP P f r).map (x :: ·)
/-- a list that may be d deep -/
def parseD : Nat → ByteArray → Option (List It)
  | 0, s => if s.size = 0 then some [] else none
  | d + 1, s => listP (parseD d) s.size s
theorem item_size {P : ByteArray → Option (List It)} {s : ByteArray} {x : It} {r : ByteArray} (h : itemAt P s = some (x, r)) : r.size < s.size := by
  have h1 := (tagSz_le s.data.toList).1
  unfold itemAt at h
  split at h
  · cases h
  · split at h
    · cases h
    · split at h
      · cases h
      · rename_i n k hl
        have hk := lenAt_lt hl
        rw [behind_size] at hk
        split at h
        · cases h
        · split at h
          · cases hp : P ((behind (behind s (tagSz s.data.toList)) k).extract 0 n) with
            | none => rw [hp] at h; cases h
            | some l =>
              rw [hp] at h
              have := (Prod.ext_iff.1 (Option.some.inj h)).2
              simp only at this
              rw [← this, behind_size, behind_size, behind_size]
              omega
          · have := (Prod.ext_iff.1 (Option.some.inj h)).2
            simp only at this
            rw [← this, behind_size, behind_size, behind_size]
            omega

/-- as IRow, and every block that it lies in is one of A -/
def IRowA (W : World) (A : Nat → Prop) : Nat → Option Addr → List It → Prop
  | 0, _, l => l = []
  | d + 1, ao, l => l = [] ∨ ∃ b off, ao = some ⟨b, off, none⟩ ∧ b < W.heap.size ∧ A b ∧ ∀ i x, l[i]? = some x → IAt W (IRowA W A d) b off i x
theorem IRowA.nil (W : World) (A : Nat → Prop) (d : Nat) (ao : Option Addr) : IRowA W A d ao [] := by
  cases d with
  | zero => rfl
  | succ d => exact .inl rfl
theorem IRowA.row {W : World} {A : Nat → Prop} : ∀ (d : Nat) {ao : Option Addr} {l : List It}, IRowA W A d ao l → IRow W d ao l
  | 0, _, _, h => h
  | d + 1, _, _, h => by
    rcases h with h | ⟨b, off, rfl, hlt, _, hc⟩
    · exact .inl h
    · refine .inr ⟨b, off, rfl, hlt, fun i x hx => ?_⟩
      obtain ⟨co, cc, h1, h2, h3, h4, h5, h6⟩ := hc i x hx
      exact ⟨co, cc, h1, h2, h3, h4, IRowA.row d h5, h6⟩
/-- kept where those blocks are kept -/
theorem IRowA.kept {W W' : World} {A A' : Nat → Prop} (hs : W.heap.size ≤ W'.heap.size) (hk : ∀ b, b < W.heap.size → A b → W'.heap[b]? = W.heap[b]? ∧ A' b) : ∀ (d : Nat) {ao : Option Addr} {l : List It}, IRowA W A d ao l → IRowA W' A' d ao l
  | 0, _, _, h => h
  | d + 1, _, _, h => by
    rcases h with h | ⟨b, off, rfl, hlt, hA, hc⟩
    · exact .inl h
    · obtain ⟨hb, hA'⟩ := hk b hlt hA
      refine .inr ⟨b, off, rfl, Nat.lt_of_lt_of_le hlt hs, hA', fun i x hx => ?_⟩
      obtain ⟨co, cc, h1, h2, h3, h4, h5, h6⟩ := hc i x hx
      exact ⟨co, cc, (World.cell?_of_block (w := W) (w' := W') (a := ⟨b, off + i * 3, none⟩) hb).trans h1, (World.cell?_of_block (w := W) (w' := W') (a := ⟨b, off + i * 3 + 1, none⟩) hb).trans h2, (World.cell?_of_block (w := W) (w' := W') (a := ⟨b, off + i * 3 + 2, none⟩) hb).trans h3, h4, IRowA.kept hs hk d h5, h6⟩
theorem IRowA.below {W W' : World} {A : Nat → Prop} (hb : Below W.heap.size W W') (d : Nat) {ao : Option Addr} {l : List It} (h : IRowA W A d ao l) : IRowA W' A d ao l :=
  IRowA.kept hb.size (fun b hlt hA => ⟨hb.block b hlt, hA⟩) d h
theorem IRowA.mono {W : World} {A A' : Nat → Prop} (hA : ∀ b, b < W.heap.size → A b → A' b) (d : Nat) {ao : Option Addr} {l : List It} (h : IRowA W A d ao l) : IRowA W A' d ao l :=
  IRowA.kept (Nat.le_refl _) (fun b hlt h => ⟨rfl, hA b hlt h⟩) d h
end Go.Proofs.YtfpglpefofcdeaaGreatDoor
namespace Go.Proofs.YtfpglpefofcdeaaGreatDoor
open Go.RowKit
set_option linter.unusedVariables false

/-- what a list that was read answers, called in W, in W' -/
def ListRet (W W' : World) (d : Nat) (r : Option (List It)) (e : Ending) : Prop :=
  match r with
  | some l => ∃ ao cap, e = .returned (.tuple #[.slice ao l.length cap, .bool true]) ∧ l.length ≤ cap ∧ IRowA W' (fun b => W.heap.size ≤ b) d ao l
  | none => ∃ v n cap, e = .returned (.tuple #[.slice v n cap, .bool false])
/-- .. and an item -/
def ItemRet (W W' : World) (d : Nat) (r : Option (It × ByteArray)) (e : Ending) : Prop :=
  match r with
  | some (x, s) => ∃ co cc, e = .returned (.tuple #[.agg #[.int .i64 x.tag, .string x.text, .slice co x.list.length cc], .string s, .bool true]) ∧ x.list.length ≤ cc ∧ IRowA W' (fun b => W.heap.size ≤ b) d co x.list
  | none => ∃ (t : Int) (tx : ByteArray) (co : Option Addr) (n cc : Nat) (s : ByteArray), e = .returned (.tuple #[.agg #[.int .i64 t, .string tx, .slice co n cc], .string s, .bool false])

def ParseIH (d : Nat) : Prop := ∀ (s : ByteArray) (w : World), (s.size : Int) ≤ 65535 →
    Calls Tryz.prog 57 #[.string s, .int .i64 (9 - (d : Int))] w fun e w' => ListRet w w' d (parseD d s) e ∧ Below w.heap.size w w'

theorem set_block {w : World} {g j : Nat} {cs : Array Value} {e : TypeId} {fr : Nat × Nat} {v : Value} (h : w.heap[g]? = some (.cells cs e fr)) : (w.setCell ⟨g, j, none⟩ v).heap[g]? = some (.cells (cs.setIfInBounds j v) e fr) := by
  simp [World.setCell, Array.getElem?_modify, h]
theorem below_cell {B : Nat} {a w : World} (h : Below B a w) (j : Nat) (u : Value) {g : Nat} (hg : B ≤ g) : Below B a (w.setCell ⟨g, j, none⟩ u) := h.setCell hg u
theorem below_draws {a b : World} (h : Below a.heap.size a b) (q : Nat) : Below a.heap.size a (b.drewN q) := ⟨h.os, h.tape, h.output, h.size, h.block⟩

/-- one world as another, but for one block -/
def SameBut (g : Nat) (w w' : World) : Prop := w'.heap.size = w.heap.size ∧ ∀ b, b ≠ g → w'.heap[b]? = w.heap[b]?
theorem SameBut.refl (g : Nat) (w : World) : SameBut g w w := ⟨rfl, fun _ _ => rfl⟩
theorem SameBut.cell {g : Nat} {w w' : World} (h : SameBut g w w') (j : Nat) (u : Value) : SameBut g w (w'.setCell ⟨g, j, none⟩ u) :=
  ⟨by have := h.1; simpa using this, fun b hb => (Below.heap_setCell _ _ _ _ hb).trans (h.2 b hb)⟩
theorem SameBut.drew {g : Nat} {w w' : World} (h : SameBut g w w') : SameBut g w w'.drew := h
theorem SameBut.drewN {g : Nat} {w w' : World} (h : SameBut g w w') (q : Nat) : SameBut g w (w'.drewN q) := h
theorem IRowA.but {w w' : World} {g B base d : Nat} {ao : Option Addr} {l : List It} (h : IRowA w (fun b => B ≤ b) d ao l) (hs : SameBut g w w') (hg : g < B) (hB : base ≤ B) : IRowA w' (fun b => base ≤ b) d ao l :=
  IRowA.kept (Nat.le_of_eq hs.1.symm) (fun b _ hb => ⟨hs.2 b (by have : B ≤ b := hb; omega), Nat.le_trans hB hb⟩) d h

set_option maxRecDepth 1000000 in
set_option maxHeartbeats 4000000 in
theorem cutItem_any (d : Nat) (hd : d ≤ 7) (ih : ParseIH d) (s : ByteArray) (w : World) (hs : (s.size : Int) ≤ 65535) :
    Calls Tryz.prog 91 #[.string s, .int .i64 (8 - (d : Int))] w fun e w' => ItemRet w w' d (itemAt (parseD d) s) e ∧ Below w.heap.size w w' := by
  have hm : s.size ≤ maxLen := by unfold maxLen; omega
  obtain ⟨R, hres⟩ : ∃ R, R = itemAt (parseD d) s := ⟨_, rfl⟩
  rw [← hres]
  unfold itemAt at hres
  have h3 := tagSz_le s.data.toList
  by_cases hz : s.size < tagSz s.data.toList
  · rw [if_pos hz] at hres
    have HR := hide hres
    have N1 := hide (fun w => cutTag_no s w hm hz)
    clear hres hz h3
    go_enter Tryz.func91, Tryz.ntmps91
    go_wp2_with fail
    refine (unhide N1 _).mono ?_
    rintro e w1 ⟨rfl, hw1⟩
    subst hw1
    go_wp2_with fail
    try simp only [Exit.inBlock, Exit.then]
    exact bodyPost_ret (v := .tuple #[.agg #[.int .i64 0, .string ⟨#[]⟩, .slice none 0 0], .string ⟨#[]⟩, .bool false]) (by simp [results, Tryz.results91, go_sem]) rfl ⟨by rw [unhide HR]; exact ⟨_, _, _, _, _, _, rfl⟩, (Below.refl _ _).alloc (Nat.le_refl _) _⟩
  · rw [if_neg hz] at hres
    have n1 := fun w => cutTag_yes s w hm (by omega)
    have hm6 := valN_take3 s (tagSz s.data.toList) h3.2
    have hta : tagAt s = valN (s.data.toList.take (tagSz s.data.toList)) := rfl
    rw [← hta] at n1 hm6
    have hbs := behind_size s (tagSz s.data.toList)
    rw [show s.extract (tagSz s.data.toList) s.size = behind s (tagSz s.data.toList) from rfl] at n1
    generalize behind s (tagSz s.data.toList) = r1 at *
    generalize tagAt s = m at *
    cases hv : validB (m : Int) with
    | false =>
      rw [hv] at hres n1
      simp only [if_true] at hres
      have N1 := hide n1; have HR := hide hres
      clear n1 hres hv hbs hta h3 hz hm6
      go_enter Tryz.func91, Tryz.ntmps91
      go_wp2_with fail
      refine (unhide N1 _).mono ?_
      rintro e w1 ⟨rfl, q1, hw1⟩
      have hblk : w1.heap[w.heap.size]? = some (.cells #[.int .i64 0, .string ⟨#[]⟩, .slice none 0 0] 101 (0, 0)) := by rw [hw1]; exact heap_alloc_new w _
      have hbel : Below w.heap.size w w1 := by rw [hw1]; exact below_draws ((Below.refl _ _).alloc (Nat.le_refl _) _) _
      have hsze : w.heap.size < w1.heap.size := by rw [hw1]; simp
      have z0 : w1.cell? ⟨w.heap.size, 0, none⟩ = some (.int .i64 0) := cell_of_row _ _ 0 _ _ _ hblk
      have z1 : w1.cell? ⟨w.heap.size, 1, none⟩ = some (.string ⟨#[]⟩) := cell_of_row _ _ 1 _ _ _ hblk
      have z2 : w1.cell? ⟨w.heap.size, 2, none⟩ = some (.slice none 0 0) := cell_of_row _ _ 2 _ _ _ hblk
      have zf : ∀ o, w1.frozen? ⟨w.heap.size, o, none⟩ = false := fun o => frozen_of_row _ _ o _ _ hblk
      clear hw1
      go_wp2_with fail
      try simp only [Exit.inBlock, Exit.then]
      exact bodyPost_ret (v := .tuple #[.agg #[.int .i64 0, .string ⟨#[]⟩, .slice none 0 0], .string ⟨#[]⟩, .bool false]) (by simp [results, Tryz.results91, go_sem, z0, z1, z2]) rfl ⟨by rw [unhide HR]; exact ⟨_, _, _, _, _, _, rfl⟩, by first | exact hbel | exact below_draws hbel _ | exact below_cell (below_cell (below_cell hbel _ _ (Nat.le_refl _)) _ _ (Nat.le_refl _)) _ _ (Nat.le_refl _) | exact below_cell (below_cell (below_cell (below_draws hbel _) _ _ (Nat.le_refl _)) _ _ (Nat.le_refl _)) _ _ (Nat.le_refl _)⟩
    | true =>
      rw [hv] at hres n1
      simp only [Bool.true_eq_false, if_false] at hres
      have n2 := fun w => cutLength_any r1 w (by unfold maxLen; omega)
      have hrs : (r1.size : Int) ≤ 65535 := by omega
      have n3 := fun w => made_any m w hm6 hv
      clear hbs hta h3 hz hm6
      cases hl : lenAt r1 with
      | none =>
        rw [hl] at n2 hres
        simp only [] at hres
        simp only [lenRet] at n2
        have N1 := hide n1; have N2 := hide n2; have HR := hide hres
        clear n1 n2 n3 hres hv hl
        go_enter Tryz.func91, Tryz.ntmps91
        go_wp2_with fail
        refine (unhide N1 _).mono ?_
        rintro e w1 ⟨rfl, q1, hw1⟩
        have hblk : w1.heap[w.heap.size]? = some (.cells #[.int .i64 0, .string ⟨#[]⟩, .slice none 0 0] 101 (0, 0)) := by rw [hw1]; exact heap_alloc_new w _
        have hbel : Below w.heap.size w w1 := by rw [hw1]; exact below_draws ((Below.refl _ _).alloc (Nat.le_refl _) _) _
        have hsze : w.heap.size < w1.heap.size := by rw [hw1]; simp
        have z0 : w1.cell? ⟨w.heap.size, 0, none⟩ = some (.int .i64 0) := cell_of_row _ _ 0 _ _ _ hblk
        have z1 : w1.cell? ⟨w.heap.size, 1, none⟩ = some (.string ⟨#[]⟩) := cell_of_row _ _ 1 _ _ _ hblk
        have z2 : w1.cell? ⟨w.heap.size, 2, none⟩ = some (.slice none 0 0) := cell_of_row _ _ 2 _ _ _ hblk
        have zf : ∀ o, w1.frozen? ⟨w.heap.size, o, none⟩ = false := fun o => frozen_of_row _ _ o _ _ hblk
        clear hw1
        go_wp2_with fail
        refine (unhide N2 _).mono ?_
        rintro e w2 ⟨⟨m2, r2, hm2, rfl⟩, q2, hw2⟩
        subst hw2
        go_wp2_with fail
        try simp only [Exit.inBlock, Exit.then]
        exact bodyPost_ret (v := .tuple #[.agg #[.int .i64 0, .string ⟨#[]⟩, .slice none 0 0], .string ⟨#[]⟩, .bool false]) (by simp [results, Tryz.results91, go_sem, z0, z1, z2]) rfl ⟨by rw [unhide HR]; exact ⟨_, _, _, _, _, _, rfl⟩, by first | exact hbel | exact below_draws hbel _ | exact below_cell (below_cell (below_cell hbel _ _ (Nat.le_refl _)) _ _ (Nat.le_refl _)) _ _ (Nat.le_refl _) | exact below_cell (below_cell (below_cell (below_draws hbel _) _ _ (Nat.le_refl _)) _ _ (Nat.le_refl _)) _ _ (Nat.le_refl _)⟩
      | some nk =>
        obtain ⟨n, k⟩ := nk
        have hlk := lenAt_lt hl
        rw [hl] at n2 hres
        simp only [] at hres
        have hb2 := behind_size r1 k
        simp only [lenRet] at n2
        rw [show r1.extract k r1.size = behind r1 k from rfl] at n2
        generalize behind r1 k = r2 at *
        by_cases hn : r2.size < n
        · rw [if_pos hn] at hres
          have N1 := hide n1; have N2 := hide n2; have HR := hide hres
          have hn' : (r2.size : Int) < (n : Int) := by omega
          have t1 : decide ((r2.size : Int) < (n : Int)) = true := by simp; omega
          clear n1 n2 n3 hres hv hl hlk hn hb2
          go_enter Tryz.func91, Tryz.ntmps91
          go_wp2_with fail
          refine (unhide N1 _).mono ?_
          rintro e w1 ⟨rfl, q1, hw1⟩
          have hblk : w1.heap[w.heap.size]? = some (.cells #[.int .i64 0, .string ⟨#[]⟩, .slice none 0 0] 101 (0, 0)) := by rw [hw1]; exact heap_alloc_new w _
          have hbel : Below w.heap.size w w1 := by rw [hw1]; exact below_draws ((Below.refl _ _).alloc (Nat.le_refl _) _) _
          have hsze : w.heap.size < w1.heap.size := by rw [hw1]; simp
          have z0 : w1.cell? ⟨w.heap.size, 0, none⟩ = some (.int .i64 0) := cell_of_row _ _ 0 _ _ _ hblk
          have z1 : w1.cell? ⟨w.heap.size, 1, none⟩ = some (.string ⟨#[]⟩) := cell_of_row _ _ 1 _ _ _ hblk
          have z2 : w1.cell? ⟨w.heap.size, 2, none⟩ = some (.slice none 0 0) := cell_of_row _ _ 2 _ _ _ hblk
          have zf : ∀ o, w1.frozen? ⟨w.heap.size, o, none⟩ = false := fun o => frozen_of_row _ _ o _ _ hblk
          clear hw1
          go_wp2_with fail
          refine (unhide N2 _).mono ?_
          rintro e w2 ⟨rfl, q2, hw2⟩
          subst hw2
          go_wp2_with fail
          try simp only [Exit.inBlock, Exit.then]
          exact bodyPost_ret (v := .tuple #[.agg #[.int .i64 0, .string ⟨#[]⟩, .slice none 0 0], .string ⟨#[]⟩, .bool false]) (by simp [results, Tryz.results91, go_sem, z0, z1, z2]) rfl ⟨by rw [unhide HR]; exact ⟨_, _, _, _, _, _, rfl⟩, by first | exact hbel | exact below_draws hbel _ | exact below_cell (below_cell (below_cell hbel _ _ (Nat.le_refl _)) _ _ (Nat.le_refl _)) _ _ (Nat.le_refl _) | exact below_cell (below_cell (below_cell (below_draws hbel _) _ _ (Nat.le_refl _)) _ _ (Nat.le_refl _)) _ _ (Nat.le_refl _)⟩
        · rw [if_neg hn] at hres
          cases hmd : madeB m with
          | true =>
            rw [hmd] at hres n3
            simp only [if_true] at hres
            have n4 := fun w => ih (r2.extract 0 n) w (by rw [ByteArray.size_extract]; omega)
            have N1 := hide n1; have N2 := hide n2; have N3 := hide n3; have N4 := hide n4; have HR := hide hres
            have hn' : (n : Int) ≤ (r2.size : Int) := by omega
            have hn0 : (0 : Int) ≤ (n : Int) := by omega
            have hd1 : (9 : Int) - (d : Int) = 8 - (d : Int) + 1 := by omega
            have t1 : decide ((r2.size : Int) < (n : Int)) = false := by simp; omega
            clear n1 n2 n3 n4 hres hv hl hlk hmd hn hb2
            go_enter Tryz.func91, Tryz.ntmps91
            go_wp2_with fail
            refine (unhide N1 _).mono ?_
            rintro e w1 ⟨rfl, q1, hw1⟩
            have hblk : w1.heap[w.heap.size]? = some (.cells #[.int .i64 0, .string ⟨#[]⟩, .slice none 0 0] 101 (0, 0)) := by rw [hw1]; exact heap_alloc_new w _
            have hbel : Below w.heap.size w w1 := by rw [hw1]; exact below_draws ((Below.refl _ _).alloc (Nat.le_refl _) _) _
            have hsze : w.heap.size < w1.heap.size := by rw [hw1]; simp
            have z0 : w1.cell? ⟨w.heap.size, 0, none⟩ = some (.int .i64 0) := cell_of_row _ _ 0 _ _ _ hblk
            have z1 : w1.cell? ⟨w.heap.size, 1, none⟩ = some (.string ⟨#[]⟩) := cell_of_row _ _ 1 _ _ _ hblk
            have z2 : w1.cell? ⟨w.heap.size, 2, none⟩ = some (.slice none 0 0) := cell_of_row _ _ 2 _ _ _ hblk
            have zf : ∀ o, w1.frozen? ⟨w.heap.size, o, none⟩ = false := fun o => frozen_of_row _ _ o _ _ hblk
            clear hw1
            go_wp2_with fail
            refine (unhide N2 _).mono ?_
            rintro e w2 ⟨rfl, q2, hw2⟩
            subst hw2
            go_wp2_with fail
            refine (unhide N3 _).mono ?_
            rintro e w3 ⟨rfl, hw3⟩
            subst hw3
            go_wp2_with fail
            have hblkc : ((w1.drewN q2).setCell ⟨w.heap.size, 0, none⟩ (.int .i64 m)).heap[w.heap.size]? = some (.cells #[.int .i64 m, .string ⟨#[]⟩, .slice none 0 0] 101 (0, 0)) := set_block (w := w1.drewN q2) hblk
            have hbelc := below_cell (below_draws hbel q2) 0 (.int .i64 m) (Nat.le_refl w.heap.size)
            have hszc : w.heap.size < ((w1.drewN q2).setCell ⟨w.heap.size, 0, none⟩ (.int .i64 m)).heap.size := by simpa using hsze
            have N5 := hide (unhide N4 ((w1.drewN q2).setCell ⟨w.heap.size, 0, none⟩ (.int .i64 m)))
            rw [hd1] at N5
            clear N4 hblk hbel hsze z0 z1 z2 zf
            generalize (w1.drewN q2).setCell ⟨w.heap.size, 0, none⟩ (.int .i64 m) = wc at *
            refine (unhide N5).mono ?_
            rintro e w5 ⟨hret, hb5⟩
            have hblk5 : w5.heap[w.heap.size]? = _ := (hb5.block _ hszc).trans hblkc
            have hbel : Below w.heap.size w w5 := below_more hbelc hbelc.size hb5
            have hsze : w.heap.size < w5.heap.size := Nat.lt_of_lt_of_le hszc hb5.size
            have z0 : w5.cell? ⟨w.heap.size, 0, none⟩ = some (.int .i64 m) := cell_of_row _ _ 0 _ _ _ hblk5
            have z1 : w5.cell? ⟨w.heap.size, 1, none⟩ = some (.string ⟨#[]⟩) := cell_of_row _ _ 1 _ _ _ hblk5
            have z2 : w5.cell? ⟨w.heap.size, 2, none⟩ = some (.slice none 0 0) := cell_of_row _ _ 2 _ _ _ hblk5
            have zf : ∀ o, w5.frozen? ⟨w.heap.size, o, none⟩ = false := fun o => frozen_of_row _ _ o _ _ hblk5
            cases hp : parseD d (r2.extract 0 n) with
            | none =>
              rw [hp] at hret HR
              obtain ⟨pv, pn, pc, rfl⟩ := hret
              clear hb5 hbelc hblkc hblk5 N5 hp
              go_wp2_with fail
              go_region
              all_goals
                go_wp2_with fail
                try simp only [Exit.inBlock, Exit.then]
                refine bodyPost_ret (v := .tuple #[.agg #[.int .i64 m, .string ⟨#[]⟩, .slice pv pn pc], .string (r2.extract n r2.size), .bool false]) (by simp [results, Tryz.results91, go_sem, z0, z1, z2]) rfl ⟨by rw [unhide HR]; exact ⟨_, _, _, _, _, _, rfl⟩, ?_⟩
                repeat' first | exact hbel | (refine below_cell ?_ _ _ (Nat.le_refl _)) | (refine Below.drew ?_) | (refine below_draws ?_ _)
            | some l =>
              rw [hp] at hret HR
              obtain ⟨po, pc, rfl, hpl, hrow⟩ := hret
              have HW := hide hrow
              have HB := hide hszc
              clear hb5 hbelc hblkc hblk5 N5 hp hrow
              go_wp2_with fail
              go_region
              all_goals
                go_wp2_with fail
                try simp only [Exit.inBlock, Exit.then]
                refine bodyPost_ret (v := .tuple #[.agg #[.int .i64 m, .string ⟨#[]⟩, .slice po l.length pc], .string (r2.extract n r2.size), .bool true]) (by simp [results, Tryz.results91, go_sem, z0, z1, z2]) rfl ⟨by rw [unhide HR]; exact ⟨po, pc, rfl, hpl, IRowA.but (unhide HW) (by repeat' first | exact SameBut.refl _ _ | (refine SameBut.cell ?_ _ _) | (refine SameBut.drew ?_) | (refine SameBut.drewN ?_ _)) (unhide HB) (Nat.le_of_lt (unhide HB))⟩, ?_⟩
                repeat' first | exact hbel | (refine below_cell ?_ _ _ (Nat.le_refl _)) | (refine Below.drew ?_) | (refine below_draws ?_ _)
          | false =>
            rw [hmd] at hres n3
            simp only [Bool.false_eq_true, if_false] at hres
            have N1 := hide n1; have N2 := hide n2; have N3 := hide n3; have HR := hide hres
            have hn' : (n : Int) ≤ (r2.size : Int) := by omega
            have hn0 : (0 : Int) ≤ (n : Int) := by omega
            have t1 : decide ((r2.size : Int) < (n : Int)) = false := by simp; omega
            clear n1 n2 n3 hres hv hl hlk hmd hn hb2
            go_enter Tryz.func91, Tryz.ntmps91
            go_wp2_with fail
            refine (unhide N1 _).mono ?_
            rintro e w1 ⟨rfl, q1, hw1⟩
            have hblk : w1.heap[w.heap.size]? = some (.cells #[.int .i64 0, .string ⟨#[]⟩, .slice none 0 0] 101 (0, 0)) := by rw [hw1]; exact heap_alloc_new w _
            have hbel : Below w.heap.size w w1 := by rw [hw1]; exact below_draws ((Below.refl _ _).alloc (Nat.le_refl _) _) _
            have hsze : w.heap.size < w1.heap.size := by rw [hw1]; simp
            have z0 : w1.cell? ⟨w.heap.size, 0, none⟩ = some (.int .i64 0) := cell_of_row _ _ 0 _ _ _ hblk
            have z1 : w1.cell? ⟨w.heap.size, 1, none⟩ = some (.string ⟨#[]⟩) := cell_of_row _ _ 1 _ _ _ hblk
            have z2 : w1.cell? ⟨w.heap.size, 2, none⟩ = some (.slice none 0 0) := cell_of_row _ _ 2 _ _ _ hblk
            have zf : ∀ o, w1.frozen? ⟨w.heap.size, o, none⟩ = false := fun o => frozen_of_row _ _ o _ _ hblk
            clear hw1
            go_wp2_with fail
            refine (unhide N2 _).mono ?_
            rintro e w2 ⟨rfl, q2, hw2⟩
            subst hw2
            go_wp2_with fail
            refine (unhide N3 _).mono ?_
            rintro e w3 ⟨rfl, hw3⟩
            subst hw3
            go_wp2_with fail
            have hblkc : (((w1.drewN q2).setCell ⟨w.heap.size, 0, none⟩ (.int .i64 m)).setCell ⟨w.heap.size, 1, none⟩ (.string (r2.extract 0 n))).heap[w.heap.size]? = some (.cells #[.int .i64 m, .string (r2.extract 0 n), .slice none 0 0] 101 (0, 0)) := set_block (set_block (w := w1.drewN q2) hblk)
            have hbelc := below_cell (below_cell (below_draws hbel q2) 0 (.int .i64 m) (Nat.le_refl w.heap.size)) 1 (.string (r2.extract 0 n)) (Nat.le_refl w.heap.size)
            clear hblk hbel hsze z0 z1 z2 zf
            generalize ((w1.drewN q2).setCell ⟨w.heap.size, 0, none⟩ (.int .i64 m)).setCell ⟨w.heap.size, 1, none⟩ (.string (r2.extract 0 n)) = wc at *
            have z0 : wc.cell? ⟨w.heap.size, 0, none⟩ = some (.int .i64 m) := cell_of_row _ _ 0 _ _ _ hblkc
            have z1 : wc.cell? ⟨w.heap.size, 1, none⟩ = some (.string (r2.extract 0 n)) := cell_of_row _ _ 1 _ _ _ hblkc
            have z2 : wc.cell? ⟨w.heap.size, 2, none⟩ = some (.slice none 0 0) := cell_of_row _ _ 2 _ _ _ hblkc
            have zf : ∀ o, wc.frozen? ⟨w.heap.size, o, none⟩ = false := fun o => frozen_of_row _ _ o _ _ hblkc
            have hbel := hbelc
            clear hblkc hbelc
            go_region
            all_goals
              go_wp2_with fail
              try simp only [Exit.inBlock, Exit.then]
              refine bodyPost_ret (v := .tuple #[.agg #[.int .i64 m, .string (r2.extract 0 n), .slice none 0 0], .string (r2.extract n r2.size), .bool true]) (by simp [results, Tryz.results91, go_sem, z0, z1, z2]) rfl ⟨by rw [unhide HR]; exact ⟨none, 0, rfl, Nat.le_refl _, IRowA.nil _ _ _ _⟩, ?_⟩
              repeat' first | exact hbel | (refine below_cell ?_ _ _ (Nat.le_refl _)) | (refine Below.drew ?_) | (refine below_draws ?_ _)
end Go.Proofs.YtfpglpefofcdeaaGreatDoor
namespace Go.Proofs.YtfpglpefofcdeaaGreatDoor
open Go.RowKit
set_option linter.unusedVariables false

/-- what one item gives; G: its own list -/
def stepF (n : Int) (G : List It → Option ByteArray) (x : It) : Option ByteArray := if madeV x.tag = true then G x.list else if x.tag = n then some x.text else none
/-- the text of the first item with a tag -/
def findD (n : Int) : Nat → List It → Option ByteArray
  | 0, _ => none
  | d + 1, l => l.findSome? (stepF n (findD n d))
def foundV (r : Option ByteArray) : Value := .tuple #[.string (r.getD ⟨#[]⟩), .bool r.isSome]

theorem get_of_lt {l : List It} {k : Nat} (h : k < l.length) : ∃ x, l[k]? = some x := ⟨_, List.getElem?_eq_getElem h⟩
theorem find_next {f : It → Option ByteArray} {l : List It} {k : Nat} {x : It} (hx : l[k]? = some x) (h : (l.take k).findSome? f = none) (hf : f x = none) : (l.take (k + 1)).findSome? f = none := by
  have hk : k < l.length := by
    rcases Nat.lt_or_ge k l.length with h | h
    · exact h
    · rw [List.getElem?_eq_none h] at hx; cases hx
  rw [List.getElem?_eq_getElem hk] at hx
  rw [List.take_succ_eq_append_getElem hk, List.findSome?_append, h, Option.some.inj hx]
  simp [hf]
theorem find_here {f : It → Option ByteArray} {l : List It} {k : Nat} {x : It} {t : ByteArray} (hx : l[k]? = some x) (h : (l.take k).findSome? f = none) (hf : f x = some t) : l.findSome? f = some t := by
  have hk : k < l.length := by
    rcases Nat.lt_or_ge k l.length with h | h
    · exact h
    · rw [List.getElem?_eq_none h] at hx; cases hx
  rw [List.getElem?_eq_getElem hk] at hx
  conv => lhs; rw [← List.take_append_drop (k + 1) l]
  rw [List.findSome?_append, List.take_succ_eq_append_getElem hk, List.findSome?_append, h, Option.some.inj hx]
  simp [hf]

theorem ret_found {r : Option ByteArray} {t : ByteArray} {b : Bool} (h1 : r.getD ⟨#[]⟩ = t) (h2 : r.isSome = b) : Ending.returned (.tuple #[.string t, .bool b]) = .returned (foundV r) := by
  unfold foundV; rw [h1, h2]

set_option maxRecDepth 1000000 in
set_option maxHeartbeats 4000000 in
theorem find_any (n : Int) : ∀ (d : Nat) (l : List It) (ao : Option Addr) (cap : Nat) (w : World), IRow w d ao l → wt d l ≤ 1048576 →
    Calls Tryz.prog 97 #[.slice ao l.length cap, .int .i64 n] w fun e w' => e = .returned (foundV (findD n d l)) ∧ Below w.heap.size w w'
  | 0, l, ao, cap, w, hr, hw => by
    have hl : l = [] := hr
    subst hl
    clear hr hw
    go_enter Tryz.func97, Tryz.ntmps97
    go_wp2
    go_loopw [12] (fun i wr => i = .int .i64 0 ∧ Below w.heap.size w wr) (fun i _ => 0)
    case atStart => exact ⟨rfl, Below.refl _ _⟩
    case round =>
      obtain ⟨rfl, hbw⟩ := hrel
      go_wp2
      go_ret2
      exact ⟨rfl, hbw⟩
  | d + 1, l, ao, cap, w, hr, hw => by
    have hlen := hr.length_le
    have hres : findD n (d + 1) l = l.findSome? (stepF n (findD n d)) := rfl
    have IH := hide (find_any n d)
    go_enter Tryz.func97, Tryz.ntmps97
    go_wp2
    go_loopw [12] (fun i wr => ∃ k : Nat, k ≤ l.length ∧ i = .int .i64 k ∧ (l.take k).findSome? (stepF n (findD n d)) = none ∧ Below w.heap.size w wr) (fun i _ => l.length - (intOf i).toNat)
    case atStart => exact ⟨0, Nat.zero_le _, rfl, by simp, Below.refl _ _⟩
    case round =>
      obtain ⟨k, hk, rfl, hno, hbw⟩ := hrel
      by_cases hlt : k < l.length
      · rcases hr with hnil | ⟨b, off, rfl, hb, hc⟩
        · rw [hnil] at hlt; simp at hlt
        obtain ⟨x, hx⟩ := get_of_lt hlt
        obtain ⟨co, cc, c0, c1, c2, hcc, hsub, htag, htxt⟩ := hc k x hx
        have hwx := wt_get (d := d) hx
        have d0 : wr.cell? ⟨b, off + k * 3, none⟩ = _ := (hbw.cell (p := ⟨b, off + k * 3, none⟩) hb).trans c0
        have d1 : wr.cell? ⟨b, off + k * 3 + 1, none⟩ = _ := (hbw.cell (p := ⟨b, off + k * 3 + 1, none⟩) hb).trans c1
        have d2 : wr.cell? ⟨b, off + k * 3 + 2, none⟩ = _ := (hbw.cell (p := ⟨b, off + k * 3 + 2, none⟩) hb).trans c2
        have hbk : b < wr.heap.size := World.block_lt_of_cell? _ _ d0
        have hstep : stepF n (findD n d) x = if madeV x.tag = true then findD n d x.list else if x.tag = n then some x.text else none := rfl
        have n1 := fun w => madeV_any x.tag w htag
        have N2 := hide (fun (w2 : World) (h : Below w.heap.size w w2) => unhide IH x.list co cc w2 (IRow.below h d hsub) (by omega))
        have hhere := fun t h => find_here (t := t) hx hno h
        have hnext := find_next hx hno
        generalize x.tag = xt at *
        generalize x.text = xs at *
        generalize x.list.length = xn at *
        generalize findD n d x.list = xr at *
        have HR := hide hres
        clear c0 c1 c2 hc hres hwx hsub hno hx
        cases hm : madeV xt with
        | true =>
          rw [hm] at n1 hstep
          simp only [if_true] at hstep
          have N1 := hide n1
          cases hxr : xr with
          | some t =>
            rw [hxr] at N2 hstep
            have HH := hide (hhere t hstep)
            clear n1 hstep hhere hnext hm hxr
            go_wp2_with (go_at_call 114; refine (unhide N1 _).mono ?_; rintro e w1 ⟨rfl, hw1⟩; subst hw1)
            refine (unhide N2 _ (hbw.alloc hbw.size _)).mono ?_
            rintro e w2 ⟨he, hb2⟩
            have he2 : e = .returned (.tuple #[.string t, .bool true]) := he
            subst he2
            clear he
            have hb3 := below_more (hbw.alloc hbw.size _) (by have := hbw.size; simp; omega) hb2
            go_wp2
            go_ret2
            exact ⟨ret_found (by rw [unhide HR, unhide HH]; rfl) (by rw [unhide HR, unhide HH]; rfl), hb3⟩
          | none =>
            rw [hxr] at N2 hstep
            have HN := hide (hnext hstep)
            clear n1 hstep hhere hnext hm hxr
            go_wp2_with (go_at_call 114; refine (unhide N1 _).mono ?_; rintro e w1 ⟨rfl, hw1⟩; subst hw1)
            refine (unhide N2 _ (hbw.alloc hbw.size _)).mono ?_
            rintro e w2 ⟨he, hb2⟩
            have he2 : e = .returned (.tuple #[.string ⟨#[]⟩, .bool false]) := he
            subst he2
            clear he
            have hb3 := below_more (hbw.alloc hbw.size _) (by have := hbw.size; simp; omega) hb2
            go_wp2
            go_roundw
            case rel => exact ⟨k + 1, by omega, by go_num, unhide HN, hb3⟩
            case measure => simp [intOf]; omega
        | false =>
          rw [hm] at n1 hstep
          simp only [Bool.false_eq_true, if_false] at hstep
          have N1 := hide n1
          by_cases hxn : xt = n
          · rw [if_pos hxn] at hstep
            have HH := hide (hhere _ hstep)
            have t1 : (xt == n) = true := by simpa using hxn
            clear n1 hstep hhere hnext hm N2 hxn
            go_wp2_with (go_at_call 114; refine (unhide N1 _).mono ?_; rintro e w1 ⟨rfl, hw1⟩; subst hw1)
            go_ret2
            exact ⟨ret_found (by rw [unhide HR, unhide HH]; rfl) (by rw [unhide HR, unhide HH]; rfl), hbw.alloc hbw.size _⟩
          · rw [if_neg hxn] at hstep
            have HN := hide (hnext hstep)
            have t1 : (xt == n) = false := by simpa using hxn
            clear n1 hstep hhere hnext hm N2 hxn
            go_wp2_with (go_at_call 114; refine (unhide N1 _).mono ?_; rintro e w1 ⟨rfl, hw1⟩; subst hw1)
            go_roundw
            case rel => exact ⟨k + 1, by omega, by go_num, unhide HN, hbw.alloc hbw.size _⟩
            case measure => simp [intOf]; omega
      · have hke : k = l.length := by omega
        have HN := hide (show l.findSome? (stepF n (findD n d)) = none by rw [hke, List.take_length] at hno; exact hno)
        have HR := hide hres
        clear hno hres
        go_wp2
        go_ret2
        exact ⟨ret_found (by rw [unhide HR, unhide HN]; rfl) (by rw [unhide HR, unhide HN]; rfl), hbw⟩
end Go.Proofs.YtfpglpefofcdeaaGreatDoor
namespace Go.Proofs.YtfpglpefofcdeaaGreatDoor
open Go.RowKit
set_option linter.unusedVariables false
attribute [local go_sem ↓] Go.wp_at_zero Go.wp_at_succ

/-- the bytes of a tag -/
abbrev tagL (t : Nat) : List Int := bigL t (tagLen t)

theorem two_new (w : World) (x y : Value) (e : TypeId) : ∀ j u, [x, y][j]? = some u → (w.alloc (.cells #[x, y] e)).cell? ((⟨w.heap.size, 0, none⟩ : Addr).add j) = some u := by
  intro j u hj
  have hg := heap_alloc_new w (.cells #[x, y] e)
  rw [show (⟨w.heap.size, 0, none⟩ : Addr).add j = ⟨w.heap.size, 0 + j, none⟩ from by unfold Addr.add; split <;> simp_all, Nat.zero_add, cell_of_row _ _ j #[x, y] e _ hg]
  simpa using hj
theorem three_new (w : World) (x y z : Value) (e : TypeId) : ∀ j u, [x, y, z][j]? = some u → (w.alloc (.cells #[x, y, z] e)).cell? ((⟨w.heap.size, 0, none⟩ : Addr).add j) = some u := by
  intro j u hj
  have hg := heap_alloc_new w (.cells #[x, y, z] e)
  rw [show (⟨w.heap.size, 0, none⟩ : Addr).add j = ⟨w.heap.size, 0 + j, none⟩ from by unfold Addr.add; split <;> simp_all, Nat.zero_add, cell_of_row _ _ j #[x, y, z] e _ hg]
  simpa using hj

set_option maxRecDepth 100000 in
set_option maxHeartbeats 1000000 in
theorem appendTag_any (t : Nat) (base n : Nat) (v : Value) (xs : List Value) (w : World) (ht : t < 16777216) (hown : w.ownsRow base 5 1 v n xs) (hn : n ≤ 1000000) (hbase : base ≤ w.heap.size) :
    Calls Tryz.prog 73 #[v, .int .i64 t] w fun e w' => ∃ g cap, e = .returned (.slice (some ⟨g, 0, none⟩) (n + tagLen t) cap) ∧ w'.ownsRow base 5 1 (.slice (some ⟨g, 0, none⟩) (n + tagLen t) cap) (n + tagLen t) (xs ++ (tagL t).map (Value.int .u8)) ∧ w.grownBy w' v.ownBlock ∧ (v.ownBlock = some g ∨ w.heap.size ≤ g) := by
  obtain ⟨i0, hi, hz0, hz1, hz2⟩ := info_parts infoByte
  by_cases c1 : t < 256
  · have hL : tagLen t = 1 := by unfold tagLen; rw [if_pos c1]
    have hB : (tagL t).map (Value.int .u8) = [.int .u8 ((t : Int))] := by unfold tagL; rw [hL]; simp [bigL]; omega
    rw [hL, hB]
    clear hL hB
    go_enter Tryz.func73, Tryz.ntmps73
    go_wp2_with (at_builtin; refine wpList_append_lies _ rfl _ _ 104 rfl base 5 i0 (.int .u8 0) 1 1 Tryz.underlying104 hi hz0 hz1 hz2 rfl (by decide) _ _ _ rfl (hown.alloc _) ⟨w.heap.size, 0, none⟩ 1 1 [.int .u8 ((t : Int))] rfl rfl (cell_one_new _ _ _) ?c2 (by omega) ?c3 ?c4 ?c5 (w.heap.size + 1) (by simp) ?_)
    case c2 => intro u hu; simp at hu; subst hu; rfl
    case c3 => unfold maxLen; omega
    case c4 => omega
    case c5 => simp; omega
    intro g cap w1 hown' hgrow hat hlt
    go_wp2
    go_ret
    exact ⟨_, _, rfl, hown', ⟨hgrow.os, hgrow.tape, hgrow.output, by have := hgrow.size; simp at this; omega, fun k hk hne => (hgrow.block k (by simp; omega) hne).trans (Below.heap_alloc _ _ _ hk)⟩, hat.elim (fun h => .inl h) (fun h => .inr (by omega))⟩
  · by_cases c2 : t < 65536
    · have hL : tagLen t = 2 := by unfold tagLen; rw [if_neg c1, if_pos c2]
      have hB : (tagL t).map (Value.int .u8) = [.int .u8 ((t : Int) / 256), .int .u8 ((t : Int) % 256)] := by unfold tagL; rw [hL]; simp [bigL]; omega
      rw [hL, hB]
      clear hL hB
      go_enter Tryz.func73, Tryz.ntmps73
      go_wp2_with (at_builtin; refine wpList_append_lies _ rfl _ _ 104 rfl base 5 i0 (.int .u8 0) 1 1 Tryz.underlying104 hi hz0 hz1 hz2 rfl (by decide) _ _ _ rfl (hown.alloc _) ⟨w.heap.size, 0, none⟩ 2 2 [.int .u8 ((t : Int) / 256), .int .u8 ((t : Int) % 256)] rfl rfl (two_new _ _ _ _) ?c2 (by omega) ?c3 ?c4 ?c5 (w.heap.size + 1) (by simp) ?_)
      case c2 => intro u hu; simp at hu; rcases hu with rfl | rfl <;> rfl
      case c3 => unfold maxLen; omega
      case c4 => omega
      case c5 => simp; omega
      intro g cap w1 hown' hgrow hat hlt
      go_wp2
      go_ret
      exact ⟨_, _, rfl, hown', ⟨hgrow.os, hgrow.tape, hgrow.output, by have := hgrow.size; simp at this; omega, fun k hk hne => (hgrow.block k (by simp; omega) hne).trans (Below.heap_alloc _ _ _ hk)⟩, hat.elim (fun h => .inl h) (fun h => .inr (by omega))⟩
    · have hL : tagLen t = 3 := by unfold tagLen; rw [if_neg c1, if_neg c2]
      have hB : (tagL t).map (Value.int .u8) = [.int .u8 ((t : Int) / 65536), .int .u8 ((t : Int) / 256 % 256), .int .u8 ((t : Int) % 256)] := by unfold tagL; rw [hL]; simp [bigL]; omega
      rw [hL, hB]
      clear hL hB
      go_enter Tryz.func73, Tryz.ntmps73
      go_wp2_with (at_builtin; refine wpList_append_lies _ rfl _ _ 104 rfl base 5 i0 (.int .u8 0) 1 1 Tryz.underlying104 hi hz0 hz1 hz2 rfl (by decide) _ _ _ rfl (hown.alloc _) ⟨w.heap.size, 0, none⟩ 3 3 [.int .u8 ((t : Int) / 65536), .int .u8 ((t : Int) / 256 % 256), .int .u8 ((t : Int) % 256)] rfl rfl (three_new _ _ _ _ _) ?c2 (by omega) ?c3 ?c4 ?c5 (w.heap.size + 1) (by simp) ?_)
      case c2 => intro u hu; simp at hu; rcases hu with rfl | rfl | rfl <;> rfl
      case c3 => unfold maxLen; omega
      case c4 => omega
      case c5 => simp; omega
      intro g cap w1 hown' hgrow hat hlt
      go_wp2
      go_ret
      exact ⟨_, _, rfl, hown', ⟨hgrow.os, hgrow.tape, hgrow.output, by have := hgrow.size; simp at this; omega, fun k hk hne => (hgrow.block k (by simp; omega) hne).trans (Below.heap_alloc _ _ _ hk)⟩, hat.elim (fun h => .inl h) (fun h => .inr (by omega))⟩
end Go.Proofs.YtfpglpefofcdeaaGreatDoor
namespace Go.Proofs.YtfpglpefofcdeaaGreatDoor
open Go.RowKit
set_option linter.unusedVariables false
attribute [local go_sem ↓] Go.wp_at_zero Go.wp_at_succ

/-- a slice's head over a row of fields that lies in memory -/
def FRow (W : World) (ao : Option Addr) (fs : List (Int × Int)) : Prop :=
  fs = [] ∨ ∃ b off, ao = some ⟨b, off, none⟩ ∧ b < W.heap.size ∧ ∀ i, i < fs.length → W.cell? ⟨b, off + i * 2, none⟩ = some (.int .i64 (fs.getD i (0, 0)).1) ∧ W.cell? ⟨b, off + i * 2 + 1, none⟩ = some (.int .i64 (fs.getD i (0, 0)).2)
theorem FRow.below {W W' : World} {ao : Option Addr} {fs : List (Int × Int)} (h : FRow W ao fs) (hb : Below W.heap.size W W') : FRow W' ao fs := by
  rcases h with h | ⟨b, off, rfl, hlt, hc⟩
  · exact .inl h
  · exact .inr ⟨b, off, rfl, Nat.lt_of_lt_of_le hlt hb.size, fun i hi => ⟨(hb.cell (p := ⟨b, off + i * 2, none⟩) hlt).trans (hc i hi).1, (hb.cell (p := ⟨b, off + i * 2 + 1, none⟩) hlt).trans (hc i hi).2⟩⟩

/-- is a field one? -/
def okF (f : Int × Int) : Bool := validB f.1 && (!madeB f.1.toNat && (decide (0 ≤ f.2) && decide (f.2 ≤ 255)))
/-- what is wrong with a row -/
def fieldsE (fs : List (Int × Int)) : Int := if fs.all okF = true then (if 100 < fs.length then 2 else 0) else 1
/-- the numbers of a row fit their kind -/
def FNums (fs : List (Int × Int)) : Prop := ∀ f ∈ fs, f.1 ≤ 9223372036854775807

/-- the first k are fields -/
def AllTo (fs : List (Int × Int)) (k : Nat) : Prop := (fs.take k).all okF = true

theorem all_take_succ (fs : List (Int × Int)) (k : Nat) (h : k < fs.length) : (fs.take (k + 1)).all okF = ((fs.take k).all okF && okF (fs.getD k (0, 0))) := by
  rw [List.take_succ_eq_append_getElem h, List.all_append]
  simp [List.getD_eq_getElem?_getD, List.getElem?_eq_getElem h]
theorem all_of_take_false (fs : List (Int × Int)) (k : Nat) (h : (fs.take k).all okF = false) : fs.all okF = false := by
  have e := List.take_append_drop k fs
  rw [← e, List.all_append, h, Bool.false_and]

set_option maxRecDepth 1000000 in
set_option maxHeartbeats 2000000 in
theorem checkFields_any (fs : List (Int × Int)) (ao : Option Addr) (cap : Nat) (w : World) (hr : FRow w ao fs) (hn : FNums fs) (hl : (fs.length : Int) ≤ 9000000000000000000) :
    Calls Tryz.prog 72 #[.slice ao fs.length cap] w fun e w' => e = .returned (.int .i64 (fieldsE fs)) ∧ Below w.heap.size w w' := by
  go_enter Tryz.func72, Tryz.ntmps72
  go_wp2
  go_loopw [7] (fun i wr => ∃ k : Nat, k ≤ fs.length ∧ i = .int .i64 k ∧ AllTo fs k ∧ Below w.heap.size w wr) (fun i _ => fs.length - (intOf i).toNat)
  case atStart => exact ⟨0, Nat.zero_le _, rfl, by simp [AllTo], Below.refl _ _⟩
  case round =>
    obtain ⟨k, hk, rfl, hall', hbw⟩ := hrel
    have hall : (fs.take k).all okF = true := hall'
    clear hall'
    by_cases hlt : k < fs.length
    · rcases hr with hnil | ⟨b, off, rfl, hb, hc⟩
      · rw [hnil] at hlt; simp at hlt
      obtain ⟨c0, c1⟩ := hc k hlt
      have d0 : wr.cell? ⟨b, off + k * 2, none⟩ = _ := (hbw.cell (p := ⟨b, off + k * 2, none⟩) hb).trans c0
      have d1 : wr.cell? ⟨b, off + k * 2 + 1, none⟩ = _ := (hbw.cell (p := ⟨b, off + k * 2 + 1, none⟩) hb).trans c1
      have hnext := all_take_succ fs k hlt
      rw [hall, Bool.true_and] at hnext
      have hfn : (fs.getD k (0, 0)).1 ≤ 9223372036854775807 := hn _ (by
        rw [List.getD_eq_getElem?_getD, List.getElem?_eq_getElem hlt]; exact List.getElem_mem hlt)
      have hfo : okF (fs.getD k (0, 0)) = false → fieldsE fs = 1 := fun h => by
        unfold fieldsE
        rw [all_of_take_false fs (k + 1) (by rw [hnext, h]), if_neg (by decide)]
      generalize fs.getD k (0, 0) = f at *
      obtain ⟨ft, fl⟩ := f
      simp only at d0 d1 hfn
      have n1 := fun w => valid_any ft w hfn
      have hbk : b < wr.heap.size := World.block_lt_of_cell? _ _ d0
      clear c0 c1 hc
      cases hv : validB ft with
      | false =>
        rw [hv] at n1
        have N1 := hide n1
        have HO := hide (hfo (by unfold okF; rw [hv, Bool.false_and]))
        clear n1 hfo hnext hall hv
        go_wp2_with (go_at_call 113; refine (unhide N1 _).mono ?_; rintro e w1 ⟨rfl, hw1⟩; subst hw1)
        go_ret
        exact ⟨ret_int (unhide HO).symm, hbw.alloc hbw.size _⟩
      | true =>
        obtain ⟨h1, h2⟩ := validB_lt hv
        obtain ⟨tn, rfl⟩ := Int.eq_ofNat_of_zero_le (show 0 ≤ ft by omega)
        have n2 := fun w => made_any tn w (by omega) hv
        rw [hv] at n1
        cases hm : madeB tn with
        | true =>
          rw [hm] at n2
          have N1 := hide n1; have N2 := hide n2
          have HO := hide (hfo (by unfold okF; simp [hv, hm]))
          clear n1 n2 hfo hnext hall hv hm
          go_wp2_with (first | (go_at_call 113; refine (unhide N1 _).mono ?_; rintro e w1 ⟨rfl, hw1⟩; subst hw1) | (go_at_call 114; refine (unhide N2 _).mono ?_; rintro e w1 ⟨rfl, hw1⟩; subst hw1))
          go_ret
          exact ⟨ret_int (unhide HO).symm, hbw.alloc hbw.size _⟩
        | false =>
          rw [hm] at n2
          have N1 := hide n1; have N2 := hide n2
          by_cases hl0 : fl < 0
          · have HO := hide (hfo (by unfold okF; simp; intros; omega))
            clear n1 n2 hfo hnext hall hv hm
            go_wp2_with (first | (go_at_call 113; refine (unhide N1 _).mono ?_; rintro e w1 ⟨rfl, hw1⟩; subst hw1) | (go_at_call 114; refine (unhide N2 _).mono ?_; rintro e w1 ⟨rfl, hw1⟩; subst hw1))
            go_ret
            exact ⟨ret_int (unhide HO).symm, hbw.alloc hbw.size _⟩
          · by_cases hl2 : 255 < fl
            · have HO := hide (hfo (by unfold okF; simp; intros; omega))
              clear n1 n2 hfo hnext hall hv hm
              go_wp2_with (first | (go_at_call 113; refine (unhide N1 _).mono ?_; rintro e w1 ⟨rfl, hw1⟩; subst hw1) | (go_at_call 114; refine (unhide N2 _).mono ?_; rintro e w1 ⟨rfl, hw1⟩; subst hw1))
              go_ret
              exact ⟨ret_int (unhide HO).symm, hbw.alloc hbw.size _⟩
            · have hok : okF ((tn : Int), fl) = true := by unfold okF; simp [hv, hm]; omega
              rw [hok] at hnext
              have HX := hide hnext
              have g0 : 0 ≤ fl := by omega
              have g1 : fl ≤ 255 := by omega
              clear n1 n2 hfo hnext hall hv hm hok hl0 hl2 h1 h2 hfn hn
              go_wp2_with fail
              refine (unhide N1 _).mono ?_
              rintro e w1 ⟨rfl, hw1⟩
              subst hw1
              go_wp2_with fail
              refine (unhide N2 _).mono ?_
              rintro e w1 ⟨rfl, hw1⟩
              subst hw1
              go_wp2_with fail
              go_roundw
              case rel => exact ⟨k + 1, by omega, by go_num, unhide HX, hbw.alloc hbw.size _⟩
              case measure => simp [intOf]; omega
    · rw [List.take_of_length_le (by omega)] at hall
      have he : fieldsE fs = if 100 < fs.length then 2 else 0 := by unfold fieldsE; rw [if_pos hall]
      have HE := hide he
      clear hall he
      by_cases h100 : 100 < fs.length
      · have H1 := hide h100
        go_wp2
        go_ret
        exact ⟨ret_int (by rw [unhide HE, if_pos (unhide H1)]), hbw⟩
      · have H1 := hide h100
        go_wp2
        go_ret
        exact ⟨ret_int (by rw [unhide HE, if_neg (unhide H1)]), hbw⟩
end Go.Proofs.YtfpglpefofcdeaaGreatDoor
namespace Go.Proofs.YtfpglpefofcdeaaGreatDoor
open Go.RowKit
set_option linter.unusedVariables false

/-- all items that are not made of others -/
def plainD : Nat → List It → List It
  | 0, _ => []
  | d + 1, l => l.flatMap fun x => if madeV x.tag = true then plainD d x.list else [x]
theorem plain_len : ∀ (d : Nat) (l : List It), (plainD d l).length ≤ wt d l
  | 0, l => by simp [plainD]
  | d + 1, l => by
    induction l with
    | nil => simp [plainD]
    | cons x r ih =>
      have h := plain_len d x.list
      simp only [plainD, wt, List.flatMap_cons, List.map_cons, List.sum_cons, List.length_append] at ih ⊢
      split
      · omega
      · simp only [List.length_cons, List.length_nil]; omega

/-- an item as it lies: its own list's head beside it -/
structure Raw where
  tag : Int
  text : ByteArray
  co : Option Addr
  n : Nat
  cc : Nat
def Raw.cells (r : Raw) : List Value := [.int .i64 r.tag, .string r.text, .slice r.co r.n r.cc]
def cellsR (rs : List Raw) : List Value := rs.flatMap Raw.cells
theorem cellsR_append (a b : List Raw) : cellsR (a ++ b) = cellsR a ++ cellsR b := by simp [cellsR]
theorem cellsR_one (rs : List Raw) : ∀ u ∈ cellsR rs, u.oneCell' = true := by
  intro u hu
  obtain ⟨r, _, hr⟩ := List.mem_flatMap.1 hu
  simp only [Raw.cells, List.mem_cons, List.not_mem_nil, or_false] at hr
  rcases hr with rfl | rfl | rfl <;> rfl
theorem cellsR_length (rs : List Raw) : (cellsR rs).length = rs.length * 3 := by
  induction rs with
  | nil => rfl
  | cons r rs ih =>
    have e : cellsR (r :: rs) = r.cells ++ cellsR rs := by simp [cellsR]
    rw [e, List.length_append, ih, List.length_cons]
    simp only [Raw.cells, List.length_cons, List.length_nil]
    omega
/-- the rows hold these items' tags and texts -/
def Holds (rs : List Raw) (l : List It) : Prop := rs.map (fun r => (r.tag, r.text)) = l.map (fun x => (x.tag, x.text))
theorem infoItem : (Tryz.prog.info? 101).map (fun i => (i.zero, i.size, i.bytes)) = some (some (.agg #[.int .i64 0, .string ⟨#[]⟩, .slice none 0 0]), 3, 48) := by kernel_rfl

theorem ownsRow_kept {w w' : World} {base : Nat} {e : TypeId} {size : Nat} {v : Value} {n : Nat} {xs : List Value} (h : w.ownsRow base e size v n xs) (hb : Below w.heap.size w w') : w'.ownsRow base e size v n xs := by
  refine ⟨h.1, ?_⟩
  rcases h.2 with h0 | ⟨g, cap, cur, e1, e2, e3, e4⟩
  · exact .inl h0
  · refine .inr ⟨g, cap, cur, e1, e2, ?_, e4⟩
    have hg : g < w.heap.size := by
      rcases Nat.lt_or_ge g w.heap.size with h | h
      · exact h
      · rw [Array.getElem?_eq_none h] at e3; cases e3
    rw [hb.block g hg]; exact e3
theorem plain_take {d : Nat} {l : List It} {k : Nat} {x : It} (hx : l[k]? = some x) : plainD (d + 1) (l.take (k + 1)) = plainD (d + 1) (l.take k) ++ (if madeV x.tag = true then plainD d x.list else [x]) := by
  have hk : k < l.length := by
    rcases Nat.lt_or_ge k l.length with h | h
    · exact h
    · rw [List.getElem?_eq_none h] at hx; cases hx
  rw [List.getElem?_eq_getElem hk] at hx
  rw [List.take_succ_eq_append_getElem hk, Option.some.inj hx]
  simp [plainD]
theorem holds_append {a b : List Raw} {l m : List It} (h1 : Holds a l) (h2 : Holds b m) : Holds (a ++ b) (l ++ m) := by
  unfold Holds at *
  rw [List.map_append, List.map_append, h1, h2]
theorem holds_length {a : List Raw} {l : List It} (h : Holds a l) : a.length = l.length := by
  have := congrArg List.length h
  simpa using this
theorem wt_take {d : Nat} (l : List It) (k : Nat) : wt (d + 1) (l.take k) ≤ wt (d + 1) l := by
  conv => rhs; rw [← List.take_append_drop k l]
  simp only [wt, List.map_append, List.sum_append]
  omega

end Go.Proofs.YtfpglpefofcdeaaGreatDoor
