/- Find of the program. -/
import Derived.Test.YtfpglpefofcdeaaGreatDoorM06
import Derived.Test.YtfpglpefofcdeaaGreatDoorM05
import Derived.Test.YtfpglpefofcdeaaGreatDoorM04
import Derived.Deep.DeepCutAuto
import Derived.Deep.RegionWith
import Derived.Deep.DrawnRows
import Derived.Deep.AppendLies
namespace Go.Proofs.YtfpglpefofcdeaaGreatDoor
open Go.RowKit
set_option linter.unusedVariables false

/-- what one item gives; G: its own list -/
def stepF (n : Int) (G : List It → Option ByteArray) (x : It) : Option ByteArray := if madeV x.tag = true then G x.list else if x.tag = n then some x.text else none
/-- the text of the first item with a tag -/
def findD (n : Int) : Nat → List It → Option ByteArray
  | 0, _ => none
  | d + 1, l => l.findSome? (stepF n (findD n d))
def foundV (r : Option ByteArray) : Value := .tuple #[.string (r.getD ⟨#[]⟩), .bool r.isSome]

theorem get_of_lt {l : List It} {k : Nat} (h : k < l.length) : ∃ x, l[k]? = some x := ⟨_, List.getElem?_eq_getElem h⟩
theorem find_next {f : It → Option ByteArray} {l : List It} {k : Nat} {x : It} (hx : l[k]? = some x) (h : (l.take k).findSome? f = none) (hf : f x = none) : (l.take (k + 1)).findSome? f = none := by
  have hk : k < l.length := by
    rcases Nat.lt_or_ge k l.length with h | h
    · exact h
    · rw [List.getElem?_eq_none h] at hx; cases hx
  rw [List.getElem?_eq_getElem hk] at hx
  rw [List.take_succ_eq_append_getElem hk, List.findSome?_append, h, Option.some.inj hx]
  simp [hf]
theorem find_here {f : It → Option ByteArray} {l : List It} {k : Nat} {x : It} {t : ByteArray} (hx : l[k]? = some x) (h : (l.take k).findSome? f = none) (hf : f x = some t) : l.findSome? f = some t := by
  have hk : k < l.length := by
    rcases Nat.lt_or_ge k l.length with h | h
    · exact h
    · rw [List.getElem?_eq_none h] at hx; cases hx
  rw [List.getElem?_eq_getElem hk] at hx
  conv => lhs; rw [← List.take_append_drop (k + 1) l]
  rw [List.findSome?_append, List.take_succ_eq_append_getElem hk, List.findSome?_append, h, Option.some.inj hx]
  simp [hf]

theorem ret_found {r : Option ByteArray} {t : ByteArray} {b : Bool} (h1 : r.getD ⟨#[]⟩ = t) (h2 : r.isSome = b) : Ending.returned (.tuple #[.string t, .bool b]) = .returned (foundV r) := by
  unfold foundV; rw [h1, h2]

set_option maxRecDepth 1000000 in
set_option maxHeartbeats 4000000 in
theorem find_any (n : Int) : ∀ (d : Nat) (l : List It) (ao : Option Addr) (cap : Nat) (w : World), IRow w d ao l → wt d l ≤ 1048576 →
    Calls Tryz.prog 97 #[.slice ao l.length cap, .int .i64 n] w fun e w' => e = .returned (foundV (findD n d l)) ∧ Below w.heap.size w w'
  | 0, l, ao, cap, w, hr, hw => by
    have hl : l = [] := hr
    subst hl
    clear hr hw
    go_enter Tryz.func97, Tryz.ntmps97
    go_wp2
    go_loopw [12] (fun i wr => i = .int .i64 0 ∧ Below w.heap.size w wr) (fun i _ => 0)
    case atStart => exact ⟨rfl, Below.refl _ _⟩
    case round =>
      obtain ⟨rfl, hbw⟩ := hrel
      go_wp2
      go_ret2
      exact ⟨rfl, hbw⟩
  | d + 1, l, ao, cap, w, hr, hw => by
    have hlen := hr.length_le
    have hres : findD n (d + 1) l = l.findSome? (stepF n (findD n d)) := rfl
    have IH := hide (find_any n d)
    go_enter Tryz.func97, Tryz.ntmps97
    go_wp2
    go_loopw [12] (fun i wr => ∃ k : Nat, k ≤ l.length ∧ i = .int .i64 k ∧ (l.take k).findSome? (stepF n (findD n d)) = none ∧ Below w.heap.size w wr) (fun i _ => l.length - (intOf i).toNat)
    case atStart => exact ⟨0, Nat.zero_le _, rfl, by simp, Below.refl _ _⟩
    case round =>
      obtain ⟨k, hk, rfl, hno, hbw⟩ := hrel
      by_cases hlt : k < l.length
      · rcases hr with hnil | ⟨b, off, rfl, hb, hc⟩
        · rw [hnil] at hlt; simp at hlt
        obtain ⟨x, hx⟩ := get_of_lt hlt
        obtain ⟨co, cc, c0, c1, c2, hcc, hsub, htag, htxt⟩ := hc k x hx
        have hwx := wt_get (d := d) hx
        have d0 : wr.cell? ⟨b, off + k * 3, none⟩ = _ := (hbw.cell (p := ⟨b, off + k * 3, none⟩) hb).trans c0
        have d1 : wr.cell? ⟨b, off + k * 3 + 1, none⟩ = _ := (hbw.cell (p := ⟨b, off + k * 3 + 1, none⟩) hb).trans c1
        have d2 : wr.cell? ⟨b, off + k * 3 + 2, none⟩ = _ := (hbw.cell (p := ⟨b, off + k * 3 + 2, none⟩) hb).trans c2
        have hbk : b < wr.heap.size := World.block_lt_of_cell? _ _ d0
        have hstep : stepF n (findD n d) x = if madeV x.tag = true then findD n d x.list else if x.tag = n then some x.text else none := rfl
        have n1 := fun w => madeV_any x.tag w htag
        have N2 := hide (fun (w2 : World) (h : Below w.heap.size w w2) => unhide IH x.list co cc w2 (IRow.below h d hsub) (by omega))
        have hhere := fun t h => find_here (t := t) hx hno h
        have hnext := find_next hx hno
        generalize x.tag = xt at *
        generalize x.text = xs at *
        generalize x.list.length = xn at *
        generalize findD n d x.list = xr at *
        have HR := hide hres
        clear c0 c1 c2 hc hres hwx hsub hno hx
        cases hm : madeV xt with
        | true =>
          rw [hm] at n1 hstep
          simp only [if_true] at hstep
          have N1 := hide n1
          cases hxr : xr with
          | some t =>
            rw [hxr] at N2 hstep
            have HH := hide (hhere t hstep)
            clear n1 hstep hhere hnext hm hxr
            go_wp2_with (go_at_call 114; refine (unhide N1 _).mono ?_; rintro e w1 ⟨rfl, hw1⟩; subst hw1)
            refine (unhide N2 _ (hbw.alloc hbw.size _)).mono ?_
            rintro e w2 ⟨he, hb2⟩
            have he2 : e = .returned (.tuple #[.string t, .bool true]) := he
            subst he2
            clear he
            have hb3 := below_more (hbw.alloc hbw.size _) (by have := hbw.size; simp; omega) hb2
            go_wp2
            go_ret2
            exact ⟨ret_found (by rw [unhide HR, unhide HH]; rfl) (by rw [unhide HR, unhide HH]; rfl), hb3⟩
          | none =>
            rw [hxr] at N2 hstep
            have HN := hide (hnext hstep)
            clear n1 hstep hhere hnext hm hxr
            go_wp2_with (go_at_call 114; refine (unhide N1 _).mono ?_; rintro e w1 ⟨rfl, hw1⟩; subst hw1)
            refine (unhide N2 _ (hbw.alloc hbw.size _)).mono ?_
            rintro e w2 ⟨he, hb2⟩
            have he2 : e = .returned (.tuple #[.string ⟨#[]⟩, .bool false]) := he
            subst he2
            clear he
            have hb3 := below_more (hbw.alloc hbw.size _) (by have := hbw.size; simp; omega) hb2
            go_wp2
            go_roundw
            case rel => exact ⟨k + 1, by omega, by go_num, unhide HN, hb3⟩
            case measure => simp [intOf]; omega
        | false =>
          rw [hm] at n1 hstep
          simp only [Bool.false_eq_true, if_false] at hstep
          have N1 := hide n1
          by_cases hxn : xt = n
          · rw [if_pos hxn] at hstep
            have HH := hide (hhere _ hstep)
            have t1 : (xt == n) = true := by simpa using hxn
            clear n1 hstep hhere hnext hm N2 hxn
            go_wp2_with (go_at_call 114; refine (unhide N1 _).mono ?_; rintro e w1 ⟨rfl, hw1⟩; subst hw1)
            go_ret2
            exact ⟨ret_found (by rw [unhide HR, unhide HH]; rfl) (by rw [unhide HR, unhide HH]; rfl), hbw.alloc hbw.size _⟩
          · rw [if_neg hxn] at hstep
            have HN := hide (hnext hstep)
            have t1 : (xt == n) = false := by simpa using hxn
            clear n1 hstep hhere hnext hm N2 hxn
            go_wp2_with (go_at_call 114; refine (unhide N1 _).mono ?_; rintro e w1 ⟨rfl, hw1⟩; subst hw1)
            go_roundw
            case rel => exact ⟨k + 1, by omega, by go_num, unhide HN, hbw.alloc hbw.size _⟩
            case measure => simp [intOf]; omega
      · have hke : k = l.length := by omega
        have HN := hide (show l.findSome? (stepF n (findD n d)) = none by rw [hke, List.take_length] at hno; exact hno)
        have HR := hide hres
        clear hno hres
        go_wp2
        go_ret2
        exact ⟨ret_found (by rw [unhide HR, unhide HN]; rfl) (by rw [unhide HR, unhide HN]; rfl), hbw⟩
end Go.Proofs.YtfpglpefofcdeaaGreatDoor
namespace Go.Proofs.YtfpglpefofcdeaaGreatDoor
open Go.RowKit
set_option linter.unusedVariables false
attribute [local go_sem ↓] Go.wp_at_zero Go.wp_at_succ

/-- the bytes of a tag -/
abbrev tagL (t : Nat) : List Int := bigL t (tagLen t)

theorem two_new (w : World) (x y : Value) (e : TypeId) : ∀ j u, [x, y][j]? = some u → (w.alloc (.cells #[x, y] e)).cell? ((⟨w.heap.size, 0, none⟩ : Addr).add j) = some u := by
  intro j u hj
  have hg := heap_alloc_new w (.cells #[x, y] e)
  rw [show (⟨w.heap.size, 0, none⟩ : Addr).add j = ⟨w.heap.size, 0 + j, none⟩ from by unfold Addr.add; split <;> simp_all, Nat.zero_add, cell_of_row _ _ j #[x, y] e _ hg]
  simpa using hj
theorem three_new (w : World) (x y z : Value) (e : TypeId) : ∀ j u, [x, y, z][j]? = some u → (w.alloc (.cells #[x, y, z] e)).cell? ((⟨w.heap.size, 0, none⟩ : Addr).add j) = some u := by
  intro j u hj
  have hg := heap_alloc_new w (.cells #[x, y, z] e)
  rw [show (⟨w.heap.size, 0, none⟩ : Addr).add j = ⟨w.heap.size, 0 + j, none⟩ from by unfold Addr.add; split <;> simp_all, Nat.zero_add, cell_of_row _ _ j #[x, y, z] e _ hg]
  simpa using hj

set_option maxRecDepth 100000 in
set_option maxHeartbeats 1000000 in
theorem appendTag_any (t : Nat) (base n : Nat) (v : Value) (xs : List Value) (w : World) (ht : t < 16777216) (hown : w.ownsRow base 5 1 v n xs) (hn : n ≤ 1000000) (hbase : base ≤ w.heap.size) :
    Calls Tryz.prog 73 #[v, .int .i64 t] w fun e w' => ∃ g cap, e = .returned (.slice (some ⟨g, 0, none⟩) (n + tagLen t) cap) ∧ w'.ownsRow base 5 1 (.slice (some ⟨g, 0, none⟩) (n + tagLen t) cap) (n + tagLen t) (xs ++ (tagL t).map (Value.int .u8)) ∧ w.grownBy w' v.ownBlock ∧ (v.ownBlock = some g ∨ w.heap.size ≤ g) := by
  obtain ⟨i0, hi, hz0, hz1, hz2⟩ := info_parts infoByte
  by_cases c1 : t < 256
  · have hL : tagLen t = 1 := by unfold tagLen; rw [if_pos c1]
    have hB : (tagL t).map (Value.int .u8) = [.int .u8 ((t : Int))] := by unfold tagL; rw [hL]; simp [bigL]; omega
    rw [hL, hB]
    clear hL hB
    go_enter Tryz.func73, Tryz.ntmps73
    go_wp2_with (at_builtin; refine wpList_append_lies _ rfl _ _ 104 rfl base 5 i0 (.int .u8 0) 1 1 Tryz.underlying104 hi hz0 hz1 hz2 rfl (by decide) _ _ _ rfl (hown.alloc _) ⟨w.heap.size, 0, none⟩ 1 1 [.int .u8 ((t : Int))] rfl rfl (cell_one_new _ _ _) ?c2 (by omega) ?c3 ?c4 ?c5 (w.heap.size + 1) (by simp) ?_)
    case c2 => intro u hu; simp at hu; subst hu; rfl
    case c3 => unfold maxLen; omega
    case c4 => omega
    case c5 => simp; omega
    intro g cap w1 hown' hgrow hat hlt
    go_wp2
    go_ret
    exact ⟨_, _, rfl, hown', ⟨hgrow.os, hgrow.tape, hgrow.output, by have := hgrow.size; simp at this; omega, fun k hk hne => (hgrow.block k (by simp; omega) hne).trans (Below.heap_alloc _ _ _ hk)⟩, hat.elim (fun h => .inl h) (fun h => .inr (by omega))⟩
  · by_cases c2 : t < 65536
    · have hL : tagLen t = 2 := by unfold tagLen; rw [if_neg c1, if_pos c2]
      have hB : (tagL t).map (Value.int .u8) = [.int .u8 ((t : Int) / 256), .int .u8 ((t : Int) % 256)] := by unfold tagL; rw [hL]; simp [bigL]; omega
      rw [hL, hB]
      clear hL hB
      go_enter Tryz.func73, Tryz.ntmps73
      go_wp2_with (at_builtin; refine wpList_append_lies _ rfl _ _ 104 rfl base 5 i0 (.int .u8 0) 1 1 Tryz.underlying104 hi hz0 hz1 hz2 rfl (by decide) _ _ _ rfl (hown.alloc _) ⟨w.heap.size, 0, none⟩ 2 2 [.int .u8 ((t : Int) / 256), .int .u8 ((t : Int) % 256)] rfl rfl (two_new _ _ _ _) ?c2 (by omega) ?c3 ?c4 ?c5 (w.heap.size + 1) (by simp) ?_)
      case c2 => intro u hu; simp at hu; rcases hu with rfl | rfl <;> rfl
      case c3 => unfold maxLen; omega
      case c4 => omega
      case c5 => simp; omega
      intro g cap w1 hown' hgrow hat hlt
      go_wp2
      go_ret
      exact ⟨_, _, rfl, hown', ⟨hgrow.os, hgrow.tape, hgrow.output, by have := hgrow.size; simp at this; omega, fun k hk hne => (hgrow.block k (by simp; omega) hne).trans (Below.heap_alloc _ _ _ hk)⟩, hat.elim (fun h => .inl h) (fun h => .inr (by omega))⟩
    · have hL : tagLen t = 3 := by unfold tagLen; rw [if_neg c1, if_neg c2]
      have hB : (tagL t).map (Value.int .u8) = [.int .u8 ((t : Int) / 65536), .int .u8 ((t : Int) / 256 % 256), .int .u8 ((t : Int) % 256)] := by unfold tagL; rw [hL]; simp [bigL]; omega
      rw [hL, hB]
      clear hL hB
      go_enter Tryz.func73, Tryz.ntmps73
      go_wp2_with (at_builtin; refine wpList_append_lies _ rfl _ _ 104 rfl base 5 i0 (.int .u8 0) 1 1 Tryz.underlying104 hi hz0 hz1 hz2 rfl (by decide) _ _ _ rfl (hown.alloc _) ⟨w.heap.size, 0, none⟩ 3 3 [.int .u8 ((t : Int) / 65536), .int .u8 ((t : Int) / 256 % 256), .int .u8 ((t : Int) % 256)] rfl rfl (three_new _ _ _ _ _) ?c2 (by omega) ?c3 ?c4 ?c5 (w.heap.size + 1) (by simp) ?_)
      case c2 => intro u hu; simp at hu; rcases hu with rfl | rfl | rfl <;> rfl
      case c3 => unfold maxLen; omega
      case c4 => omega
      case c5 => simp; omega
      intro g cap w1 hown' hgrow hat hlt
      go_wp2
      go_ret
      exact ⟨_, _, rfl, hown', ⟨hgrow.os, hgrow.tape, hgrow.output, by have := hgrow.size; simp at this; omega, fun k hk hne => (hgrow.block k (by simp; omega) hne).trans (Below.heap_alloc _ _ _ hk)⟩, hat.elim (fun h => .inl h) (fun h => .inr (by omega))⟩
end Go.Proofs.YtfpglpefofcdeaaGreatDoor
