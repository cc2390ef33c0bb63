/- Rows of fields: checkFields of the program. -/
import Derived.Test.YtfpglpefofcdeaaGreatDoorM05
import Derived.Test.YtfpglpefofcdeaaGreatDoorM08
import Derived.Deep.DeepCutAuto
import Derived.Deep.RegionWith
import Derived.Deep.DrawnRows
import Derived.Deep.AppendLies
import Derived.Laws.AppendOwn
import Derived.Laws.AppendOwnNone
import Derived.Deep.CutBlock
import Derived.Deep.RegionHeld3
namespace Go.Proofs.YtfpglpefofcdeaaGreatDoor
open Go.RowKit
set_option linter.unusedVariables false
attribute [local go_sem ↓] Go.wp_at_zero Go.wp_at_succ

/-- a slice's head over a row of fields that lies in memory -/
def FRow (W : World) (ao : Option Addr) (fs : List (Int × Int)) : Prop :=
  fs = [] ∨ ∃ b off, ao = some ⟨b, off, none⟩ ∧ b < W.heap.size ∧ ∀ i, i < fs.length → W.cell? ⟨b, off + i * 2, none⟩ = some (.int .i64 (fs.getD i (0, 0)).1) ∧ W.cell? ⟨b, off + i * 2 + 1, none⟩ = some (.int .i64 (fs.getD i (0, 0)).2)
theorem FRow.below {W W' : World} {ao : Option Addr} {fs : List (Int × Int)} (h : FRow W ao fs) (hb : Below W.heap.size W W') : FRow W' ao fs := by
  rcases h with h | ⟨b, off, rfl, hlt, hc⟩
  · exact .inl h
  · exact .inr ⟨b, off, rfl, Nat.lt_of_lt_of_le hlt hb.size, fun i hi => ⟨(hb.cell (p := ⟨b, off + i * 2, none⟩) hlt).trans (hc i hi).1, (hb.cell (p := ⟨b, off + i * 2 + 1, none⟩) hlt).trans (hc i hi).2⟩⟩

/-- is a field one? -/
def okF (f : Int × Int) : Bool := validB f.1 && (!madeB f.1.toNat && (decide (0 ≤ f.2) && decide (f.2 ≤ 255)))
/-- what is wrong with a row -/
def fieldsE (fs : List (Int × Int)) : Int := if fs.all okF = true then (if 100 < fs.length then 2 else 0) else 1
/-- the numbers of a row fit their kind -/
def FNums (fs : List (Int × Int)) : Prop := ∀ f ∈ fs, f.1 ≤ 9223372036854775807

/-- the first k are fields -/
def AllTo (fs : List (Int × Int)) (k : Nat) : Prop := (fs.take k).all okF = true

theorem all_take_succ (fs : List (Int × Int)) (k : Nat) (h : k < fs.length) : (fs.take (k + 1)).all okF = ((fs.take k).all okF && okF (fs.getD k (0, 0))) := by
  rw [List.take_succ_eq_append_getElem h, List.all_append]
  simp [List.getD_eq_getElem?_getD, List.getElem?_eq_getElem h]
theorem all_of_take_false (fs : List (Int × Int)) (k : Nat) (h : (fs.take k).all okF = false) : fs.all okF = false := by
  have e := List.take_append_drop k fs
  rw [← e, List.all_append, h, Bool.false_and]

set_option maxRecDepth 1000000 in
set_option maxHeartbeats 2000000 in
theorem checkFields_any (fs : List (Int × Int)) (ao : Option Addr) (cap : Nat) (w : World) (hr : FRow w ao fs) (hn : FNums fs) (hl : (fs.length : Int) ≤ 9000000000000000000) :
    Calls Tryz.prog 72 #[.slice ao fs.length cap] w fun e w' => e = .returned (.int .i64 (fieldsE fs)) ∧ Below w.heap.size w w' := by
  go_enter Tryz.func72, Tryz.ntmps72
  go_wp2
  go_loopw [7] (fun i wr => ∃ k : Nat, k ≤ fs.length ∧ i = .int .i64 k ∧ AllTo fs k ∧ Below w.heap.size w wr) (fun i _ => fs.length - (intOf i).toNat)
  case atStart => exact ⟨0, Nat.zero_le _, rfl, by simp [AllTo], Below.refl _ _⟩
  case round =>
    obtain ⟨k, hk, rfl, hall', hbw⟩ := hrel
    have hall : (fs.take k).all okF = true := hall'
    clear hall'
    by_cases hlt : k < fs.length
    · rcases hr with hnil | ⟨b, off, rfl, hb, hc⟩
      · rw [hnil] at hlt; simp at hlt
      obtain ⟨c0, c1⟩ := hc k hlt
      have d0 : wr.cell? ⟨b, off + k * 2, none⟩ = _ := (hbw.cell (p := ⟨b, off + k * 2, none⟩) hb).trans c0
      have d1 : wr.cell? ⟨b, off + k * 2 + 1, none⟩ = _ := (hbw.cell (p := ⟨b, off + k * 2 + 1, none⟩) hb).trans c1
      have hnext := all_take_succ fs k hlt
      rw [hall, Bool.true_and] at hnext
      have hfn : (fs.getD k (0, 0)).1 ≤ 9223372036854775807 := hn _ (by
        rw [List.getD_eq_getElem?_getD, List.getElem?_eq_getElem hlt]; exact List.getElem_mem hlt)
      have hfo : okF (fs.getD k (0, 0)) = false → fieldsE fs = 1 := fun h => by
        unfold fieldsE
        rw [all_of_take_false fs (k + 1) (by rw [hnext, h]), if_neg (by decide)]
      generalize fs.getD k (0, 0) = f at *
      obtain ⟨ft, fl⟩ := f
      simp only at d0 d1 hfn
      have n1 := fun w => valid_any ft w hfn
      have hbk : b < wr.heap.size := World.block_lt_of_cell? _ _ d0
      clear c0 c1 hc
      cases hv : validB ft with
      | false =>
        rw [hv] at n1
        have N1 := hide n1
        have HO := hide (hfo (by unfold okF; rw [hv, Bool.false_and]))
        clear n1 hfo hnext hall hv
        go_wp2_with (go_at_call 113; refine (unhide N1 _).mono ?_; rintro e w1 ⟨rfl, hw1⟩; subst hw1)
        go_ret
        exact ⟨ret_int (unhide HO).symm, hbw.alloc hbw.size _⟩
      | true =>
        obtain ⟨h1, h2⟩ := validB_lt hv
        obtain ⟨tn, rfl⟩ := Int.eq_ofNat_of_zero_le (show 0 ≤ ft by omega)
        have n2 := fun w => made_any tn w (by omega) hv
        rw [hv] at n1
        cases hm : madeB tn with
        | true =>
          rw [hm] at n2
          have N1 := hide n1; have N2 := hide n2
          have HO := hide (hfo (by unfold okF; simp [hv, hm]))
          clear n1 n2 hfo hnext hall hv hm
          go_wp2_with (first | (go_at_call 113; refine (unhide N1 _).mono ?_; rintro e w1 ⟨rfl, hw1⟩; subst hw1) | (go_at_call 114; refine (unhide N2 _).mono ?_; rintro e w1 ⟨rfl, hw1⟩; subst hw1))
          go_ret
          exact ⟨ret_int (unhide HO).symm, hbw.alloc hbw.size _⟩
        | false =>
          rw [hm] at n2
          have N1 := hide n1; have N2 := hide n2
          by_cases hl0 : fl < 0
          · have HO := hide (hfo (by unfold okF; simp; intros; omega))
            clear n1 n2 hfo hnext hall hv hm
            go_wp2_with (first | (go_at_call 113; refine (unhide N1 _).mono ?_; rintro e w1 ⟨rfl, hw1⟩; subst hw1) | (go_at_call 114; refine (unhide N2 _).mono ?_; rintro e w1 ⟨rfl, hw1⟩; subst hw1))
            go_ret
            exact ⟨ret_int (unhide HO).symm, hbw.alloc hbw.size _⟩
          · by_cases hl2 : 255 < fl
            · have HO := hide (hfo (by unfold okF; simp; intros; omega))
              clear n1 n2 hfo hnext hall hv hm
              go_wp2_with (first | (go_at_call 113; refine (unhide N1 _).mono ?_; rintro e w1 ⟨rfl, hw1⟩; subst hw1) | (go_at_call 114; refine (unhide N2 _).mono ?_; rintro e w1 ⟨rfl, hw1⟩; subst hw1))
              go_ret
              exact ⟨ret_int (unhide HO).symm, hbw.alloc hbw.size _⟩
            · have hok : okF ((tn : Int), fl) = true := by unfold okF; simp [hv, hm]; omega
              rw [hok] at hnext
              have HX := hide hnext
              have g0 : 0 ≤ fl := by omega
              have g1 : fl ≤ 255 := by omega
              clear n1 n2 hfo hnext hall hv hm hok hl0 hl2 h1 h2 hfn hn
              go_wp2_with fail
              refine (unhide N1 _).mono ?_
              rintro e w1 ⟨rfl, hw1⟩
              subst hw1
              go_wp2_with fail
              refine (unhide N2 _).mono ?_
              rintro e w1 ⟨rfl, hw1⟩
              subst hw1
              go_wp2_with fail
              go_roundw
              case rel => exact ⟨k + 1, by omega, by go_num, unhide HX, hbw.alloc hbw.size _⟩
              case measure => simp [intOf]; omega
    · rw [List.take_of_length_le (by omega)] at hall
      have he : fieldsE fs = if 100 < fs.length then 2 else 0 := by unfold fieldsE; rw [if_pos hall]
      have HE := hide he
      clear hall he
      by_cases h100 : 100 < fs.length
      · have H1 := hide h100
        go_wp2
        go_ret
        exact ⟨ret_int (by rw [unhide HE, if_pos (unhide H1)]), hbw⟩
      · have H1 := hide h100
        go_wp2
        go_ret
        exact ⟨ret_int (by rw [unhide HE, if_neg (unhide H1)]), hbw⟩
end Go.Proofs.YtfpglpefofcdeaaGreatDoor
namespace Go.Proofs.YtfpglpefofcdeaaGreatDoor
open Go.RowKit
set_option linter.unusedVariables false

/-- all items that are not made of others -/
def plainD : Nat → List It → List It
  | 0, _ => []
  | d + 1, l => l.flatMap fun x => if madeV x.tag = true then plainD d x.list else [x]
theorem plain_len : ∀ (d : Nat) (l : List It), (plainD d l).length ≤ wt d l
  | 0, l => by simp [plainD]
  | d + 1, l => by
    induction l with
    | nil => simp [plainD]
    | cons x r ih =>
      have h := plain_len d x.list
      simp only [plainD, wt, List.flatMap_cons, List.map_cons, List.sum_cons, List.length_append] at ih ⊢
      split
      · omega
      · simp only [List.length_cons, List.length_nil]; omega

/-- an item as it lies: its own list's head beside it -/
structure Raw where
  tag : Int
  text : ByteArray
  co : Option Addr
  n : Nat
  cc : Nat
def Raw.cells (r : Raw) : List Value := [.int .i64 r.tag, .string r.text, .slice r.co r.n r.cc]
def cellsR (rs : List Raw) : List Value := rs.flatMap Raw.cells
theorem cellsR_append (a b : List Raw) : cellsR (a ++ b) = cellsR a ++ cellsR b := by simp [cellsR]
theorem cellsR_one (rs : List Raw) : ∀ u ∈ cellsR rs, u.oneCell' = true := by
  intro u hu
  obtain ⟨r, _, hr⟩ := List.mem_flatMap.1 hu
  simp only [Raw.cells, List.mem_cons, List.not_mem_nil, or_false] at hr
  rcases hr with rfl | rfl | rfl <;> rfl
theorem cellsR_length (rs : List Raw) : (cellsR rs).length = rs.length * 3 := by
  induction rs with
  | nil => rfl
  | cons r rs ih =>
    have e : cellsR (r :: rs) = r.cells ++ cellsR rs := by simp [cellsR]
    rw [e, List.length_append, ih, List.length_cons]
    simp only [Raw.cells, List.length_cons, List.length_nil]
    omega
/-- the rows hold these items' tags and texts -/
def Holds (rs : List Raw) (l : List It) : Prop := rs.map (fun r => (r.tag, r.text)) = l.map (fun x => (x.tag, x.text))
theorem infoItem : (Tryz.prog.info? 101).map (fun i => (i.zero, i.size, i.bytes)) = some (some (.agg #[.int .i64 0, .string ⟨#[]⟩, .slice none 0 0]), 3, 48) := by kernel_rfl

theorem ownsRow_kept {w w' : World} {base : Nat} {e : TypeId} {size : Nat} {v : Value} {n : Nat} {xs : List Value} (h : w.ownsRow base e size v n xs) (hb : Below w.heap.size w w') : w'.ownsRow base e size v n xs := by
  refine ⟨h.1, ?_⟩
  rcases h.2 with h0 | ⟨g, cap, cur, e1, e2, e3, e4⟩
  · exact .inl h0
  · refine .inr ⟨g, cap, cur, e1, e2, ?_, e4⟩
    have hg : g < w.heap.size := by
      rcases Nat.lt_or_ge g w.heap.size with h | h
      · exact h
      · rw [Array.getElem?_eq_none h] at e3; cases e3
    rw [hb.block g hg]; exact e3
theorem plain_take {d : Nat} {l : List It} {k : Nat} {x : It} (hx : l[k]? = some x) : plainD (d + 1) (l.take (k + 1)) = plainD (d + 1) (l.take k) ++ (if madeV x.tag = true then plainD d x.list else [x]) := by
  have hk : k < l.length := by
    rcases Nat.lt_or_ge k l.length with h | h
    · exact h
    · rw [List.getElem?_eq_none h] at hx; cases hx
  rw [List.getElem?_eq_getElem hk] at hx
  rw [List.take_succ_eq_append_getElem hk, Option.some.inj hx]
  simp [plainD]
theorem holds_append {a b : List Raw} {l m : List It} (h1 : Holds a l) (h2 : Holds b m) : Holds (a ++ b) (l ++ m) := by
  unfold Holds at *
  rw [List.map_append, List.map_append, h1, h2]
theorem holds_length {a : List Raw} {l : List It} (h : Holds a l) : a.length = l.length := by
  have := congrArg List.length h
  simpa using this
theorem wt_take {d : Nat} (l : List It) (k : Nat) : wt (d + 1) (l.take k) ≤ wt (d + 1) l := by
  conv => rhs; rw [← List.take_append_drop k l]
  simp only [wt, List.map_append, List.sum_append]
  omega

end Go.Proofs.YtfpglpefofcdeaaGreatDoor
namespace Go.Proofs.YtfpglpefofcdeaaGreatDoor
open Go.RowKit
set_option linter.unusedVariables false

def hasR (n : Int) (r : Raw) : Option ByteArray := if r.tag = n then some r.text else none
def hasI (n : Int) (x : It) : Option ByteArray := if x.tag = n then some x.text else none
theorem find_plain (n : Int) : ∀ (d : Nat) (l : List It), findD n d l = (plainD d l).findSome? (hasI n)
  | 0, l => by simp [findD, plainD]
  | d + 1, l => by
    induction l with
    | nil => rfl
    | cons x r ih =>
      have hd := find_plain n d x.list
      simp only [findD, plainD, List.findSome?_cons, List.flatMap_cons, List.findSome?_append] at ih ⊢
      rw [← ih]
      by_cases hm : madeV x.tag = true
      · rw [if_pos hm, ← hd]
        simp only [stepF, if_pos hm]
        cases findD n d x.list <;> rfl
      · rw [if_neg hm]
        simp only [stepF, if_neg hm, List.findSome?_cons, List.findSome?_nil, hasI]
        split <;> simp_all
theorem find_holds (n : Int) : ∀ (rs : List Raw) (l : List It), Holds rs l → rs.findSome? (hasR n) = l.findSome? (hasI n)
  | [], [], _ => rfl
  | [], x :: l, h => by simp [Holds] at h
  | r :: rs, [], h => by simp [Holds] at h
  | r :: rs, x :: l, h => by
    simp only [Holds, List.map_cons, List.cons.injEq, Prod.mk.injEq] at h
    have := find_holds n rs l h.2
    simp only [List.findSome?_cons, this, hasR, hasI, h.1.1, h.1.2]
theorem cellsR_get : ∀ (rs : List Raw) (i : Nat) (r : Raw), rs[i]? = some r → (cellsR rs)[i * 3]? = some (.int .i64 r.tag) ∧ (cellsR rs)[i * 3 + 1]? = some (.string r.text) ∧ (cellsR rs)[i * 3 + 2]? = some (.slice r.co r.n r.cc)
  | [], i, r, h => by simp at h
  | q :: rs, 0, r, h => by simp at h; subst h; simp [cellsR, Raw.cells]
  | q :: rs, i + 1, r, h => by
    have := cellsR_get rs i r (by simpa using h)
    have e : cellsR (q :: rs) = .int .i64 q.tag :: .string q.text :: .slice q.co q.n q.cc :: cellsR rs := by simp [cellsR, Raw.cells]
    rw [e, show (i + 1) * 3 = i * 3 + 1 + 1 + 1 by omega]
    simpa using this
/-- rows of items as they lie -/
def RRow (W : World) (ao : Option Addr) (rs : List Raw) : Prop :=
  rs = [] ∨ ∃ b, ao = some ⟨b, 0, none⟩ ∧ b < W.heap.size ∧ ∀ i r, rs[i]? = some r → W.cell? ⟨b, 0 + i * 3, none⟩ = some (.int .i64 r.tag) ∧ W.cell? ⟨b, 0 + i * 3 + 1, none⟩ = some (.string r.text) ∧ W.cell? ⟨b, 0 + i * 3 + 2, none⟩ = some (.slice r.co r.n r.cc)
theorem rrow_of_owns {w : World} {base : Nat} {v : Value} {rs : List Raw} {e : TypeId} (h : w.ownsRow base e 3 v rs.length (cellsR rs)) : ∃ ao cap, v = .slice ao rs.length cap ∧ RRow w ao rs := by
  rcases h.2 with ⟨h1, h2⟩ | ⟨g, cap, cur, h1, h2, h3, h4, h5, h6, h7⟩
  · exact ⟨none, 0, by rw [h1, h2], .inl (List.length_eq_zero_iff.1 h2)⟩
  · refine ⟨_, cap, h1, .inr ⟨g, rfl, (h.lt g (by rw [h1]; rfl)).2, fun i r hr => ?_⟩⟩
    have hc := cellsR_get rs i r hr
    have hk := h.cells (g := g) (by rw [h1]; rfl)
    have ea : ∀ k, (⟨g, 0, none⟩ : Addr).add k = ⟨g, 0 + k, none⟩ := fun k => by unfold Addr.add; split <;> simp_all
    have k1 := hk _ _ hc.1
    have k2 := hk _ _ hc.2.1
    have k3 := hk _ _ hc.2.2
    rw [ea] at k1 k2 k3
    exact ⟨k1, k2, k3⟩
theorem findR_next {f : Raw → Option ByteArray} {l : List Raw} {k : Nat} {x : Raw} (hx : l[k]? = some x) (h : (l.take k).findSome? f = none) (hf : f x = none) : (l.take (k + 1)).findSome? f = none := by
  have hk : k < l.length := by
    rcases Nat.lt_or_ge k l.length with h | h
    · exact h
    · rw [List.getElem?_eq_none h] at hx; cases hx
  rw [List.getElem?_eq_getElem hk] at hx
  rw [List.take_succ_eq_append_getElem hk, List.findSome?_append, h, Option.some.inj hx]
  simp [hf]
theorem findR_here {f : Raw → Option ByteArray} {l : List Raw} {k : Nat} {x : Raw} {t : ByteArray} (hx : l[k]? = some x) (h : (l.take k).findSome? f = none) (hf : f x = some t) : l.findSome? f = some t := by
  have hk : k < l.length := by
    rcases Nat.lt_or_ge k l.length with h | h
    · exact h
    · rw [List.getElem?_eq_none h] at hx; cases hx
  rw [List.getElem?_eq_getElem hk] at hx
  conv => lhs; rw [← List.take_append_drop (k + 1) l]
  rw [List.findSome?_append, List.take_succ_eq_append_getElem hk, List.findSome?_append, h, Option.some.inj hx]
  simp [hf]


end Go.Proofs.YtfpglpefofcdeaaGreatDoor
