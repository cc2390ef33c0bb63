/- itemsOf and Parse of the reference. -/
import Derived.Test.YtfpglpefofcdeaaGreatDoorM04
namespace Go.Proofs.YtfpglpefofcdeaaGreatDoor
open Go.RowKit
set_option linter.unusedVariables false

theorem behind_behind (s : ByteArray) (i j : Nat) (h : i + j ≤ s.size) : behind (behind s i) j = s.extract (i + j) s.size := by
  unfold behind
  rw [ByteArray.size_extract, ByteArray.extract_extract]
  congr 1
  omega
theorem behind_take (s : ByteArray) (i n : Nat) (h : i + n ≤ s.size) : (s.extract i s.size).extract 0 n = s.extract i (i + n) := by
  rw [ByteArray.extract_extract]
  congr 1
  omega

/-- an item, by its head -/
theorem item_head {P : ByteArray → Option (List It)} {s : ByteArray} : itemAt P s = match headD s with
    | none => none
    | some (t, n, k) => if s.size < k + n then none else if madeB t = true then (P (s.extract k (k + n))).map fun l => (.mk t ⟨#[]⟩ l, s.extract (k + n) s.size) else some (.mk t (s.extract k (k + n)) [], s.extract (k + n) s.size) := by
  unfold itemAt headD
  split
  · rfl
  · rename_i hz
    split
    · rfl
    · cases hl : lenAt (behind s (tagSz s.data.toList)) with
      | none => rfl
      | some nk =>
        obtain ⟨n, k⟩ := nk
        have hk := lenAt_lt hl
        rw [behind_size] at hk
        simp only
        rw [behind_size, behind_size]
        by_cases hn : s.size - tagSz s.data.toList - k < n
        · rw [if_pos hn, if_pos (by omega)]
        · have hn2 : ¬ s.size < tagSz s.data.toList + k + n := by omega
          rw [if_neg hn, if_neg hn2]
          have e1 : behind (behind s (tagSz s.data.toList)) k = s.extract (tagSz s.data.toList + k) s.size := behind_behind s _ k (by omega)
          have e2 : (s.extract (tagSz s.data.toList + k) s.size).extract 0 n = s.extract (tagSz s.data.toList + k) (tagSz s.data.toList + k + n) := behind_take s _ n (by omega)
          have e3 : behind (s.extract (tagSz s.data.toList + k) s.size) n = s.extract (tagSz s.data.toList + k + n) s.size := behind_behind s (tagSz s.data.toList + k) n (by omega)
          rw [e1, e2, e3]

/-- what itemsOf answers, called in W, in W' -/
def ItemsRet (W W' : World) (d : Nat) (s : ByteArray) (e : Ending) : Prop :=
  ∃ v rs, e = .returned (.tuple #[v, .bool (parseD d s).isSome]) ∧ W'.ownsRow W.heap.size 101 3 v rs.length (cellsR rs) ∧ rs.length ≤ s.size ∧ ∀ l, parseD d s = some l → RHold W' (fun b => W.heap.size ≤ b) (d - 1) rs l
def ItemsIH (d : Nat) (b : Nat) : Prop := ∀ (s : ByteArray) (w : World), s.size < b → (s.size : Int) ≤ 65535 →
    Calls Tryz.prog 99 #[.string s, .int .i64 (9 - (d : Int))] w fun e w' => ItemsRet w w' d s e ∧ Below w.heap.size w w'

theorem head_lt {s : ByteArray} {t n k : Nat} (h : headD s = some (t, n, k)) : t < 16777216 ∧ n < 65536 ∧ 1 ≤ k ∧ k ≤ s.size ∧ validB (t : Int) = true := by
  have hm := valN_take3 s (tagSz s.data.toList) (tagSz_le s.data.toList).2
  have h1 := (tagSz_le s.data.toList).1
  unfold headD at h
  split at h
  · cases h
  · split at h
    · cases h
    · rename_i hv
      split at h
      · cases h
      · rename_i n' k' hl
        have hk := lenAt_lt hl
        rw [behind_size] at hk
        cases h
        refine ⟨hm, hk.1, by omega, by omega, by simpa using hv⟩

/-- the fuel says nothing where it is enough -/
theorem listP_fuel (P : ByteArray → Option (List It)) : ∀ (f g : Nat) (s : ByteArray), s.size ≤ f → s.size ≤ g → listP P f s = listP P g s
  | 0, g, s, hf, hg => by rw [listP_empty P 0 (by omega), listP_empty P g (by omega)]
  | f + 1, 0, s, hf, hg => by rw [listP_empty P _ (by omega), listP_empty P 0 (by omega)]
  | f + 1, g + 1, s, hf, hg => by
    by_cases hz : s.size = 0
    · rw [listP_empty P _ hz, listP_empty P _ hz]
    · rw [listP_step hz, listP_step hz]
      cases hi : itemAt P s with
      | none => rfl
      | some xr =>
        obtain ⟨x, r⟩ := xr
        have := item_size hi
        simp only
        rw [listP_fuel P f g r (by omega) (by omega)]
theorem parse_step {d : Nat} {s : ByteArray} (hz : s.size ≠ 0) : parseD (d + 1) s = match itemAt (parseD d) s with | none => none | some (x, r) => (parseD (d + 1) r).map (x :: ·) := by
  show listP (parseD d) s.size s = _
  obtain ⟨f, hf⟩ : ∃ f, s.size = f + 1 := ⟨s.size - 1, by omega⟩
  conv => lhs; rw [hf]
  rw [listP_step hz]
  cases hi : itemAt (parseD d) s with
  | none => rfl
  | some xr =>
    obtain ⟨x, r⟩ := xr
    have := item_size hi
    simp only
    rw [listP_fuel (parseD d) f r.size r (by omega) (Nat.le_refl _)]
    rfl

theorem itemsRet_nil {W W' : World} {d : Nat} {s : ByteArray} {ok : Bool} (h : (parseD d s).isSome = ok) (hl : ∀ l, parseD d s = some l → l = []) : ItemsRet W W' d s (.returned (.tuple #[.slice none 0 0, .bool ok])) :=
  ⟨_, [], by rw [h], World.ownsRow_nil _ _ _ _, Nat.zero_le _, fun l h' => by rw [hl l h']; exact ⟨rfl, fun i r x h => by simp at h⟩⟩

theorem RHold.cons {W : World} {A : Nat → Prop} {d : Nat} {rs : List Raw} {acc : List It} (h : RHold W A d rs acc) {r : Raw} {x : It} (h1 : r.tag = x.tag) (h2 : r.text = x.text) (h3 : r.n = x.list.length) (h4 : r.n ≤ r.cc) (h5 : IRowA W A d r.co x.list) (h6 : x.tag ≤ 9223372036854775807) (h7 : x.text.size ≤ maxLen) : RHold W A d ([r] ++ rs) (x :: acc) := by
  refine ⟨by simp [h.1], fun i r' x' hr hx => ?_⟩
  cases i with
  | zero => simp at hr hx; subst hr hx; exact ⟨h1, h2, h3, h4, h5, h6, h7⟩
  | succ i => exact h.2 i r' x' (by simpa using hr) (by simpa using hx)
theorem own_lit (w : World) (base : Nat) (hb : base ≤ w.heap.size) (a b c : Value) (e : TypeId) : (w.alloc (.cells #[a, b, c] e)).ownsRow base e 3 (.slice (some ⟨w.heap.size, 0, none⟩) 1 1) 1 [a, b, c] :=
  ⟨rfl, .inr ⟨w.heap.size, 1, #[a, b, c], rfl, hb, heap_alloc_new w _, Nat.le_refl _, by unfold maxLen; omega, rfl, rfl⟩⟩
theorem items_tail {w w3 w5 w6 : World} {d : Nat} {s r : ByteArray} {x : It} {rs : List Raw} {co : Option Addr} {cc : Nat} {v : Value}
    (hps : parseD (d + 1) s = (parseD (d + 1) r).map (x :: ·)) (hrh : ∀ l, parseD (d + 1) r = some l → RHold w5 (fun b => w3.heap.size ≤ b) d rs l) (h3 : w.heap.size ≤ w3.heap.size)
    (hx : IRowA w5 (fun b => w.heap.size ≤ b) d co x.list) (hcc : x.list.length ≤ cc) (hxt : x.tag ≤ 9223372036854775807) (hxs : x.text.size ≤ maxLen)
    (hk : ∀ b, b < w5.heap.size → w6.heap[b]? = w5.heap[b]?) (hs6 : w5.heap.size ≤ w6.heap.size)
    (hown : w6.ownsRow w.heap.size 101 3 v ([Raw.mk x.tag x.text co x.list.length cc] ++ rs).length (cellsR ([Raw.mk x.tag x.text co x.list.length cc] ++ rs))) (hlen : 1 + rs.length ≤ s.size) :
    ItemsRet w w6 (d + 1) s (.returned (.tuple #[v, .bool (parseD (d + 1) r).isSome])) := by
  refine ⟨v, _, by rw [hps]; simp, hown, by simp; omega, fun l hl => ?_⟩
  rw [hps] at hl
  cases hq : parseD (d + 1) r with
  | none => rw [hq] at hl; cases hl
  | some m =>
    rw [hq] at hl
    have e : l = x :: m := (Option.some.inj hl).symm
    rw [e]
    have k1 : RHold w6 (fun b => w.heap.size ≤ b) d rs m := RHold.kept hs6 (fun b hb hA => ⟨hk b hb, Nat.le_trans h3 hA⟩) (hrh m hq)
    have k2 : IRowA w6 (fun b => w.heap.size ≤ b) d co x.list := IRowA.kept hs6 (fun b hb hA => ⟨hk b hb, hA⟩) d hx
    exact RHold.cons k1 rfl rfl rfl hcc k2 hxt hxs
theorem items_row {W W' : World} {d : Nat} {s : ByteArray} {e : Ending} {l : List It} (h : ItemsRet W W' d s e) (hl : parseD d s = some l) : ListRet W W' d (some l) e := by
  obtain ⟨v, rs, rfl, hown, _, hrh⟩ := h
  have hr := hrh l hl
  rw [hl]
  cases d with
  | zero =>
    have hn : l = [] := by
      unfold parseD at hl
      split at hl
      · cases hl; rfl
      · cases hl
    subst hn
    rcases hown.2 with ⟨h1, h2⟩ | ⟨g, cap, cur, h1, _⟩
    · exact ⟨none, 0, by rw [h1]; rfl, Nat.le_refl _, rfl⟩
    · exact ⟨_, cap, by rw [h1, hr.1]; rfl, Nat.zero_le _, rfl⟩
  | succ d =>
    obtain ⟨ao, cap, rfl, h1, h2⟩ := irow_of_raw (fun b hb => hb) hown hr
    exact ⟨ao, cap, rfl, h1, h2⟩

set_option maxRecDepth 1000000 in
set_option maxHeartbeats 8000000 in
theorem itemsOf_any : ∀ (d : Nat), d ≤ 8 → ∀ b, ItemsIH d b
  | d, hd, 0 => fun s w hb hs => by omega
  | d, hd, b + 1 => fun s w hb hs => by
    have ihb := itemsOf_any d hd b
    have ihd : ∀ d', d' + 1 = d → ItemsIH d' (b + 1) := fun d' h => itemsOf_any d' (by omega) (b + 1)
    have n1 := fun w => headOf_any s w hs
    by_cases hz : s.size = 0
    · have he := empty_of hz
      have hr : parseD d s = some [] := by
        cases d with
        | zero => unfold parseD; rw [if_pos hz]
        | succ d => exact listP_empty _ _ hz
      have HN := hide (fun W' => itemsRet_nil (W := w) (W' := W') (d := d) (s := s) (ok := true) (by rw [hr]; rfl) (fun l h => by rw [hr] at h; cases h; rfl))
      clear hr hz n1 ihb ihd
      go_enter Tryz.func99, Tryz.ntmps99
      go_wp2
      go_ret2
      exact ⟨unhide HN _, Below.refl _ _⟩
    · have he := full_of hz
      cases d with
      | zero =>
        have hr : parseD 0 s = none := by unfold parseD; rw [if_neg hz]
        have HN := hide (fun W' => itemsRet_nil (W := w) (W' := W') (d := 0) (s := s) (ok := false) (by rw [hr]; rfl) (fun l h => by rw [hr] at h; cases h))
        clear hr hz ihb ihd
        have hdeep : (9 : Int) - ((0 : Nat) : Int) = 9 := by omega
        rw [hdeep]
        clear hdeep
        cases hh : headD s with
        | none =>
          rw [hh] at n1
          simp only [headV] at n1
          have N1 := hide n1
          clear n1 hh
          go_enter Tryz.func99, Tryz.ntmps99
          go_wp2_with fail
          refine (unhide N1 _).mono ?_
          rintro e w1 ⟨rfl, hb1⟩
          go_wp2
          go_ret2
          exact ⟨unhide HN _, hb1⟩
        | some tnk =>
          obtain ⟨t, n, k⟩ := tnk
          have hlt := head_lt hh
          rw [hh] at n1
          simp only [headV] at n1
          have N1 := hide n1
          have t1 : ((k : Int) == 0) = false := by simp; omega
          have hk1 : (k : Int) ≤ 65535 := by omega
          have hn1 : (n : Int) ≤ 65535 := by omega
          clear n1 hh hlt
          go_enter Tryz.func99, Tryz.ntmps99
          go_wp2_with fail
          refine (unhide N1 _).mono ?_
          rintro e w1 ⟨rfl, hb1⟩
          go_wp2
          all_goals
            go_ret2
            exact ⟨unhide HN _, hb1⟩
      | succ d =>
        have hdeep : (9 : Int) - ((d + 1 : Nat) : Int) = 8 - (d : Int) := by omega
        rw [hdeep]
        have hps := parse_step (d := d) hz
        rw [item_head] at hps
        have n8 := ihd d rfl
        have t8 : decide ((8 : Int) < 8 - (d : Int)) = false := by simp; omega
        obtain ⟨i0, hi, hz0, hz1, hz2⟩ := info_parts infoItem
        unfold ItemsIH at ihb n8
        rw [hdeep] at ihb
        clear hdeep
        cases hh : headD s with
        | none =>
          rw [hh] at n1 hps
          simp only [headV] at n1
          have HN := hide (fun W' => itemsRet_nil (W := w) (W' := W') (d := d + 1) (s := s) (ok := false) (by rw [hps]; rfl) (fun l h => by rw [hps] at h; cases h))
          have N1 := hide n1
          clear n1 hh ihb ihd n8 hps hz
          go_enter Tryz.func99, Tryz.ntmps99
          go_wp2_with fail
          refine (unhide N1 _).mono ?_
          rintro e w1 ⟨rfl, hb1⟩
          go_wp2
          go_ret2
          exact ⟨unhide HN _, hb1⟩
        | some tnk =>
          obtain ⟨t, n, k⟩ := tnk
          have hlt := head_lt hh
          rw [hh] at n1 hps
          simp only [headV] at n1
          simp only at hps
          have N1 := hide n1
          have t1 : ((k : Int) == 0) = false := by simp; omega
          have hk1 : (k : Int) ≤ 65535 := by omega
          have hn1 : (n : Int) ≤ 65535 := by omega
          have n2 := fun w => rmade_any t w hlt.1
          clear n1 hh
          by_cases hsz : s.size < k + n
          · rw [if_pos hsz] at hps
            have HN := hide (fun W' => itemsRet_nil (W := w) (W' := W') (d := d + 1) (s := s) (ok := false) (by rw [hps]; rfl) (fun l h => by rw [hps] at h; cases h))
            have t2 : decide ((s.size : Int) < (k : Int) + (n : Int)) = true := by simp; omega
            clear n2 ihb ihd n8 hps hz hlt
            go_enter Tryz.func99, Tryz.ntmps99
            go_wp2_with fail
            refine (unhide N1 _).mono ?_
            rintro e w1 ⟨rfl, hb1⟩
            go_wp2
            go_ret2
            exact ⟨unhide HN _, hb1⟩
          · rw [if_neg hsz] at hps
            have t2 : decide ((s.size : Int) < (k : Int) + (n : Int)) = false := by simp; omega
            have hkn : (k : Int) + (n : Int) ≤ (s.size : Int) := by omega
            have hres : (s.extract (k + n) s.size).size = s.size - (k + n) := by rw [ByteArray.size_extract]; omega
            have n9 := fun w => ihb (s.extract (k + n) s.size) w (by omega) (by omega)
            clear ihb ihd
            cases hm : madeB t with
            | true =>
              rw [hm] at n2 hps
              simp only [if_true] at hps
              have n8' := fun w => n8 (s.extract k (k + n)) w (by rw [ByteArray.size_extract]; omega) (by rw [ByteArray.size_extract]; omega)
              have hd1 : (9 : Int) - (d : Int) = 8 - (d : Int) + 1 := by omega
              rw [hd1] at n8'
              have N2 := hide n2; have N8 := hide n8'; have N9 := hide n9
              clear n2 n8 n8' n9 hm hz hsz hd1
              go_enter Tryz.func99, Tryz.ntmps99
              go_wp2_with fail
              refine (unhide N1 _).mono ?_
              rintro e w1 ⟨rfl, hb1⟩
              go_wp2_with fail
              have hblk1 := heap_alloc_new w1 (.cells #[.int .i64 t, .string (s.extract k (k + n)), .slice none 0 0] 101)
              have hbel1 : Below w.heap.size w (w1.alloc (.cells #[.int .i64 t, .string (s.extract k (k + n)), .slice none 0 0] 101)) := hb1.alloc hb1.size _
              have hsz1 : w1.heap.size < (w1.alloc (.cells #[.int .i64 t, .string (s.extract k (k + n)), .slice none 0 0] 101)).heap.size := by simp
              have hgx : w.heap.size ≤ w1.heap.size := hb1.size
              generalize w1.alloc (.cells #[.int .i64 t, .string (s.extract k (k + n)), .slice none 0 0] 101) = w2 at *
              generalize w1.heap.size = gx at *
              refine (unhide N2 _).mono ?_
              rintro e w3 ⟨rfl, hb3⟩
              have hblk3 : w3.heap[gx]? = some (.cells #[.int .i64 t, .string (s.extract k (k + n)), .slice none 0 0] 101 (0, 0)) := (hb3.block _ hsz1).trans hblk1
              have hbel3 := below_more hbel1 hbel1.size hb3
              have hsz3 : gx < w3.heap.size := Nat.lt_of_lt_of_le hsz1 hb3.size
              clear hblk1 hbel1 hsz1 hb3 hb1
              have y0 : w3.cell? ⟨gx, 0, none⟩ = some (.int .i64 t) := cell_of_row _ _ 0 _ _ _ hblk3
              have y1 : w3.cell? ⟨gx, 1, none⟩ = some (.string (s.extract k (k + n))) := cell_of_row _ _ 1 _ _ _ hblk3
              go_wp2_with fail
              refine (unhide N8 _).mono ?_
              rintro e w4 ⟨hret, hb4⟩
              have hblk4 : w4.heap[gx]? = some (.cells #[.int .i64 t, .string (s.extract k (k + n)), .slice none 0 0] 101 (0, 0)) := (hb4.block _ hsz3).trans hblk3
              have hbel4 := below_more hbel3 hbel3.size hb4
              have hsz4 : gx < w4.heap.size := Nat.lt_of_lt_of_le hsz3 hb4.size
              clear y0 y1 N8
              cases hp : parseD d (s.extract k (k + n)) with
              | none =>
                rw [hp] at hps
                unfold ItemsRet at hret
                rw [hp] at hret
                obtain ⟨v, qs, rfl, _, _, _⟩ := hret
                have HN := hide (fun W' => itemsRet_nil (W := w) (W' := W') (d := d + 1) (s := s) (ok := false) (by rw [hps]; rfl) (fun l h => by rw [hps] at h; cases h))
                clear hps hp hb4 hblk4 hblk3
                go_wp2
                go_ret2
                exact ⟨unhide HN _, hbel4⟩
              | some l =>
                rw [hp] at hps
                simp only [Option.map_some] at hps
                obtain ⟨po, pc, rfl, hpl, hrow⟩ := items_row hret hp
                have z0 : w4.cell? ⟨gx, 0, none⟩ = some (.int .i64 t) := cell_of_row _ _ 0 _ _ _ hblk4
                have z1 : w4.cell? ⟨gx, 1, none⟩ = some (.string (s.extract k (k + n))) := cell_of_row _ _ 1 _ _ _ hblk4
                have z2 : w4.cell? ⟨gx, 2, none⟩ = some (.slice none 0 0) := cell_of_row _ _ 2 _ _ _ hblk4
                have zf : ∀ o, w4.frozen? ⟨gx, o, none⟩ = false := fun o => frozen_of_row _ _ o _ _ hblk4
                have hgB : gx < w3.heap.size := hsz3
                have HW := hide hrow
                clear hret hp hrow hblk3 hsz3 hb4
                go_wp2_with fail
                have hblkq : ((w4.setCell ⟨gx, 2, none⟩ (.slice po l.length pc)).setCell ⟨gx, 1, none⟩ (.string ⟨#[]⟩)).heap[gx]? = some (.cells #[.int .i64 t, .string ⟨#[]⟩, .slice po l.length pc] 101 (0, 0)) := set_block (set_block hblk4)
                have hbelq := below_cell (below_cell hbel4 2 (.slice po l.length pc) hgx) 1 (.string ⟨#[]⟩) hgx
                have hszq : gx < ((w4.setCell ⟨gx, 2, none⟩ (.slice po l.length pc)).setCell ⟨gx, 1, none⟩ (.string ⟨#[]⟩)).heap.size := by simpa using hsz4
                have hrowq : IRowA ((w4.setCell ⟨gx, 2, none⟩ (.slice po l.length pc)).setCell ⟨gx, 1, none⟩ (.string ⟨#[]⟩)) (fun b => w.heap.size ≤ b) d po l :=
                  IRowA.but (unhide HW) (SameBut.cell (SameBut.cell (SameBut.refl gx w4) 2 _) 1 _) hgB hbel3.size
                clear z0 z1 z2 zf HW hgB hbel3 hbel4 hblk4 hsz4
                generalize (w4.setCell ⟨gx, 2, none⟩ (.slice po l.length pc)).setCell ⟨gx, 1, none⟩ (.string ⟨#[]⟩) = wq at *
                refine (unhide N9 _).mono ?_
                rintro e w5 ⟨⟨rv, rs, rfl, hown, hrl, hrh⟩, hb5⟩
                have hblk5 : w5.heap[gx]? = some (.cells #[.int .i64 t, .string ⟨#[]⟩, .slice po l.length pc] 101 (0, 0)) := (hb5.block _ hszq).trans hblkq
                have hbel5 := below_more hbelq hbelq.size hb5
                have hsz5 : gx < w5.heap.size := Nat.lt_of_lt_of_le hszq hb5.size
                have z0 : w5.cell? ⟨gx, 0, none⟩ = some (.int .i64 t) := cell_of_row _ _ 0 _ _ _ hblk5
                have z1 : w5.cell? ⟨gx, 1, none⟩ = some (.string ⟨#[]⟩) := cell_of_row _ _ 1 _ _ _ hblk5
                have z2 : w5.cell? ⟨gx, 2, none⟩ = some (.slice po l.length pc) := cell_of_row _ _ 2 _ _ _ hblk5
                have hwl : w.heap.size ≤ wq.heap.size := hbelq.size
                have hrl2 : 1 + rs.length ≤ s.size := by omega
                have TL := hide (fun (w6 : World) (v : Value) hk hs6 ho => items_tail (w := w) (w3 := wq) (w5 := w5) (w6 := w6) (d := d) (s := s) (r := s.extract (k + n) s.size) (x := (.mk t ⟨#[]⟩ l)) (rs := rs) (co := po) (cc := pc) (v := v) hps hrh hwl (IRowA.below hb5 d hrowq) hpl (by have := hlt.1; simp only [It.tag]; omega) (by simp only [It.text]; first | (rw [ByteArray.size_extract]; unfold maxLen; omega) | exact Nat.zero_le _) hk hs6 ho hrl2)
                have hlm : rs.length ≤ 65535 := by omega
                have HM := hide hlm
                generalize hOK : (parseD (d + 1) (s.extract (k + n) s.size)).isSome = ok at *
                clear hrh hlm hOK hrl hres
                rcases hown.2 with ⟨rfl, hq0⟩ | ⟨g, cap', cur, rfl, hg1, hg2, hg3, hg4, hg5, hg6⟩
                · have hqn : rs = [] := List.length_eq_zero_iff.1 hq0
                  subst hqn
                  have hol := own_lit w5 w.heap.size hbel5.size (.int .i64 t) (.string ⟨#[]⟩) (.slice po l.length pc) 101
                  clear hown hq0
                  go_wp2_with (at_builtin; refine wpList_append_own_none rfl _ _ 55 rfl w.heap.size 101 i0 3 Tryz.underlying55 hi _ _ _ rfl hol rfl ?_)
                  go_wp2
                  go_ret2
                  exact ⟨unhide TL _ _ (fun b hb => Below.heap_alloc _ _ _ hb) (by simp) hol, hbel5.alloc hbel5.size _⟩
                · have hol := own_lit w5 w.heap.size hbel5.size (.int .i64 t) (.string ⟨#[]⟩) (.slice po l.length pc) 101
                  have hcells := (World.ownsRow.alloc hown (.cells #[.int .i64 t, .string ⟨#[]⟩, .slice po l.length pc] 101)).cells (g := g) rfl
                  have hql := hown.1
                  clear hown hg1 hg2 hg3 hg4 hg5 hg6
                  go_wp2_with (at_builtin; refine wpList_append_own _ rfl _ _ 55 rfl w.heap.size 101 i0 (.agg #[.int .i64 0, .string ⟨#[]⟩, .slice none 0 0]) 3 48 Tryz.underlying55 hi hz0 hz1 hz2 rfl (by decide) _ _ _ rfl hol ⟨g, 0, none⟩ rs.length cap' (cellsR rs) rfl hql hcells (cellsR_one rs) ?c3 ?c4 ?c5 ?_)
                  case c3 => have := unhide HM; unfold maxLen; omega
                  case c4 => have := unhide HM; omega
                  case c5 => have := hbel5.size; simp; omega
                  intro v' w6 hown' hgrow _
                  have hb6 : Below w.heap.size w w6 := (hbel5.alloc hbel5.size _).grown hgrow (by have := hbel5.size; simp; omega) (fun q hq => by
                    have e : w5.heap.size = q := by simpa [Value.ownBlock] using hq
                    rw [← e]; exact hbel5.size)
                  have hk6 : ∀ b, b < w5.heap.size → w6.heap[b]? = w5.heap[b]? := fun b hb => by
                    rw [hgrow.block b (by simp; omega) (by simp only [Value.ownBlock]; intro h; have := Option.some.inj h; omega), Below.heap_alloc _ _ _ hb]
                  have hs6 : w5.heap.size ≤ w6.heap.size := by have := hgrow.size; simp at this; omega
                  have ho6 : w6.ownsRow w.heap.size 101 3 v' ([Raw.mk t ⟨#[]⟩ po l.length pc] ++ rs).length (cellsR ([Raw.mk t ⟨#[]⟩ po l.length pc] ++ rs)) := by
                    rw [cellsR_append, List.length_append]
                    exact hown'
                  have HF := hide (unhide TL w6 v' hk6 hs6 ho6)
                  clear hown' hgrow hk6 ho6 TL hcells hql
                  go_wp2
                  go_ret2
                  exact ⟨unhide HF, hb6⟩
            | false =>
              rw [hm] at n2 hps
              simp only [Bool.false_eq_true, if_false] at hps
              have N2 := hide n2; have N9 := hide n9
              clear n2 n8 n9 hm hz hsz
              go_enter Tryz.func99, Tryz.ntmps99
              go_wp2_with fail
              refine (unhide N1 _).mono ?_
              rintro e w1 ⟨rfl, hb1⟩
              go_wp2_with fail
              have hblk1 := heap_alloc_new w1 (.cells #[.int .i64 t, .string (s.extract k (k + n)), .slice none 0 0] 101)
              have hbel1 : Below w.heap.size w (w1.alloc (.cells #[.int .i64 t, .string (s.extract k (k + n)), .slice none 0 0] 101)) := hb1.alloc hb1.size _
              have hsz1 : w1.heap.size < (w1.alloc (.cells #[.int .i64 t, .string (s.extract k (k + n)), .slice none 0 0] 101)).heap.size := by simp
              have hgx : w.heap.size ≤ w1.heap.size := hb1.size
              generalize w1.alloc (.cells #[.int .i64 t, .string (s.extract k (k + n)), .slice none 0 0] 101) = w2 at *
              generalize w1.heap.size = gx at *
              refine (unhide N2 _).mono ?_
              rintro e w3 ⟨rfl, hb3⟩
              have hblk3 : w3.heap[gx]? = some (.cells #[.int .i64 t, .string (s.extract k (k + n)), .slice none 0 0] 101 (0, 0)) := (hb3.block _ hsz1).trans hblk1
              have hbel3 := below_more hbel1 hbel1.size hb3
              have hsz3 : gx < w3.heap.size := Nat.lt_of_lt_of_le hsz1 hb3.size
              clear hblk1 hbel1 hsz1 hb3 hb1
              go_wp2_with fail
              refine (unhide N9 _).mono ?_
              rintro e w5 ⟨⟨rv, rs, rfl, hown, hrl, hrh⟩, hb5⟩
              have hblk5 : w5.heap[gx]? = some (.cells #[.int .i64 t, .string (s.extract k (k + n)), .slice none 0 0] 101 (0, 0)) := (hb5.block _ hsz3).trans hblk3
              have hbel5 := below_more hbel3 hbel3.size hb5
              have hsz5 : gx < w5.heap.size := Nat.lt_of_lt_of_le hsz3 hb5.size
              have z0 : w5.cell? ⟨gx, 0, none⟩ = some (.int .i64 t) := cell_of_row _ _ 0 _ _ _ hblk5
              have z1 : w5.cell? ⟨gx, 1, none⟩ = some (.string (s.extract k (k + n))) := cell_of_row _ _ 1 _ _ _ hblk5
              have z2 : w5.cell? ⟨gx, 2, none⟩ = some (.slice none 0 0) := cell_of_row _ _ 2 _ _ _ hblk5
              have hwl : w.heap.size ≤ w3.heap.size := hbel3.size
              have hrl2 : 1 + rs.length ≤ s.size := by omega
              have TL := hide (fun (w6 : World) (v : Value) hk hs6 ho => items_tail (w := w) (w3 := w3) (w5 := w5) (w6 := w6) (d := d) (s := s) (r := s.extract (k + n) s.size) (x := (.mk t (s.extract k (k + n)) [])) (rs := rs) (co := none) (cc := 0) (v := v) hps hrh hwl (IRowA.nil _ _ _ _) (Nat.le_refl _) (by have := hlt.1; simp only [It.tag]; omega) (by simp only [It.text]; first | (rw [ByteArray.size_extract]; unfold maxLen; omega) | exact Nat.zero_le _) hk hs6 ho hrl2)
              have hlm : rs.length ≤ 65535 := by omega
              have HM := hide hlm
              generalize hOK : (parseD (d + 1) (s.extract (k + n) s.size)).isSome = ok at *
              clear hrh hlm hOK hrl hres
              rcases hown.2 with ⟨rfl, hq0⟩ | ⟨g, cap', cur, rfl, hg1, hg2, hg3, hg4, hg5, hg6⟩
              · have hqn : rs = [] := List.length_eq_zero_iff.1 hq0
                subst hqn
                have hol := own_lit w5 w.heap.size hbel5.size (.int .i64 t) (.string (s.extract k (k + n))) (.slice none 0 0) 101
                clear hown hq0
                go_wp2_with (at_builtin; refine wpList_append_own_none rfl _ _ 55 rfl w.heap.size 101 i0 3 Tryz.underlying55 hi _ _ _ rfl hol rfl ?_)
                go_wp2
                go_ret2
                exact ⟨unhide TL _ _ (fun b hb => Below.heap_alloc _ _ _ hb) (by simp) hol, hbel5.alloc hbel5.size _⟩
              · have hol := own_lit w5 w.heap.size hbel5.size (.int .i64 t) (.string (s.extract k (k + n))) (.slice none 0 0) 101
                have hcells := (World.ownsRow.alloc hown (.cells #[.int .i64 t, .string (s.extract k (k + n)), .slice none 0 0] 101)).cells (g := g) rfl
                have hql := hown.1
                clear hown hg1 hg2 hg3 hg4 hg5 hg6
                go_wp2_with (at_builtin; refine wpList_append_own _ rfl _ _ 55 rfl w.heap.size 101 i0 (.agg #[.int .i64 0, .string ⟨#[]⟩, .slice none 0 0]) 3 48 Tryz.underlying55 hi hz0 hz1 hz2 rfl (by decide) _ _ _ rfl hol ⟨g, 0, none⟩ rs.length cap' (cellsR rs) rfl hql hcells (cellsR_one rs) ?c3 ?c4 ?c5 ?_)
                case c3 => have := unhide HM; unfold maxLen; omega
                case c4 => have := unhide HM; omega
                case c5 => have := hbel5.size; simp; omega
                intro v' w6 hown' hgrow _
                have hb6 : Below w.heap.size w w6 := (hbel5.alloc hbel5.size _).grown hgrow (by have := hbel5.size; simp; omega) (fun q hq => by
                  have e : w5.heap.size = q := by simpa [Value.ownBlock] using hq
                  rw [← e]; exact hbel5.size)
                have hk6 : ∀ b, b < w5.heap.size → w6.heap[b]? = w5.heap[b]? := fun b hb => by
                  rw [hgrow.block b (by simp; omega) (by simp only [Value.ownBlock]; intro h; have := Option.some.inj h; omega), Below.heap_alloc _ _ _ hb]
                have hs6 : w5.heap.size ≤ w6.heap.size := by have := hgrow.size; simp at this; omega
                have ho6 : w6.ownsRow w.heap.size 101 3 v' ([Raw.mk t (s.extract k (k + n)) none 0 0] ++ rs).length (cellsR ([Raw.mk t (s.extract k (k + n)) none 0 0] ++ rs)) := by
                  rw [cellsR_append, List.length_append]
                  exact hown'
                have HF := hide (unhide TL w6 v' hk6 hs6 ho6)
                clear hown' hgrow hk6 ho6 TL hcells hql
                go_wp2
                go_ret2
                exact ⟨unhide HF, hb6⟩
end Go.Proofs.YtfpglpefofcdeaaGreatDoor
