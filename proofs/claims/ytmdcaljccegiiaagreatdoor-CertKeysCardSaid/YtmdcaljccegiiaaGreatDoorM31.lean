/- Words of 64 bits in memory; the library's sums; addTimes. -/
import Derived.Test.YtmdcaljccegiiaaGreatDoorM30
import Derived.Shelf.Bits.Mul64
import Derived.Laws.Externs
import Derived.Deep.QuietTactic
import Derived.BigQuiet
namespace Go.Proofs.YtmdcaljccegiiaaGreatDoor
open Go.RowKit Go.Shelf
set_option linter.unusedVariables false

def Tryz.lays264_ren : Go.Shelf.Ren := ⟨fun | 264 => 111 | _ => 0, fun | 46 => 55 | 53 => 54 | _ => 0, fun _ => 0⟩
theorem Tryz.lays264 : Go.Proofs.Lays.n264 Tryz.prog Tryz.lays264_ren := {
  mixed := by kernel_rfl
  f264 := Tryz.func111.trans (congrArg some (by kernel_rfl))
  t46 := Tryz.underlying55
  a46 := Tryz.isAgg55
  z46 := Tryz.sizeOf55
  v46 := Tryz.zeroValue55
  t53 := Tryz.underlying54
  a53 := Tryz.isAgg54
  z53 := Tryz.sizeOf54
  v53 := Tryz.zeroValue54 }
theorem mul64_any (x y : Nat) (hx : x < B64) (hy : y < B64) (w : World) :
    Calls Tryz.prog 111 #[.int .u64 x, .int .u64 y] w fun e w' => e = .returned (.tuple #[.int .u64 ((x * y / B64 : Nat) : Int), .int .u64 ((x * y % B64 : Nat) : Int)]) ∧ w' = w :=
  Any.bits_Mul64 Tryz.lays264 x y hx hy w
theorem add64_run (x y c : Nat) (hc : c ≤ 1) (w : World) :
    (callFunc 112 #[.int .u64 x, .int .u64 y, .int .u64 c]).run Tryz.prog w = .ok (.value (.tuple #[.int .u64 (((x + y + c) % B64 : Nat) : Int), .int .u64 (((x + y + c) / B64 : Nat) : Int)])) w := by
  unfold B64
  rw [run_callFunc_extern Tryz.func112 (by kernel_rfl) (by kernel_rfl) (by kernel_rfl) (e := add64Entry) (by kernel_rfl), run_add64 x y c (by omega) (by omega) (by omega) (by omega)]
  simp only [Result.andThen]
  congr 5 <;> omega

theorem add64_run0 (x y : Nat) (w : World) :
    (callFunc 112 #[.int .u64 x, .int .u64 y, .int .u64 0]).run Tryz.prog w = .ok (.value (.tuple #[.int .u64 (((x + y) % B64 : Nat) : Int), .int .u64 (((x + y) / B64 : Nat) : Int)])) w := add64_run x y 0 (by omega) w

/-- words that lie in a row, to be read -/
def NumAt (w : World) (g off : Nat) (ws : List Nat) : Prop := g < w.heap.size ∧ ∀ i x, ws[i]? = some x → w.cell? ⟨g, off + i, none⟩ = some (.int .u64 (x : Nat))
theorem NumAt.below {w w' : World} {g off : Nat} {ws : List Nat} (h : NumAt w g off ws) (hb : Below w.heap.size w w') : NumAt w' g off ws :=
  ⟨Nat.lt_of_lt_of_le h.1 hb.size, fun i x hi => (hb.cell (p := ⟨g, off + i, none⟩) h.1).trans (h.2 i x hi)⟩
/-- a whole block of words -/
def UCells (row : List Nat) : Array Value := (row.map fun x : Nat => Value.int .u64 (x : Int)).toArray
def URow (w : World) (g : Nat) (row : List Nat) : Prop := w.heap[g]? = some (.cells (UCells row) 54 (0, 0))
theorem URow.cell {w : World} {g : Nat} {row : List Nat} (h : URow w g row) (i x : Nat) (hi : row[i]? = some x) : w.cell? ⟨g, i, none⟩ = some (.int .u64 (x : Nat)) := by
  rw [cell_of_row _ _ i _ _ _ h]
  simp [UCells, hi]
theorem URow.frozen {w : World} {g : Nat} {row : List Nat} (h : URow w g row) (i : Nat) : w.frozen? ⟨g, i, none⟩ = false := frozen_of_row _ _ i _ _ h
theorem URow.lt {w : World} {g : Nat} {row : List Nat} (h : URow w g row) : g < w.heap.size := by
  rcases Nat.lt_or_ge g w.heap.size with h' | h'
  · exact h'
  · unfold URow at h
    rw [Array.getElem?_eq_none h'] at h; cases h
theorem set_rowN {w : World} {g j : Nat} {cs : Array Value} {e : TypeId} {fr : Nat × Nat} {v : Value} (h : w.heap[g]? = some (.cells cs e fr)) : (w.setCell ⟨g, j, none⟩ v).heap[g]? = some (.cells (cs.setIfInBounds j v) e fr) := by
  simp [World.setCell, Array.getElem?_modify, h]
theorem URow.set {w : World} {g : Nat} {row : List Nat} (h : URow w g row) (i x : Nat) : URow (w.setCell ⟨g, i, none⟩ (.int .u64 (x : Nat))) g (row.set i x) := by
  unfold URow
  rw [set_rowN h]
  congr 2
  unfold UCells
  rw [List.setIfInBounds_toArray, List.map_set]
theorem URow.numAt {w : World} {g : Nat} {row : List Nat} (h : URow w g row) (off : Nat) : NumAt w g off (row.drop off) :=
  ⟨h.lt, fun i x hi => h.cell (off + i) x (by rw [← hi, List.getElem?_drop])⟩
theorem URow.below {w w' : World} {g : Nat} {row : List Nat} (h : URow w g row) (hb : Below w.heap.size w w') : URow w' g row := by
  have hg := h.lt
  unfold URow at *
  rw [hb.block g hg, h]
theorem URow.drew {w : World} {g : Nat} {row : List Nat} (h : URow w g row) : URow w.drew g row := h
/-- one block alone has turned -/
structure Only (g : Nat) (w w' : World) : Prop where
  os : w'.os = w.os
  tape : w'.tape = w.tape
  output : w'.output = w.output
  size : w'.heap.size = w.heap.size
  block : ∀ k, k ≠ g → w'.heap[k]? = w.heap[k]?
theorem Only.refl (g : Nat) (w : World) : Only g w w := ⟨rfl, rfl, rfl, rfl, fun _ _ => rfl⟩
theorem Only.setCell {g : Nat} {w w' : World} (h : Only g w w') (j : Nat) (v : Value) : Only g w (w'.setCell ⟨g, j, none⟩ v) :=
  ⟨h.os, h.tape, h.output, by simp [World.setCell, h.size], fun k hk => by rw [← h.block k hk]; simp [World.setCell, Array.getElem?_modify, Ne.symm hk]⟩
theorem Only.drew {g : Nat} {w w' : World} (h : Only g w w') : Only g w w'.drew := ⟨h.os, h.tape, h.output, h.size, h.block⟩
theorem Only.trans {g : Nat} {a b c : World} (h : Only g a b) (k : Only g b c) : Only g a c :=
  ⟨k.os.trans h.os, k.tape.trans h.tape, k.output.trans h.output, k.size.trans h.size, fun n hn => (k.block n hn).trans (h.block n hn)⟩
theorem Only.below {g B : Nat} {a b : World} (h : Only g a b) (hB : B ≤ g) : Below B a b := ⟨h.os, h.tape, h.output, by rw [h.size]; exact Nat.le_refl _, fun k hk => h.block k (by omega)⟩
theorem NumAt.only {w w' : World} {g off q : Nat} {ws : List Nat} (h : NumAt w g off ws) (hb : Only q w w') (hq : g ≠ q) : NumAt w' g off ws :=
  ⟨by rw [hb.size]; exact h.1, fun i x hi => by
    have hc := h.2 i x hi
    unfold World.cell? at *
    rw [hb.block g hq]
    exact hc⟩
end Go.Proofs.YtmdcaljccegiiaaGreatDoor
namespace Go.Proofs.YtmdcaljccegiiaaGreatDoor
open Go.RowKit Go.Shelf
set_option linter.unusedVariables false

theorem wrap64N (a b c : Nat) (h : a + b = c) (hc : c < B64) : IntKind.u64.wrap ((a : Int) + (b : Int)) = (c : Int) := by
  unfold B64 at hc
  rw [IntKind.wrap_u64]
  omega
theorem get_pre {pre u : List Nat} {i : Nat} : (pre ++ u)[pre.length + i]? = u[i]? := by
  rw [List.getElem?_append_right (by omega), Nat.add_sub_cancel_left]
theorem set_pre {pre u : List Nat} {i x : Nat} : (pre ++ u).set (pre.length + i) x = pre ++ u.set i x := by
  rw [List.set_append_right _ _ (by omega), Nat.add_sub_cancel_left]
theorem take_set (u : List Nat) (i x : Nat) (h : i < u.length) : (u.set i x).take (i + 1) = u.take i ++ [x] := by
  rw [List.take_set, List.take_add_one, List.getElem?_eq_getElem h, List.set_append_right _ _ (by simp; omega), List.length_take, Nat.min_eq_left (by omega), Nat.sub_self]
  rfl
theorem drop_set (u : List Nat) (i x : Nat) : (u.set i x).drop (i + 1) = u.drop (i + 1) := by
  rw [List.drop_set_of_lt (by omega)]

/-- behind i words -/
structure AddAt (r0 xs : List Nat) (n i : Nat) (u : List Nat) (o : Nat) : Prop where
  len : u.length = r0.length
  ok : okW u
  rest : u.drop i = r0.drop i
  sum : natW (u.take i) + o * B64 ^ i = natW (r0.take i) + n * natW (xs.take i)
  lt : o < B64
theorem AddAt.step {r0 xs : List Nat} {n i o xw tw : Nat} {u : List Nat} (h : AddAt r0 xs n i u o) (hx : xs[i]? = some xw) (ht : u[i]? = some tw) (hn : n < B64) (hxw : xw < B64) :
    AddAt r0 xs n (i + 1) (u.set i (digN xw n o tw % B64)) (digN xw n o tw / B64) := by
  have htw := okW_get h.ok ht
  have hi : i < u.length := by
    rcases Nat.lt_or_ge i u.length with h' | h'
    · exact h'
    · rw [List.getElem?_eq_none h'] at ht; cases ht
  have hr : r0[i]? = some tw := by
    have e : u.drop i = r0.drop i := h.rest
    have e2 := congrArg (fun l => l[0]?) e
    simp only [List.getElem?_drop, Nat.add_zero] at e2
    rw [← e2]; exact ht
  have hd := dig_lt xw n o tw hxw hn h.lt htw
  refine ⟨by rw [List.length_set]; exact h.len, okW_set h.ok _ _ (Nat.mod_lt _ B64_pos), ?_, ?_, Nat.div_lt_of_lt_mul hd⟩
  · rw [drop_set, ← List.drop_drop, ← List.drop_drop, h.rest]
  · rw [take_set u i _ hi, natW_append, natW_take_succ r0 i tw hr, natW_take_succ xs i xw hx, List.length_take, Nat.min_eq_left (by omega), Nat.pow_succ]
    have := add_stepW (natW (u.take i)) o (B64 ^ i) (natW (r0.take i)) n (natW (xs.take i)) xw tw h.sum
    simp only [natW, Nat.mul_zero, Nat.add_zero]
    rw [Nat.mul_comm (B64 ^ i)]
    exact this

theorem AddAt.carry {r0 xs : List Nat} {n i o tw : Nat} {u : List Nat} (h : AddAt r0 xs n i u o) (hi : xs.length ≤ i) (ht : u[i]? = some tw) :
    AddAt r0 xs n (i + 1) (u.set i ((tw + o) % B64)) ((tw + o) / B64) := by
  have htw := okW_get h.ok ht
  have hi2 : i < u.length := by
    rcases Nat.lt_or_ge i u.length with h' | h'
    · exact h'
    · rw [List.getElem?_eq_none h'] at ht; cases ht
  have hr : r0[i]? = some tw := by
    have e : u.drop i = r0.drop i := h.rest
    have e2 := congrArg (fun l => l[0]?) e
    simp only [List.getElem?_drop, Nat.add_zero] at e2
    rw [← e2]; exact ht
  have hd : (tw + o) / B64 < B64 := by have := h.lt; unfold B64 at *; omega
  refine ⟨by rw [List.length_set]; exact h.len, okW_set h.ok _ _ (Nat.mod_lt _ B64_pos), ?_, ?_, hd⟩
  · rw [drop_set, ← List.drop_drop, ← List.drop_drop, h.rest]
  · have hs := h.sum
    rw [List.take_of_length_le hi] at hs
    rw [take_set u i _ hi2, natW_append, natW_take_succ r0 i tw hr, List.take_of_length_le (show xs.length ≤ i + 1 by omega), List.length_take, Nat.min_eq_left (by omega), Nat.pow_succ]
    have hq := Nat.div_add_mod (tw + o) B64
    generalize (tw + o) % B64 = r at *
    generalize (tw + o) / B64 = q at *
    simp only [natW, Nat.mul_zero, Nat.add_zero]
    grind
theorem AddAt.done {r0 xs : List Nat} {n k o : Nat} {u : List Nat} (h : AddAt r0 xs n k u o) (hk : xs.length ≤ k) (hk2 : k ≤ r0.length) (hroom : natW r0 + n * natW xs < B64 ^ r0.length) (hd : o = 0 ∨ k = r0.length) : natW u = natW r0 + n * natW xs := by
  have hs := h.sum
  rw [List.take_of_length_le hk] at hs
  have e1 := natW_split u k (by rw [h.len]; exact hk2)
  have e2 := natW_split r0 k hk2
  rw [h.rest] at e1
  have h0 : o = 0 := by
    rcases hd with hd | hd
    · exact hd
    · subst hd
      rw [List.take_of_length_le (Nat.le_refl r0.length)] at hs
      rcases Nat.eq_zero_or_pos o with h1 | h1
      · exact h1
      · have : B64 ^ r0.length ≤ o * B64 ^ r0.length := Nat.le_mul_of_pos_left _ h1
        omega
  subst h0
  rw [Nat.zero_mul, Nat.add_zero] at hs
  omega

set_option maxHeartbeats 4000000 in
set_option maxRecDepth 100000 in
theorem addTimes_any (pre r0 xs : List Nat) (n : Nat) (g tc g' o' xc : Nat) (w : World) (hT : URow w g (pre ++ r0)) (hX : NumAt w g' o' xs) (hne : g' ≠ g) (hlen : xs.length ≤ r0.length) (hn : n < B64) (hxs : okW xs) (hr0 : okW r0)
    (hroom : natW r0 + n * natW xs < B64 ^ r0.length) (hbig : (r0.length : Int) ≤ 1000000) :
    Calls Tryz.prog 80 #[.slice (some ⟨g, pre.length, none⟩) r0.length tc, .slice (some ⟨g', o', none⟩) xs.length xc, .int .u64 n] w fun e w' => e = .returned (.tuple #[]) ∧ ∃ u, URow w' g (pre ++ u) ∧ u.length = r0.length ∧ okW u ∧ natW u = natW r0 + n * natW xs ∧ Only g w w' := by
  go_enter Tryz.func80, Tryz.ntmps80
  go_wp2
  have HN := hide hn
  have HX := hide hX
  have HXS := hide hxs
  have HRM := hide hroom
  clear hn hxs hroom
  go_loopw [6, 15] (fun ov i wr => ∃ (k o : Nat) (u : List Nat), k ≤ xs.length ∧ i = .int .i64 k ∧ ov = .int .u64 (o : Nat) ∧ AddAt r0 xs n k u o ∧ URow wr g (pre ++ u) ∧ Only g w wr) (fun _ i _ => xs.length - (intOf i).toNat)
  case atStart => exact ⟨0, 0, r0, Nat.zero_le _, rfl, rfl, ⟨rfl, hr0, rfl, by simp [natW], B64_pos⟩, hT, Only.refl _ _⟩
  case round =>
    obtain ⟨k, o, u, hk, rfl, rfl, hA, hU, hO⟩ := hrel
    by_cases hlt : k < xs.length
    · obtain ⟨xw, hxw⟩ : ∃ x, xs[k]? = some x := ⟨xs[k], List.getElem?_eq_getElem hlt⟩
      have hul := hA.len
      obtain ⟨tw, htw⟩ : ∃ x, u[k]? = some x := ⟨u[k]'(by omega), List.getElem?_eq_getElem (by omega)⟩
      have hxb := okW_get (unhide HXS) hxw
      have htb := okW_get hA.ok htw
      have hst := hA.step hxw htw (unhide HN) hxb
      have cx := ((unhide HX).only hO hne).2 k xw hxw
      have ct := hU.cell (pre.length + k) tw (by rw [get_pre]; exact htw)
      have ft := hU.frozen (pre.length + k)
      have hset := hU.set (pre.length + k) (digN xw n o tw % B64)
      rw [set_pre] at hset
      have M1 := hide (fun w => mul64_any xw n hxb (unhide HN) w)
      have a1 := fun w => add64_run0 (xw * n % B64) o w
      have a2 := fun w => add64_run0 tw ((xw * n % B64 + o) % B64) w
      have e1 := dig_low (xw * n) o tw
      have e2 := dig_over (xw * n) o tw hA.lt htb
      rw [show xw * n + o + tw = digN xw n o tw from rfl] at e1 e2
      rw [e1] at a2
      have hov : digN xw n o tw / B64 < B64 := hst.lt
      generalize digN xw n o tw % B64 = dd at *
      generalize digN xw n o tw / B64 = ov at *
      generalize (tw + (xw * n % B64 + o) % B64) / B64 = c2 at *
      generalize (xw * n % B64 + o) % B64 = s1 at *
      generalize (xw * n % B64 + o) / B64 = c1 at *
      generalize xw * n % B64 = lo at *
      generalize xw * n / B64 = hi at *
      obtain ⟨h1, hh1⟩ : ∃ h1, h1 = hi + c1 := ⟨_, rfl⟩
      have w1 := wrap64N hi c1 h1 hh1.symm (by omega)
      have w2 := wrap64N h1 c2 ov (by omega) hov
      have HST := hide hst
      have HSE := hide hset
      have HO := hide hO
      have hki : (k : Int) < (xs.length : Int) := by omega
      have hkt : (k : Int) < (r0.length : Int) := by omega
      clear hst hset hO hA hU e1 e2 hh1 hov htw hxw hxb htb hT
      go_wp2_with fail
      refine (unhide M1 _).mono ?_
      rintro e y1 ⟨rfl, rfl⟩
      go_wp2
      go_roundw
      case rel => exact ⟨k + 1, ov, _, hlt, by go_num, rfl, unhide HST, unhide HSE, (unhide HO).setCell _ _⟩
      case measure => simp [intOf]; omega
    · have hkx : k = xs.length := by omega
      subst hkx
      clear hT
      go_wp2
      go_loopw [6, 12] (fun ov i wr => ∃ (k o : Nat) (u : List Nat), xs.length ≤ k ∧ k ≤ r0.length ∧ i = .int .i64 k ∧ ov = .int .u64 (o : Nat) ∧ AddAt r0 xs n k u o ∧ URow wr g (pre ++ u) ∧ Only g w wr) (fun _ i _ => r0.length - (intOf i).toNat)
      case atStart => exact ⟨xs.length, o, u, Nat.le_refl _, hlen, rfl, rfl, hA, hU, hO⟩
      case round =>
        clear hA hU hO
        obtain ⟨k, o, u, hk1, hk2, rfl, rfl, hA, hU, hO⟩ := hrel
        by_cases hc : o ≠ 0 ∧ k < r0.length
        · obtain ⟨ho, hlt⟩ := hc
          have hul := hA.len
          obtain ⟨tw, htw⟩ : ∃ x, u[k]? = some x := ⟨u[k]'(by omega), List.getElem?_eq_getElem (by omega)⟩
          have hst := hA.carry hk1 htw
          have ct := hU.cell (pre.length + k) tw (by rw [get_pre]; exact htw)
          have ft := hU.frozen (pre.length + k)
          have hset := hU.set (pre.length + k) ((tw + o) % B64)
          rw [set_pre] at hset
          have a2 := fun w => add64_run0 tw o w
          have t0 : ((o : Int) != 0) = true := by rw [bne_iff_ne]; omega
          have hkt : (k : Int) < (r0.length : Int) := by omega
          generalize (tw + o) % B64 = dd at *
          generalize (tw + o) / B64 = c2 at *
          have HST := hide hst
          have HSE := hide hset
          have HO := hide hO
          clear hst hset hO hA hU htw ho
          go_wp2
          go_roundw
          case rel => exact ⟨k + 1, c2, _, by omega, hlt, by go_num, rfl, unhide HST, unhide HSE, (unhide HO).setCell _ _⟩
          case measure => simp [intOf]; omega
        · have hdone := hA.done hk1 hk2 (unhide HRM) (by omega)
          have HD := hide hdone
          have HA := hide hA
          have HU := hide hU
          have HO := hide hO
          by_cases ho : o = 0
          · have t0 : ((o : Int) != 0) = false := by rw [bne_eq_false_iff_eq]; omega
            clear hc hdone hA hU hO ho
            go_wp2
            go_end0
            exact ⟨rfl, u, unhide HU, (unhide HA).len, (unhide HA).ok, unhide HD, unhide HO⟩
          · have t0 : ((o : Int) != 0) = true := by rw [bne_iff_ne]; omega
            have hkt : ¬ (k : Int) < (r0.length : Int) := by omega
            clear hc hdone hA hU hO ho
            go_wp2
            go_end0
            exact ⟨rfl, u, unhide HU, (unhide HA).len, (unhide HA).ok, unhide HD, unhide HO⟩
end Go.Proofs.YtmdcaljccegiiaaGreatDoor
namespace Go.Proofs.YtmdcaljccegiiaaGreatDoor
open Go.RowKit Go.Shelf
set_option linter.unusedVariables false

theorem infoU64 : (Tryz.prog.info? 54).map (fun i => (i.zero, i.size, i.bytes)) = some (some (.int .u64 0), 1, 8) := by kernel_rfl
theorem info_partsN {P : Program} {t : TypeId} {z : Value} {s b : Nat} (h : (P.info? t).map (fun i => (i.zero, i.size, i.bytes)) = some (some z, s, b)) : ∃ i, P.info? t = some i ∧ i.zero = some z ∧ i.size = s ∧ i.bytes = b := by
  cases hi : P.info? t with
  | none => rw [hi] at h; cases h
  | some i => rw [hi] at h; simp at h; exact ⟨i, rfl, h.1, h.2.1, h.2.2⟩
theorem own_wholeN {w : World} {base g n : Nat} {e : TypeId} {xs : List Value} (h : w.ownsRow base e 1 (.slice (some ⟨g, 0, none⟩) n n) n xs) : w.heap[g]? = some (.cells xs.toArray e (0, 0)) := by
  rcases h.2 with ⟨h1, h2⟩ | ⟨g', cap, cur, h1, hB, hh, hle, hm, hsz, htk⟩
  · simp at h1
  · simp only [Value.slice.injEq, Option.some.injEq, Addr.mk.injEq, and_true, true_and] at h1
    obtain ⟨rfl, rfl⟩ := h1
    rw [hh]
    congr 2
    have : cur.toList = xs := by
      rw [← htk, List.take_of_length_le (by simp; omega)]
    rw [← this]
theorem made_words (n : Nat) : (madeCells #[Value.int .u64 0] n).toList = (List.replicate n 0).map fun x : Nat => Value.int .u64 (x : Int) := by
  rw [List.map_replicate]
  apply List.ext_getElem
  · simp [madeCells]
  · intro i h1 h2
    simp [madeCells, Nat.mod_one]
theorem made_urow {w w1 : World} {base n : Nat} (h : w1.ownsRow base 54 1 (.slice (some ⟨w.heap.size, 0, none⟩) n n) n (madeCells #[Value.int .u64 0] n).toList) : URow w1 w.heap.size (List.replicate n 0) := by
  have := own_wholeN h
  rw [made_words] at this
  exact this
/-- the words of a product, behind k words of y -/
theorem prod_room {xs row : List Nat} {yk word k : Nat} (hx : okW xs) (hrow : okW row) (hr : natW row = natW xs * yk) (hyk : yk < B64 ^ k) (hw : word < B64) (hk : k + xs.length + 1 ≤ row.length) :
    natW (row.drop k) + word * natW xs < B64 ^ (row.drop k).length := by
  have h1 := natW_lt hx
  have e := natW_split row k (by omega)
  have hp : 0 < B64 ^ k := Nat.pow_pos B64_pos
  have hlt : natW row < B64 ^ xs.length * B64 ^ k := by
    rw [hr]
    rcases Nat.eq_zero_or_pos yk with h0 | h0
    · rw [h0, Nat.mul_zero]
      exact Nat.mul_pos (Nat.pow_pos B64_pos) hp
    · exact Nat.mul_lt_mul'' h1 hyk
  have h2 : natW (row.drop k) < B64 ^ xs.length := by
    rcases Nat.lt_or_ge (natW (row.drop k)) (B64 ^ xs.length) with h | h
    · exact h
    · have : B64 ^ k * B64 ^ xs.length ≤ B64 ^ k * natW (row.drop k) := Nat.mul_le_mul_left _ h
      rw [Nat.mul_comm (B64 ^ k) (B64 ^ xs.length)] at this
      omega
  have h3 : word * natW xs ≤ (B64 - 1) * (B64 ^ xs.length - 1) := Nat.mul_le_mul (by omega) (by omega)
  have h4 : (B64 - 1) * (B64 ^ xs.length - 1) + B64 ^ xs.length ≤ B64 ^ (xs.length + 1) := by
    have hp2 : 0 < B64 ^ xs.length := Nat.pow_pos B64_pos
    rw [Nat.pow_succ]
    generalize B64 ^ xs.length = q at *
    have : (B64 - 1) * (q - 1) + (q - 1) = B64 * (q - 1) := by
      have hb := B64_pos
      rw [Nat.sub_mul, Nat.one_mul]
      have : q - 1 ≤ B64 * (q - 1) := Nat.le_mul_of_pos_left _ hb
      omega
    have h5 : B64 * (q - 1) + B64 = q * B64 := by
      rw [Nat.mul_sub, Nat.mul_one, Nat.mul_comm q]
      have : B64 ≤ B64 * q := Nat.le_mul_of_pos_right _ hp2
      omega
    have hb := B64_pos
    omega
  have h6 : B64 ^ (xs.length + 1) ≤ B64 ^ (row.drop k).length := Nat.pow_le_pow_right B64_pos (by rw [List.length_drop]; omega)
  omega
theorem prod_step {xs ys row u : List Nat} {k word : Nat} (hk : k ≤ row.length) (hr : natW row = natW xs * natW (ys.take k)) (hy : ys[k]? = some word) (hu : natW u = natW (row.drop k) + word * natW xs) :
    natW (row.take k ++ u) = natW xs * natW (ys.take (k + 1)) := by
  have e := natW_split row k hk
  rw [natW_append, natW_take_succ ys k word hy, List.length_take, Nat.min_eq_left hk, hu]
  grind

set_option maxHeartbeats 4000000 in
set_option maxRecDepth 100000 in
theorem product_any (xs ys : List Nat) (g o c g' o' c' : Nat) (w : World) (hX : NumAt w g o xs) (hY : NumAt w g' o' ys) (hx : okW xs) (hy : okW ys) (hxl : (xs.length : Int) ≤ 1000) (hyl : (ys.length : Int) ≤ 1000) :
    Calls Tryz.prog 53 #[.slice (some ⟨g, o, none⟩) xs.length c, .slice (some ⟨g', o', none⟩) ys.length c'] w fun e w' => ∃ row, e = .returned (.slice (some ⟨w.heap.size, 0, none⟩) row.length row.length) ∧ URow w' w.heap.size row ∧ row.length = xs.length + ys.length ∧ okW row ∧ natW row = natW xs * natW ys ∧ Below w.heap.size w w' := by
  obtain ⟨i0, hi, hz0, hz1, hz2⟩ := info_partsN infoU64
  go_enter Tryz.func53, Tryz.ntmps53
  go_wp2_with (at_make; refine wpList_make_full _ rfl _ _ 57 rfl w.heap.size 54 i0 (.int .u64 0) 1 Tryz.underlying57 hi hz0 hz1 .i64 .i64 _ _ (xs.length + ys.length) rfl rfl (by simp) (by simp) (by rw [hz2]; omega) (by unfold maxLen; omega) (Nat.le_refl _) ?_)
  intro w1 hown hgrow
  have hU := made_urow hown
  have hb : Below w.heap.size w w1 := (Below.refl _ _).grown hgrow (Nat.le_refl _) (fun q hq => by cases hq)
  clear hown hgrow hi hz0 hz1 hz2
  have HX := hide hX
  have HY := hide hY
  have hgl := hX.1
  have hgl' := hY.1
  clear hX hY
  obtain ⟨N, hN⟩ : ∃ N, N = xs.length + ys.length := ⟨_, rfl⟩
  rw [← hN] at hU ⊢
  have HN := hide hN
  have hNb : (N : Int) ≤ 2000 := by omega
  have hNy : (ys.length : Int) ≤ (N : Int) := by omega
  clear hN
  go_wp2
  go_loopw [16] (fun i wr => ∃ (k : Nat) (row : List Nat), k ≤ ys.length ∧ i = .int .i64 k ∧ row.length = N ∧ okW row ∧ natW row = natW xs * natW (ys.take k) ∧ URow wr w.heap.size row ∧ Below w.heap.size w wr) (fun i _ => ys.length - (intOf i).toNat)
  case atStart => exact ⟨0, _, Nat.zero_le _, rfl, by simp, okW_zeros _, by rw [natW_zeros]; simp [natW], hU, hb⟩
  case round =>
    clear hU hb
    obtain ⟨k, row, hk, rfl, hrl, hrow, hr, hU, hbel⟩ := hrel
    by_cases hlt : k < ys.length
    · obtain ⟨word, hw⟩ : ∃ x, ys[k]? = some x := ⟨ys[k], List.getElem?_eq_getElem hlt⟩
      have hwb := okW_get hy hw
      have cy : wr.cell? ⟨g', o' + k, none⟩ = some (.int .u64 (word : Nat)) := (hbel.cell (p := ⟨g', o' + k, none⟩) hgl').trans ((unhide HY).2 k word hw)
      have hXr : NumAt wr g o xs := ⟨Nat.lt_of_lt_of_le hgl hbel.size, fun i x hi => (hbel.cell (p := ⟨g, o + i, none⟩) hgl).trans ((unhide HX).2 i x hi)⟩
      have hyk : natW (ys.take k) < B64 ^ k := by
        have := natW_lt (okW_take hy k)
        rw [List.length_take, Nat.min_eq_left (by omega)] at this
        exact this
      have hroom := prod_room (k := k) hx hrow hr hyk hwb (by have := unhide HN; omega)
      have hpl : (row.take k).length = k := by rw [List.length_take]; omega
      have hdl : (row.drop k).length = N - k := by rw [List.length_drop]; omega
      have hU2 : URow wr w.heap.size (row.take k ++ row.drop k) := by rw [List.take_append_drop]; exact hU
      have A1 := fun tc => addTimes_any (row.take k) (row.drop k) xs word w.heap.size tc g o c wr hU2 hXr (by omega) (by rw [hdl]; have := unhide HN; omega) hwb hx (okW_drop hrow k) hroom (by rw [hdl]; omega)
      rw [hpl, hdl] at A1
      have HA := hide A1
      have HS := hide (fun u (hu : natW u = natW (row.drop k) + word * natW xs) => prod_step (k := k) (by omega) hr hw hu)
      have HOK := hide (okW_take hrow k)
      have HB := hide hbel
      have hki : (k : Int) < (ys.length : Int) := by omega
      have hkN : (k : Int) ≤ (N : Int) := by omega
      clear A1 hU2 hXr hroom hdl hyk hU hbel hrow hr hw hwb
      go_wp2_with fail
      refine (unhide HA _).mono ?_
      rintro e y1 ⟨rfl, u, hU1, hul, huo, hun, hon⟩
      have hlen2 : (row.take k ++ u).length = N := by rw [List.length_append, hpl, hul]; omega
      have hok2 := okW_append (unhide HOK) huo
      have hnat := unhide HS u hun
      have W1 := hide ((unhide HB).trans (hon.below (Nat.le_refl _)))
      have H1 := hide hU1
      clear HA HS HOK HB hU1 hon hun huo hul
      go_wp2
      go_roundw
      case rel => exact ⟨k + 1, _, hlt, by go_num, hlen2, hok2, hnat, unhide H1, unhide W1⟩
      case measure => simp [intOf]; omega
    · rw [List.take_of_length_le (by omega)] at hr
      have HU := hide hU
      have HB := hide hbel
      have HR := hide hr
      clear hU hbel hr
      go_wp2
      go_ret
      refine ⟨row, ?_, unhide HU, by rw [hrl]; exact unhide HN, hrow, unhide HR, unhide HB⟩
      rw [hrl]
      rfl
end Go.Proofs.YtmdcaljccegiiaaGreatDoor
