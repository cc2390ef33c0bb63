/- Rows of plain things that are handed in, opened. -/
import Derived.Test.YtolicaaifhfhcaaProg
import Derived.WalkKit
import Derived.ProofKit
import Derived.OpenShut
import Derived.ShutString
import Derived.ChangeOld
import Derived.Below
import Derived.Deep.Slices
import Derived.Test.YtolicaaifhfhcaaRows
import Derived.WalkSpells
import Derived.WalkLawsBesides
import Derived.Laws.BytesArg
namespace Go.Proofs.Ytolicaaifhfhcaa
open Go.ChangeShapes Go.WideShapes Go.ChangeAt Go.RowKit Go.Deep
set_option linter.unusedVariables false

theorem cellsOfInt : Try.prog.cellsOf 3 = 1 := by kernel_rfl
theorem cellsOfBool : Try.prog.cellsOf 4 = 1 := by kernel_rfl
theorem cellsOfString : Try.prog.cellsOf 9 = 1 := by kernel_rfl
theorem cell_ltR {w : World} {a : Addr} {v : Value} (h : w.cell? a = some v) : a.block < w.heap.size := by
  rcases Nat.lt_or_ge a.block w.heap.size with h1 | h1
  · exact h1
  · unfold World.cell? at h
    rw [Array.getElem?_eq_none h1] at h
    cases h
end Go.Proofs.Ytolicaaifhfhcaa
namespace Go.Proofs.Ytolicaaifhfhcaa
open Go.ChangeShapes Go.WideShapes Go.ChangeAt Go.RowKit Go.Deep
set_option linter.unusedVariables false
set_option maxRecDepth 100000

structure XDeal where
  shop : Int
  trace : Int
  amount : Int
  cash : Bool
  day : Int
  bits : Int
  nonce : ByteArray
deriving Inhabited
def valDeal (x : XDeal) : Value := .agg #[.int .i64 x.shop, .int .i64 x.trace, .int .i64 x.amount, .bool x.cash, .int .i64 x.day, .int .i64 x.bits, .string x.nonce]
def okDeal (W : World) (x : XDeal) : Prop := (-9223372036854775808 ≤ x.shop ∧ x.shop ≤ 9223372036854775807) ∧ (-9223372036854775808 ≤ x.trace ∧ x.trace ≤ 9223372036854775807) ∧ (-9223372036854775808 ≤ x.amount ∧ x.amount ≤ 9223372036854775807) ∧ (-9223372036854775808 ≤ x.day ∧ x.day ≤ 9223372036854775807) ∧ (-9223372036854775808 ≤ x.bits ∧ x.bits ≤ 9223372036854775807) ∧ x.nonce.size ≤ maxLen
theorem cellsOfDeal : Try.prog.cellsOf 28 = 7 := by kernel_rfl
theorem okDeal.below {W W' : World} {x : XDeal} (h : okDeal W x) (hb : Below W.heap.size W W') : okDeal W' x := by
  obtain ⟨h0, h1, h2, h3, h4, h5⟩ := h
  exact ⟨h0, h1, h2, h3, h4, h5⟩
theorem opencDeal {H : Type} {enc : TypeId × Value → H} {W : World} {k : Nat} {cs : List Value} {y : DataW H × List MemPlace}
    (h : DataW.trod enc Try.prog W 0 (fun _ => true) true k 28 cs = some y) :
    ∃ x : XDeal, cs = [.int .i64 x.shop, .int .i64 x.trace, .int .i64 x.amount, .bool x.cash, .int .i64 x.day, .int .i64 x.bits, .string x.nonce] ∧ okDeal W x := by
  obtain ⟨xs, k', _, _, hsz, hlen, hq⟩ := DataW.trod_struct Try.underlying28 h
  rw [cellsOfDeal] at hsz
  match cs, hsz with
  | [c0, c1, c2, c3, c4, c5, c6], _ =>
    match xs, hlen with
    | [y0, y1, y2, y3, y4, y5, y6], _ =>
      have h0 : DataW.trod enc Try.prog W 0 (fun _ => true) true k' 3 [c0] = some y0 := by simpa [cellsOfBool, cellsOfInt, cellsOfString] using hq 0 _ rfl
      obtain ⟨z0, e0, g0, w0⟩ := DataW.trod_int Try.underlying3 h0
      have h1 : DataW.trod enc Try.prog W 0 (fun _ => true) true k' 3 [c1] = some y1 := by simpa [cellsOfBool, cellsOfInt, cellsOfString] using hq 1 _ rfl
      obtain ⟨z1, e1, g1, w1⟩ := DataW.trod_int Try.underlying3 h1
      have h2 : DataW.trod enc Try.prog W 0 (fun _ => true) true k' 3 [c2] = some y2 := by simpa [cellsOfBool, cellsOfInt, cellsOfString] using hq 2 _ rfl
      obtain ⟨z2, e2, g2, w2⟩ := DataW.trod_int Try.underlying3 h2
      have h3 : DataW.trod enc Try.prog W 0 (fun _ => true) true k' 4 [c3] = some y3 := by simpa [cellsOfBool, cellsOfInt, cellsOfString] using hq 3 _ rfl
      obtain ⟨z3, e3, g3⟩ := DataW.trod_bool Try.underlying4 h3
      have h4 : DataW.trod enc Try.prog W 0 (fun _ => true) true k' 3 [c4] = some y4 := by simpa [cellsOfBool, cellsOfInt, cellsOfString] using hq 4 _ rfl
      obtain ⟨z4, e4, g4, w4⟩ := DataW.trod_int Try.underlying3 h4
      have h5 : DataW.trod enc Try.prog W 0 (fun _ => true) true k' 3 [c5] = some y5 := by simpa [cellsOfBool, cellsOfInt, cellsOfString] using hq 5 _ rfl
      obtain ⟨z5, e5, g5, w5⟩ := DataW.trod_int Try.underlying3 h5
      have h6 : DataW.trod enc Try.prog W 0 (fun _ => true) true k' 9 [c6] = some y6 := by simpa [cellsOfBool, cellsOfInt, cellsOfString] using hq 6 _ rfl
      obtain ⟨z6, e6, g6, w6⟩ := DataW.trod_string Try.underlying9 h6
      simp at e0 e1 e2 e3 e4 e5 e6
      subst e0
      subst e1
      subst e2
      subst e3
      subst e4
      subst e5
      subst e6
      exact ⟨⟨z0, z1, z2, z3, z4, z5, z6⟩, rfl, ⟨bounds_i64 w0, bounds_i64 w1, bounds_i64 w2, bounds_i64 w4, bounds_i64 w5, w6⟩⟩
theorem openDeal {H : Type} {enc : TypeId × Value → H} {W : World} {b0 : Nat} {r : Reach} {v : Value} {d : DataW H} {p : List MemPlace}
    (hv : Value.okWide Try.prog W r b0 28 v) (h : DataW.Trod enc Try.prog W 0 (fun _ => true) true 28 v d p) : ∃ x : XDeal, v = valDeal x ∧ okDeal W x := by
  obtain ⟨cs, rfl, hsz⟩ := okWide_struct Try.underlying28 hv
  obtain ⟨fuel, hf⟩ := h
  obtain ⟨x, hx, ho⟩ := opencDeal hf
  obtain ⟨l⟩ := cs
  simp only [Value.cells] at hx
  subst hx
  exact ⟨x, rfl, ho⟩
def bulkDeal (x : XDeal) : Nat := x.nonce.size
theorem opencbDeal {H : Type} {enc : TypeId × Value → H} {W : World} {k : Nat} {cs : List Value} {y : DataW H × List MemPlace}
    (h : DataW.trod enc Try.prog W 0 (fun _ => true) true k 28 cs = some y) :
    ∃ x : XDeal, cs = [.int .i64 x.shop, .int .i64 x.trace, .int .i64 x.amount, .bool x.cash, .int .i64 x.day, .int .i64 x.bits, .string x.nonce] ∧ okDeal W x ∧ bulkDeal x ≤ Rows.uptoBulk y.1 := by
  obtain ⟨xs, k', _, hagg, hsz, hlen, hq⟩ := DataW.trod_struct Try.underlying28 h
  rw [cellsOfDeal] at hsz
  match cs, hsz with
  | [c0, c1, c2, c3, c4, c5, c6], _ =>
    match xs, hlen, hagg with
    | [y0, y1, y2, y3, y4, y5, y6], _, hagg =>
      have hbk := congrArg Rows.uptoBulk (Prod.ext_iff.1 hagg).1
      have h0 : DataW.trod enc Try.prog W 0 (fun _ => true) true k' 3 [c0] = some y0 := by simpa [cellsOfBool, cellsOfInt, cellsOfString] using hq 0 _ rfl
      obtain ⟨z0, e0, g0, w0⟩ := DataW.trod_int Try.underlying3 h0
      subst g0
      have h1 : DataW.trod enc Try.prog W 0 (fun _ => true) true k' 3 [c1] = some y1 := by simpa [cellsOfBool, cellsOfInt, cellsOfString] using hq 1 _ rfl
      obtain ⟨z1, e1, g1, w1⟩ := DataW.trod_int Try.underlying3 h1
      subst g1
      have h2 : DataW.trod enc Try.prog W 0 (fun _ => true) true k' 3 [c2] = some y2 := by simpa [cellsOfBool, cellsOfInt, cellsOfString] using hq 2 _ rfl
      obtain ⟨z2, e2, g2, w2⟩ := DataW.trod_int Try.underlying3 h2
      subst g2
      have h3 : DataW.trod enc Try.prog W 0 (fun _ => true) true k' 4 [c3] = some y3 := by simpa [cellsOfBool, cellsOfInt, cellsOfString] using hq 3 _ rfl
      obtain ⟨z3, e3, g3⟩ := DataW.trod_bool Try.underlying4 h3
      subst g3
      have h4 : DataW.trod enc Try.prog W 0 (fun _ => true) true k' 3 [c4] = some y4 := by simpa [cellsOfBool, cellsOfInt, cellsOfString] using hq 4 _ rfl
      obtain ⟨z4, e4, g4, w4⟩ := DataW.trod_int Try.underlying3 h4
      subst g4
      have h5 : DataW.trod enc Try.prog W 0 (fun _ => true) true k' 3 [c5] = some y5 := by simpa [cellsOfBool, cellsOfInt, cellsOfString] using hq 5 _ rfl
      obtain ⟨z5, e5, g5, w5⟩ := DataW.trod_int Try.underlying3 h5
      subst g5
      have h6 : DataW.trod enc Try.prog W 0 (fun _ => true) true k' 9 [c6] = some y6 := by simpa [cellsOfBool, cellsOfInt, cellsOfString] using hq 6 _ rfl
      obtain ⟨z6, e6, g6, w6⟩ := DataW.trod_string Try.underlying9 h6
      have l6 : z6.data.toList.length = z6.size := by simp
      subst g6
      simp at e0 e1 e2 e3 e4 e5 e6
      subst e0
      subst e1
      subst e2
      subst e3
      subst e4
      subst e5
      subst e6
      refine ⟨⟨z0, z1, z2, z3, z4, z5, z6⟩, rfl, ⟨bounds_i64 w0, bounds_i64 w1, bounds_i64 w2, bounds_i64 w4, bounds_i64 w5, w6⟩, ?_⟩
      simp only [List.map_cons, List.map_nil, Rows.uptoBulk, Rows.uptoBulkAll] at hbk
      rw [hbk]
      unfold bulkDeal
      dsimp only
      omega
theorem openbDeal {H : Type} {enc : TypeId × Value → H} {W : World} {b0 : Nat} {r : Reach} {v : Value} {d : DataW H} {p : List MemPlace}
    (hv : Value.okWide Try.prog W r b0 28 v) (h : DataW.Trod enc Try.prog W 0 (fun _ => true) true 28 v d p) : ∃ x : XDeal, v = valDeal x ∧ okDeal W x ∧ bulkDeal x ≤ Rows.uptoBulk d := by
  obtain ⟨cs, rfl, hsz⟩ := okWide_struct Try.underlying28 hv
  obtain ⟨fuel, hf⟩ := h
  obtain ⟨x, hx, ho, hb⟩ := opencbDeal hf
  obtain ⟨l⟩ := cs
  simp only [Value.cells] at hx
  subst hx
  exact ⟨x, rfl, ho, hb⟩
structure XCommand where
  dO : Int
  name : ByteArray
  digits : ByteArray
  want : Int
  deal : XDeal
  extra : ByteArray
  answer : ByteArray
  orders : ByteArray
deriving Inhabited
def valCommand (x : XCommand) : Value := .agg #[.int .i64 x.dO, .string x.name, .string x.digits, .int .i64 x.want, .int .i64 x.deal.shop, .int .i64 x.deal.trace, .int .i64 x.deal.amount, .bool x.deal.cash, .int .i64 x.deal.day, .int .i64 x.deal.bits, .string x.deal.nonce, .string x.extra, .string x.answer, .string x.orders]
def okCommand (W : World) (x : XCommand) : Prop := (-9223372036854775808 ≤ x.dO ∧ x.dO ≤ 9223372036854775807) ∧ x.name.size ≤ maxLen ∧ x.digits.size ≤ maxLen ∧ (-9223372036854775808 ≤ x.want ∧ x.want ≤ 9223372036854775807) ∧ okDeal W x.deal ∧ x.extra.size ≤ maxLen ∧ x.answer.size ≤ maxLen ∧ x.orders.size ≤ maxLen
theorem okCommand.below {W W' : World} {x : XCommand} (h : okCommand W x) (hb : Below W.heap.size W W') : okCommand W' x := by
  obtain ⟨h0, h1, h2, h3, h4, h5, h6, h7⟩ := h
  exact ⟨h0, h1, h2, h3, h4.below hb, h5, h6, h7⟩
def bulkCommand (x : XCommand) : Nat := x.name.size + x.digits.size + bulkDeal x.deal + x.extra.size + x.answer.size + x.orders.size
end Go.Proofs.Ytolicaaifhfhcaa
namespace Go.Proofs.Ytolicaaifhfhcaa
open Go.RowKit

theorem hide {p : Prop} (h : p) : Hid p := h
theorem unhide {p : Prop} (h : Hid p) : p := h
theorem wraps_i64 (n : Int) (h₀ : 0 ≤ n) (h₁ : n < 2 ^ 63) : IntKind.i64.wrap n = n := by rw [IntKind.wrap_i64]; omega
theorem ret_bool {a b : Bool} (h : a = b) : Ending.returned (.bool a) = .returned (.bool b) := by rw [h]
theorem ret_int {k : IntKind} {a b : Int} (h : a = b) : Ending.returned (.int k a) = .returned (.int k b) := by rw [h]
end Go.Proofs.Ytolicaaifhfhcaa
namespace Go.Proofs.Ytolicaaifhfhcaa
open Go.RowKit

theorem infoByte : (Try.prog.info? 5).map (fun i => (i.zero, i.size, i.bytes)) = some (some (.int .u8 0), 1, 1) := by kernel_rfl

/-- k bytes of a number, the high one first -/
def bigL (n : Nat) : Nat → List Int
  | 0 => []
  | k + 1 => ((n / 256 ^ k % 256 : Nat) : Int) :: bigL n k

theorem bigL_length (n k : Nat) : (bigL n k).length = k := by
  induction k with
  | zero => rfl
  | succ k ih => simp [bigL, ih]

theorem strOfNums_append (xs ys : List Int) : strOfNums xs ++ strOfNums ys = strOfNums (xs ++ ys) := by
  apply ByteArray.ext
  simp [strOfNums]

theorem bigL_bytes (n k : Nat) : ∀ z ∈ bigL n k, 0 ≤ z ∧ z < 256 := by
  induction k with
  | zero => simp [bigL]
  | succ k ih =>
    intro z hz
    simp only [bigL, List.mem_cons] at hz
    rcases hz with h | h
    · omega
    · exact ih z h

theorem wrap_pow (k : Nat) (h : k < 8) : wrap64 (2 ^ (8 * k)) = ((256 ^ k : Nat) : Int) := by
  have hk : k = 0 ∨ k = 1 ∨ k = 2 ∨ k = 3 ∨ k = 4 ∨ k = 5 ∨ k = 6 ∨ k = 7 := by omega
  rcases hk with rfl | rfl | rfl | rfl | rfl | rfl | rfl | rfl <;> (unfold wrap64; decide)

theorem take_snoc (s : ByteArray) (k : Nat) (h : k < s.size) : s.data.toList.take (k + 1) = s.data.toList.take k ++ [s[k]] := by
  rw [List.take_succ_eq_append_getElem (by simpa using h)]; rfl

/-- the byte at a place -/
def byteAt (s : ByteArray) (i : Nat) : Nat := (s.data.toList.getD i 0).toNat
theorem byteAt_lt (s : ByteArray) (i : Nat) : byteAt s i < 256 := UInt8.toNat_lt _
theorem get_byte (s : ByteArray) (i : Nat) (h : i < s.size) : ((s[i]'h).toNat : Int) = (byteAt s i : Int) := by
  unfold byteAt
  have e : s.data.toList.getD i 0 = s[i]'h := by
    rw [List.getD_eq_getElem?_getD, List.getElem?_eq_getElem (by simpa using h)]; rfl
  rw [e]
/-- the byte that a number is cut to -/
def lowByte (n : Int) : Int := n % 256
theorem lowByte_mod (m : Int) : lowByte (m % 256) = m % 256 := by unfold lowByte; omega

theorem owned_cells {w : World} {base n : Nat} {v : Value} {xs : List Int} (h : w.ownsRow base 5 1 v n (xs.map (Value.int .u8))) :
    (v = .slice none 0 0 ∧ xs = []) ∨ ∃ g cap, v = .slice (some ⟨g, 0, none⟩) n cap ∧ xs.length = n ∧ ∀ i, i < n → w.cell? ⟨g, 0 + i, none⟩ = some (.int .u8 (xs.getD i 0)) := by
  have h' := h
  obtain ⟨h1, h2⟩ := h
  have hl : xs.length = n := by simpa using h1
  rcases h2 with ⟨rfl, rfl⟩ | ⟨g, cap, cur, rfl, hg, hh, r⟩
  · exact .inl ⟨rfl, List.length_eq_zero_iff.1 hl⟩
  · refine .inr ⟨g, cap, rfl, hl, fun i hi => ?_⟩
    have := h'.cells (g := g) rfl i (.int .u8 (xs.getD i 0)) (by simp [List.getElem?_eq_getElem (show i < xs.length by omega)])
    rw [show (⟨g, 0, none⟩ : Addr).add i = ⟨g, 0 + i, none⟩ from by unfold Addr.add; split <;> simp_all] at this
    exact this

set_option maxHeartbeats 1000000 in
theorem bytes_any (zs : List Int) (b off len cap : Nat) (w : World) (hlen : zs.length = len) (hl : len ≤ 1000) (hbB : b < w.heap.size)
    (hc : ∀ i, i < len → w.cell? ⟨b, off + i, none⟩ = some (.int .i64 (zs.getD i 0))) :
    Calls Try.prog 19 #[.slice (some ⟨b, off, none⟩) len cap] w fun e w' => e = .returned (.string (strOfNums (zs.map lowByte))) ∧ Below w.heap.size w w' := by
  obtain ⟨i0, hi, hz0, hz1, hz2⟩ := info_parts infoByte
  go_enter Try.func19, Try.ntmps19
  go_wp2
  go_loopw [3, 4] (fun v i wr => ∃ k : Nat, k ≤ len ∧ i = .int .i64 k ∧ wr.ownsRow w.heap.size 5 1 v k (((zs.take k).map lowByte).map (Value.int .u8)) ∧ Below w.heap.size w wr)
    (fun _ i _ => len - (intOf i).toNat)
  case atStart => exact ⟨0, Nat.zero_le _, rfl, World.ownsRow_nil _ _ _ _, Below.refl _ _⟩
  case round =>
    obtain ⟨k, hk, rfl, hown, hnx⟩ := hrel
    have hcx : k < len → wr.cell? ⟨b, off + k, none⟩ = some (.int .i64 (zs.getD k 0)) := fun h => (hnx.cell (by exact hbB)).trans (hc k h)
    by_cases hlt : k < len
    · obtain ⟨x, hx⟩ : ∃ x, x = zs.getD k 0 := ⟨_, rfl⟩
      have hcy := hcx hlt
      rw [← hx] at hcy
      have HX : Hid (x = zs.getD k 0) := hx
      clear hx hcx hc
      go_wp2_with (at_builtin; refine wpList_append_own _ rfl _ _ 55 rfl w.heap.size 5 i0 (.int .u8 0) 1 1 Try.underlying55 hi hz0 hz1 hz2 rfl (by decide) _ _ _ rfl (hown.alloc _) ⟨wr.heap.size, 0, none⟩ 1 1 [.int .u8 (x % 256)] rfl rfl (cell_one_new _ _ _) ?c2 ?c3 ?c4 ?c5 ?_)
      case c2 => intro u hu; simp at hu; subst hu; rfl
      case c3 => unfold maxLen; omega
      case c4 => omega
      case c5 => have := hnx.size; simp; omega
      intro v' w1 hown' hgrow _
      have hb1 : Below w.heap.size w w1 := (hnx.alloc hnx.size _).grown hgrow (by have := hnx.size; simp; omega) (fun q hq => ((hown.lt q hq).1))
      have hown2 : w1.ownsRow w.heap.size 5 1 v' (k + 1) (((zs.take (k + 1)).map lowByte).map (Value.int .u8)) := by
        rw [List.take_succ_eq_append_getElem (by omega)]
        have e : x = zs[k] := by rw [HX.out]; simp [List.getElem?_eq_getElem (show k < zs.length by omega)]
        rw [e] at hown'
        rw [List.map_append, List.map_append]
        simpa [lowByte] using hown'
      clear hown' hgrow hown hnx
      go_wp2
      go_roundw
      case rel => exact ⟨k + 1, by omega, by go_num, hown2, hb1⟩
      case measure => simp [intOf]; omega
    · have hkl : k = len := by omega
      subst hkl
      clear hcx hc
      rcases owned_cells hown with ⟨hv, hn⟩ | ⟨g, cap', hv, _, hcl⟩
      · have hcv := run_convert_bytes_nil (P := Try.prog) wr 55 5 Try.underlying55 Try.underlying5 0 0 9 Try.underlying9
        subst hv
        clear hown
        have hz : zs = [] := by simpa [List.take_of_length_le (Nat.le_of_eq hlen)] using hn
        subst hz
        go_wp2
        go_ret
        exact ⟨rfl, hnx⟩
      · have hcv := run_convert_bytes_arg (P := Try.prog) wr 55 5 Try.underlying55 Try.underlying5 g 0 k cap' _ (by simp; omega) hcl 9 Try.underlying9
        rw [List.take_of_length_le (Nat.le_of_eq hlen)] at hcv
        subst hv
        clear hown hcl
        go_wp2
        go_ret
        exact ⟨rfl, hnx⟩

/-- of one number -/
theorem bytes_one (x : Int) (b off cap : Nat) (w : World) (hbB : b < w.heap.size) (hc : w.cell? ⟨b, off, none⟩ = some (.int .i64 x)) :
    Calls Try.prog 19 #[.slice (some ⟨b, off, none⟩) 1 cap] w fun e w' => e = .returned (.string (strOfNums [lowByte x])) ∧ Below w.heap.size w w' :=
  bytes_any [x] b off 1 cap w rfl (by omega) hbB (fun i hi => by
    have h0 : i = 0 := by omega
    subst h0
    exact hc)

set_option maxHeartbeats 1000000 in
theorem big_any (n : Nat) (k : Nat) (w : World) (hk : k ≤ 8) (hn : n ≤ 9223372036854775807) :
    Calls Try.prog 18 #[.int .i64 n, .int .i64 k] w fun e w' => e = .returned (.string (strOfNums (bigL n k))) ∧ Below w.heap.size w w' := by
  go_enter Try.func18, Try.ntmps18
  go_wp2
  go_loopw [0, 5, 6] (fun m s i wr => ∃ j : Nat, j ≤ k ∧ i = .int .i64 j ∧ m = .int .i64 (n / 256 ^ j : Nat) ∧ s = .string (strOfNums (bigL n j)) ∧ Below w.heap.size w wr)
    (fun _ _ i _ => k - (intOf i).toNat)
  case atStart => exact ⟨0, Nat.zero_le _, rfl, by simp, rfl, Below.refl _ _⟩
  case round =>
    obtain ⟨j, hj, rfl, rfl, rfl, hnx⟩ := hrel
    obtain ⟨m, hm⟩ : ∃ m, m = n / 256 ^ j := ⟨_, rfl⟩
    have hmle : m ≤ 9223372036854775807 := by rw [hm]; exact Nat.le_trans (Nat.div_le_self _ _) hn
    rw [← hm]
    have HM : Hid (m = n / 256 ^ j) := hm
    clear hm
    by_cases hlt : j < k
    · have hsz1 : (strOfNums [(m : Int) % 256]).size ≤ 1 := by simp [strOfNums_size]
      have hsz2 : (strOfNums (bigL n j)).size ≤ 8 := by rw [strOfNums_size, bigL_length]; omega
      go_wp2_with fail
      refine (bytes_one ((m : Int) % 256) _ _ _ _ (by simp) (by simp)).mono ?_
      rintro e w1 ⟨rfl, hb1⟩
      rw [lowByte_mod]
      have hb2 : Below w.heap.size w w1 := (hnx.alloc hnx.size _).trans (hb1.mono (by have := hnx.size; simp; omega))
      clear hnx hb1
      go_wp2
      go_roundw
      case rel =>
        refine ⟨j + 1, by omega, by go_num, ?_, ?_, hb2⟩
        · rw [HM.out, Nat.pow_succ, ← Nat.div_div_eq_div_mul]; rfl
        · rw [strOfNums_append]; simp only [bigL, List.singleton_append, ← HM.out]; rfl
      case measure => simp [intOf]; omega
    · have hkl : j = k := by omega
      subst hkl
      go_wp2
      go_ret
      exact ⟨rfl, hnx⟩

end Go.Proofs.Ytolicaaifhfhcaa
