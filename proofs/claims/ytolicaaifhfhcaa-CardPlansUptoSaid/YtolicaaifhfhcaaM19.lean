/- once of the program: a number below twice the modulus, modulo it. -/
import Derived.Test.YtolicaaifhfhcaaM18
import Derived.Deep.RegionWith
namespace Go.Proofs.Ytolicaaifhfhcaa
open Go.RowKit Go.Shelf
set_option linter.unusedVariables false

def sub64E : Array Value → Sem Value := fun args => do
  let (x, y, b) ← Extern.MathBitsCarry.three "Sub64" args
  pure (Extern.MathBitsCarry.pair ((x + Extern.MathBitsCarry.m64 - y - b) % Extern.MathBitsCarry.m64) (if x < y + b then 1 else 0))
theorem run_sub64E {P : Program} (x y b : Nat) (hb : b ≤ 1) (w : World) :
    (sub64E #[.int .u64 x, .int .u64 y, .int .u64 b]).run P w =
      .ok (.tuple #[.int .u64 (((x + 18446744073709551616 - y - b) % 18446744073709551616 : Nat) : Int), .int .u64 ((if x < y + b then 1 else 0 : Nat) : Int)]) w := by
  have : b = 0 ∨ b = 1 := by omega
  rcases this with rfl | rfl <;> rfl

theorem sub_key (B x y b : Nat) (hx : x < B) (hy : y < B) (hb : b ≤ 1) : (x + B - y - b) % B + y + b = x + (if x < y + b then 1 else 0) * B := by
  split
  · rename_i h
    rw [Nat.mod_eq_of_lt (by omega), Nat.one_mul]
    omega
  · rename_i h
    have e : x + B - y - b = (x - y - b) + B := by omega
    rw [e, Nat.add_mod_right, Nat.mod_eq_of_lt (by omega), Nat.zero_mul]
    omega
/-- a difference, and what is borrowed -/
def subD (x y b : Nat) : Nat := (x + B64 - y - b) % B64
def subC (x y b : Nat) : Nat := if x < y + b then 1 else 0
theorem subD_lt (x y b : Nat) : subD x y b < B64 := Nat.mod_lt _ B64_pos
theorem subC_le (x y b : Nat) : subC x y b ≤ 1 := by unfold subC; split <;> omega
theorem subD_key (x y b : Nat) (hx : x < B64) (hy : y < B64) (hb : b ≤ 1) : subD x y b + y + b = x + subC x y b * B64 := by
  unfold subD subC
  generalize B64 = B at *
  exact sub_key B x y b hx hy hb
theorem sub_ring (a m t x y b d c P B : Nat) (hs : a + m = t + b * P) (key : d + y + b = x + c * B) : a + P * d + (m + y * P) = t + x * P + c * (P * B) := by grind
theorem sub_sum (a m t x y b d c P : Nat) (hs : a + m = t + b * P) (key : d + y + b = x + c * B64) : a + P * natW [d] + (m + y * P) = t + x * P + c * (P * B64) := by
  have e : natW [d] = d := by simp [natW]
  rw [e]
  exact sub_ring a m t x y b d c P B64 hs key
/-- behind i words -/
structure SubAt (ts ms : List Nat) (i : Nat) (u : List Nat) (b : Nat) : Prop where
  ok : okW u
  sum : natW (u.take i) + natW (ms.take i) = natW (ts.take i) + b * B64 ^ i
  le : b ≤ 1
theorem SubAt.step {ts ms : List Nat} {i b x y : Nat} {u : List Nat} (h : SubAt ts ms i u b) (hx : ts[i]? = some x) (hy : ms[i]? = some y) (hi : i < u.length) (hxb : x < B64) (hyb : y < B64) :
    SubAt ts ms (i + 1) (u.set i (subD x y b)) (subC x y b) := by
  refine ⟨okW_set h.ok _ _ (subD_lt x y b), ?_, subC_le x y b⟩
  rw [take_set u i _ hi, natW_append, natW_take_succ ts i x hx, natW_take_succ ms i y hy, List.length_take, Nat.min_eq_left (Nat.le_of_lt hi), Nat.pow_succ]
  exact sub_sum (natW (u.take i)) (natW (ms.take i)) (natW (ts.take i)) x y b (subD x y b) (subC x y b) (B64 ^ i) h.sum (subD_key x y b hxb hyb h.le)
/-- the modulus as a value -/
def modV (gm om mn mc : Nat) (inv : Nat) (sq : Value) : Value := .agg #[.slice (some ⟨gm, om, none⟩) mn mc, .int .u64 (inv : Nat), sq]

theorem once_low {ts ms u : List Nat} {b top : Nat} (hm : okW ms) (hts : okW ts) (hl : ts.length = ms.length + 1) (hu : u.length = ms.length) (h : SubAt ts ms ms.length u b) (htop : ts[ms.length]? = some top) (hT : natW ts < 2 * natW ms) :
    (top < b → natW (ts.take ms.length) = natW ts % natW ms) ∧ (¬ top < b → natW u = natW ts % natW ms) := by
  have hs := h.sum
  rw [List.take_of_length_le (Nat.le_of_eq hu), List.take_of_length_le (Nat.le_refl ms.length)] at hs
  have e : natW ts = natW (ts.take ms.length) + top * B64 ^ ms.length := by
    rw [← natW_take_succ ts ms.length top htop, List.take_of_length_le (by omega)]
  have hml := natW_lt hm
  have hul := natW_lt h.ok
  rw [hu] at hul
  have htl := natW_lt (okW_take hts ms.length)
  rw [List.length_take, hl, Nat.min_eq_left (by omega)] at htl
  have hb := h.le
  generalize B64 ^ ms.length = P at *
  generalize natW (ts.take ms.length) = tl at *
  generalize natW u = un at *
  generalize natW ms = m at *
  rw [e] at hT ⊢
  have hm0 : 0 < m := by omega
  constructor
  · intro hlt
    have hb1 : b = 1 := by omega
    have ht0 : top = 0 := by omega
    subst hb1 ht0
    rw [Nat.zero_mul, Nat.add_zero, Nat.mod_eq_of_lt (by omega)]
  · intro hge
    have htop1 : top ≤ 1 := by
      rcases Nat.lt_or_ge 1 top with h2 | h2
      · have : 2 * P ≤ top * P := Nat.mul_le_mul_right _ h2
        omega
      · exact h2
    have hbt : b = top := by
      rcases Nat.lt_or_ge b top with h2 | h2
      · have hb0 : b = 0 := by omega
        have ht1 : top = 1 := by omega
        subst hb0 ht1
        omega
      · omega
    subst hbt
    have hge2 : m ≤ tl + b * P := by omega
    rw [Nat.mod_eq_sub_mod hge2, Nat.mod_eq_of_lt (by omega)]
    omega

end Go.Proofs.Ytolicaaifhfhcaa
namespace Go.Proofs.Ytolicaaifhfhcaa
open Go.RowKit Go.Shelf
set_option linter.unusedVariables false

/-- what makes the low word 0 -/
def zeroBy (t inv : Nat) : Nat := t * inv % B64
theorem zeroBy_lt (t inv : Nat) : zeroBy t inv < B64 := Nat.mod_lt _ B64_pos
theorem zero_low (B t m0 inv M U : Nat) (hB : 0 < B) (hU : U % B = t % B) (hM : M % B = m0 % B) (hi : (m0 * inv + 1) % B = 0) : (U + t * inv % B * M) % B = 0 := by
  have e : (U + t * inv % B * M) % B = (t + t * inv * m0) % B := by
    rw [Nat.add_mod, Nat.mul_mod, Nat.mod_mod, hU, hM, ← Nat.mul_mod, ← Nat.add_mod]
  rw [e, show t + t * inv * m0 = t * (m0 * inv + 1) by grind, Nat.mul_mod, hi, Nat.mul_zero, Nat.zero_mod]
/-- behind i rounds -/
structure MontAt (xs ys ms : List Nat) (n i : Nat) (row : List Nat) (q : Nat) : Prop where
  len : row.length = 2 * n + 1
  ok : okW row
  sum : natW row = natW xs * natW (ys.take i) + q * natW ms
  low : natW (row.take i) = 0
  lt : q < B64 ^ i
theorem mont_lt (X M Y q P D : Nat) (hP : 0 < P) (hM : 0 < M) (hY : Y < P) (hq : q < P) (h : P * D = X * Y + q * M) : D < X + M := by
  rcases Nat.lt_or_ge D (X + M) with h1 | h1
  · exact h1
  · have h2 : P * (X + M) ≤ P * D := Nat.mul_le_mul_left _ h1
    have h3 : X * Y ≤ X * P := Nat.mul_le_mul_left _ (Nat.le_of_lt hY)
    have h4 : q * M + M ≤ P * M := by
      have : (q + 1) * M ≤ P * M := Nat.mul_le_mul_right _ hq
      rw [Nat.add_mul, Nat.one_mul] at this
      exact this
    have h5 : P * (X + M) = X * P + P * M := by rw [Nat.mul_add, Nat.mul_comm P X]
    omega
theorem MontAt.drop_lt {xs ys ms : List Nat} {n i q : Nat} {row : List Nat} (h : MontAt xs ys ms n i row q) (hy : okW ys) (hyl : ys.length = n) (hi : i ≤ n) (hM : 0 < natW ms) : natW (row.drop i) < natW xs + natW ms := by
  have e := natW_split row i (by rw [h.len]; omega)
  rw [h.low, Nat.zero_add, h.sum] at e
  have hY : natW (ys.take i) < B64 ^ i := by
    have := natW_lt (okW_take hy i)
    rw [List.length_take, hyl, Nat.min_eq_left hi] at this
    exact this
  exact mont_lt _ _ _ _ _ _ (Nat.pow_pos B64_pos) hM hY h.lt e.symm
theorem pow_room (P : Nat) (hP : 0 < P) (a b c d : Nat) (ha : a < 2 * P) (hb : b ≤ (B64 - 1) * P) (hc : c ≤ (B64 - 1) * P) : a + b + c < P * B64 * B64 := by
  have h1 : (B64 - 1) * P + P = P * B64 := by
    rw [Nat.sub_mul, Nat.one_mul, Nat.mul_comm P]
    have : P ≤ B64 * P := Nat.le_mul_of_pos_left _ B64_pos
    omega
  have h2 : P * B64 * 2 ≤ P * B64 * B64 := Nat.mul_le_mul_left _ (by unfold B64; decide)
  omega
/-- the low word of a number -/
theorem natW_mod (l : List Nat) (x : Nat) (h : l[0]? = some x) (hx : x < B64) : natW l % B64 = x := by
  cases l with
  | nil => cases h
  | cons y r =>
    simp only [List.getElem?_cons_zero, Option.some.injEq] at h
    subst h
    rw [natW, Nat.add_mul_mod_self_left, Nat.mod_eq_of_lt hx]
theorem MontAt.step {xs ys ms u1 u2 : List Nat} {n i q y t m0 inv : Nat} {row : List Nat} (h : MontAt xs ys ms n i row q) (hi : i < n) (hy : ys[i]? = some y) (hm0 : ms[0]? = some m0) (hms : okW ms) (hinv : (m0 * inv + 1) % B64 = 0)
    (hu1 : natW u1 = natW (row.drop i) + y * natW xs) (ht : u1[0]? = some t) (hok1 : okW u1) (hok2 : okW u2) (hl2 : u2.length = 2 * n + 1 - i) (hu2 : natW u2 = natW u1 + zeroBy t inv * natW ms) :
    MontAt xs ys ms n (i + 1) (row.take i ++ u2) (q + zeroBy t inv * B64 ^ i) := by
  have hrl := h.len
  have htl : (row.take i).length = i := by rw [List.length_take]; omega
  have e := natW_split row i (by omega)
  have hlow := h.low
  have hsum := h.sum
  rw [hlow, Nat.zero_add] at e
  have hz : natW u2 % B64 = 0 := by
    rw [hu2]
    exact zero_low B64 t m0 inv (natW ms) (natW u1) B64_pos (by rw [natW_mod u1 t ht (okW_get hok1 ht), Nat.mod_eq_of_lt (okW_get hok1 ht)]) (by rw [natW_mod ms m0 hm0 (okW_get hms hm0), Nat.mod_eq_of_lt (okW_get hms hm0)]) hinv
  have h0 : 0 < u2.length := by omega
  obtain ⟨v, hv⟩ : ∃ v, u2[0]? = some v := ⟨u2[0], List.getElem?_eq_getElem h0⟩
  have hv0 : v = 0 := by rw [← natW_mod u2 v hv (okW_get hok2 hv)]; exact hz
  refine ⟨by rw [List.length_append, htl, hl2]; omega, okW_append (okW_take h.ok i) hok2, ?_, ?_, ?_⟩
  · rw [natW_append, htl, hlow, Nat.zero_add, natW_take_succ ys i y hy, hu2, hu1]
    generalize zeroBy t inv = z at *
    generalize natW (row.drop i) = D at *
    generalize natW (ys.take i) = Y at *
    generalize natW row = R at *
    generalize natW xs = X at *
    generalize natW ms = M at *
    generalize B64 ^ i = P at *
    clear hz hu1 hu2 hlow h
    grind
  · have e2 : (row.take i ++ u2).take (i + 1) = row.take i ++ u2.take 1 := by
      rw [List.take_append, htl, List.take_of_length_le (by rw [htl]; omega), Nat.add_sub_cancel_left]
    have e3 : u2.take 1 = [v] := by
      have := List.take_add_one (l := u2) (i := 0)
      rw [hv] at this
      simpa using this
    rw [e2, natW_append, hlow, e3, hv0]
    simp [natW]
  · have hz2 := zeroBy_lt t inv
    have hq := h.lt
    rw [Nat.pow_succ]
    generalize zeroBy t inv = z at *
    generalize B64 ^ i = P at *
    have : (z + 1) * P ≤ B64 * P := Nat.mul_le_mul_right _ hz2
    rw [Nat.add_mul, Nat.one_mul, Nat.mul_comm B64] at this
    omega
theorem natW_drop_eq {row : List Nat} {i : Nat} (h : i ≤ row.length) (hlow : natW (row.take i) = 0) : natW row = B64 ^ i * natW (row.drop i) := by
  have := natW_split row i h
  rw [hlow, Nat.zero_add] at this
  exact this
end Go.Proofs.Ytolicaaifhfhcaa
namespace Go.Proofs.Ytolicaaifhfhcaa
open Go.RowKit Go.Shelf
set_option linter.unusedVariables false

theorem NumAt.from {w w' : World} {g off B : Nat} {ws : List Nat} (h : NumAt w g off ws) (hb : Below B w w') (hg : g < B) (hB : B ≤ w'.heap.size) : NumAt w' g off ws :=
  ⟨by omega, fun i x hi => (hb.cell (p := ⟨g, off + i, none⟩) hg).trans (h.2 i x hi)⟩
theorem NumAt.drewN1 {w : World} {g off : Nat} {ws : List Nat} (h : NumAt w g off ws) : NumAt w.drew g off ws := h
theorem wrapMulN (a b c : Nat) (h : a * b % B64 = c) : IntKind.u64.wrap ((a : Int) * (b : Int)) = (c : Int) := by
  rw [← h, ← Int.natCast_mul, Mul64.wrapM]
  rfl
theorem mont_end (X Y M q P D : Nat) (h : X * Y + q * M = P * D) : D % M * P % M = X * Y % M := by
  rw [Nat.mul_mod, Nat.mod_mod, ← Nat.mul_mod, Nat.mul_comm D, ← h, Nat.add_mul_mod_self_right]

end Go.Proofs.Ytolicaaifhfhcaa
namespace Go.Proofs.Ytolicaaifhfhcaa
open Go.RowKit Go.Shelf
set_option linter.unusedVariables false

theorem two_room (X P : Nat) (hP : 0 < P) (h : X < P) : 2 * X < P * B64 := by
  have : P * 2 ≤ P * B64 := Nat.mul_le_mul_left _ (by unfold B64; decide)
  omega
end Go.Proofs.Ytolicaaifhfhcaa
namespace Go.Proofs.Ytolicaaifhfhcaa
open Go.RowKit Go.Shelf
set_option linter.unusedVariables false

theorem valN_consN (b : UInt8) (l : List UInt8) : valN (b :: l) = b.toNat * 256 ^ l.length + valN l := by
  have h : ∀ (l : List UInt8) (a : Nat), l.foldl (fun n b => n * 256 + b.toNat) a = a * 256 ^ l.length + l.foldl (fun n b => n * 256 + b.toNat) 0 := by
    intro l
    induction l with
    | nil => intro a; simp
    | cons b l ih =>
      intro a
      rw [List.foldl_cons, List.foldl_cons, List.length_cons, ih (a * 256 + b.toNat), ih (0 * 256 + b.toNat), Nat.pow_succ, Nat.add_mul]
      rw [show a * 256 * 256 ^ l.length = a * (256 ^ l.length * 256) by rw [Nat.mul_assoc, Nat.mul_comm 256], Nat.zero_mul, Nat.zero_add, Nat.add_assoc]
  show (b :: l).foldl _ 0 = _
  rw [List.foldl_cons, h]
  simp [valN]
/-- the number of the last i bytes -/
def lowV (l : List UInt8) (i : Nat) : Nat := valN (l.drop (l.length - i))
theorem lowV_zero (l : List UInt8) : lowV l 0 = 0 := by simp [lowV, valN]
theorem lowV_whole (l : List UInt8) : lowV l l.length = valN l := by simp [lowV]
theorem lowV_lt (l : List UInt8) (i : Nat) (h : i ≤ l.length) : lowV l i < 256 ^ i := by
  have := valN_lt (l.drop (l.length - i))
  rw [List.length_drop, show l.length - (l.length - i) = i by omega] at this
  exact this
theorem lowV_step (l : List UInt8) (i : Nat) (c : UInt8) (h : l[l.length - 1 - i]? = some c) (hi : i < l.length) : lowV l (i + 1) = c.toNat * 256 ^ i + lowV l i := by
  unfold lowV
  have hk : l.length - (i + 1) < l.length := by omega
  have hc : l[l.length - (i + 1)] = c := by
    rw [show l.length - 1 - i = l.length - (i + 1) by omega, List.getElem?_eq_getElem hk] at h
    exact Option.some.inj h
  rw [List.drop_eq_getElem_cons hk, valN_consN, hc, show l.length - (i + 1) + 1 = l.length - i by omega, List.length_drop, show l.length - (l.length - i) = i by omega]
theorem natW_set (l : List Nat) : ∀ (q x w : Nat), l[q]? = some w → natW (l.set q x) + w * B64 ^ q = natW l + x * B64 ^ q := by
  induction l with
  | nil => intro q x w h; cases h
  | cons y r ih =>
    intro q x w h
    cases q with
    | zero =>
      simp only [List.getElem?_cons_zero, Option.some.injEq] at h
      subst h
      simp only [List.set_cons_zero, natW, Nat.pow_zero, Nat.mul_one]
      omega
    | succ q =>
      simp only [List.getElem?_cons_succ] at h
      have := ih q x w h
      simp only [List.set_cons_succ, natW, Nat.pow_succ]
      generalize natW (r.set q x) = a at *
      generalize natW r = b at *
      generalize B64 ^ q = P at *
      generalize B64 = B at *
      grind
theorem natW_ge (l : List Nat) : ∀ (q w : Nat), l[q]? = some w → w * B64 ^ q ≤ natW l := by
  intro q w h
  have := natW_set l q 0 w h
  rw [Nat.zero_mul, Nat.add_zero] at this
  omega
theorem pow_256W (q r : Nat) : 256 ^ (8 * q + r) = B64 ^ q * 2 ^ (8 * r) := by
  have h1 : (256 : Nat) = 2 ^ 8 := rfl
  have h2 : B64 = 2 ^ 64 := rfl
  rw [h1, h2, ← Nat.pow_mul, ← Nat.pow_mul, ← Nat.pow_add]
  congr 1
  omega
/-- a byte put into a row of words -/
theorem put_byte {row : List Nat} {V i q r c w : Nat} (hi : i = 8 * q + r) (hr : r < 8) (hc : c < 256) (hrow : natW row = V) (hV : V < 256 ^ i) (hw : row[q]? = some w) :
    w < 2 ^ (8 * r) ∧ w + c * 2 ^ (8 * r) < B64 ∧ natW (row.set q (w + c * 2 ^ (8 * r))) = V + c * 256 ^ i := by
  have hge := natW_ge row q w hw
  have hp : 0 < B64 ^ q := Nat.pow_pos B64_pos
  rw [hi, pow_256W] at hV
  have h1 : w < 2 ^ (8 * r) := by
    rcases Nat.lt_or_ge w (2 ^ (8 * r)) with h | h
    · exact h
    · have : 2 ^ (8 * r) * B64 ^ q ≤ w * B64 ^ q := Nat.mul_le_mul_right _ h
      rw [Nat.mul_comm] at this
      omega
  have h2 : w + c * 2 ^ (8 * r) < B64 := by
    have h3 : c * 2 ^ (8 * r) + 2 ^ (8 * r) ≤ 256 * 2 ^ (8 * r) := by
      have : (c + 1) * 2 ^ (8 * r) ≤ 256 * 2 ^ (8 * r) := Nat.mul_le_mul_right _ hc
      rw [Nat.add_mul, Nat.one_mul] at this
      exact this
    have h4 : 256 * 2 ^ (8 * r) ≤ B64 := by
      have h256 : (256 : Nat) = 2 ^ 8 := rfl
      have hB : B64 = 2 ^ 64 := rfl
      rw [h256, hB, ← Nat.pow_add]
      exact Nat.pow_le_pow_right (by decide) (by omega)
    omega
  refine ⟨h1, h2, ?_⟩
  have := natW_set row q (w + c * 2 ^ (8 * r)) w hw
  rw [hi, pow_256W]
  generalize 2 ^ (8 * r) = E at *
  generalize B64 ^ q = P at *
  rw [hrow] at this
  grind
theorem or_u64W (a b k : Nat) (ha : a < 2 ^ k) (hb : b * 2 ^ k < B64) (hs : a + b * 2 ^ k < B64) : bits .or .u64 (a : Int) ((b * 2 ^ k : Nat) : Int) = ((a + b * 2 ^ k : Nat) : Int) := by
  have hB : B64 = 2 ^ 64 := rfl
  have e : a ||| b * 2 ^ k = a + b * 2 ^ k := by
    have := Nat.shiftLeft_add_eq_or_of_lt ha b
    rw [Nat.shiftLeft_eq] at this
    rw [Nat.or_comm, ← this, Nat.add_comm]
  have hx : a < B64 := by omega
  have h := bits_or_u64_nat a (b * 2 ^ k) hx hb
  rw [e] at h
  exact h
end Go.Proofs.Ytolicaaifhfhcaa
