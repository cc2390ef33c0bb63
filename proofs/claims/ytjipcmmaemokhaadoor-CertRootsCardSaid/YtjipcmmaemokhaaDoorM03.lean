/- Hex digits read: fromHex of the law's. -/
import Derived.Test.YtjipcmmaemokhaaDoorM00
import Derived.Test.YtjipcmmaemokhaaDoorM02
import Derived.Deep.RegionHeld3
import Derived.Deep.RegionLaw
import Derived.Deep.AppendLies
import Derived.Deep.CutBlock
import Derived.Deep.DeepCutAuto
namespace Go.Proofs.YtjipcmmaemokhaaDoor
open Go.RowKit
set_option linter.unusedVariables false
set_option linter.unusedSimpArgs false
set_option maxRecDepth 100000

def isHex (c : Nat) : Bool := (Nat.ble 48 c && Nat.ble c 57) || (Nat.ble 97 c && Nat.ble c 102)
theorem isHex_iff (c : Nat) : isHex c = true ↔ (48 ≤ c ∧ c ≤ 57) ∨ (97 ≤ c ∧ c ≤ 102) := by unfold isHex; simp [Nat.ble_eq]
def digN1 (c : Nat) : Nat := if 97 ≤ c then c - 87 else c - 48
theorem digN1_lt (c : Nat) (h : isHex c = true) : digN1 c < 16 := by
  rw [isHex_iff] at h
  unfold digN1
  split <;> omega
theorem digit_any (c : Nat) (hc : isHex c = true) (w : World) : Calls Tryd.prog 12 #[.int .u8 c] w fun e w' => e = .returned (.int .u8 (digN1 c)) ∧ w' = w := by
  rw [isHex_iff] at hc
  unfold digN1
  by_cases h : 97 ≤ c
  · have h1 : (97 : Int) ≤ (c : Int) := by omega
    have h2 : (c : Int) ≤ 102 := by omega
    rw [if_pos h, show (((c - 87 : Nat)) : Int) = (c : Int) - 97 + 10 by omega]
    have he : ((c : Int) - 97 + 10) % 256 = (c : Int) - 97 + 10 := by omega
    have he2 : ((c : Int) - 97) % 256 = (c : Int) - 97 := by omega
    clear h hc
    go_enter Tryd.func12, Tryd.ntmps12
    go_wp2
    go_ret
    exact ⟨by first | rfl | (simp [*]), rfl⟩
  · have h1 : ¬ (97 : Int) ≤ (c : Int) := by omega
    have h2 : (c : Int) ≤ 57 := by omega
    have h3 : (48 : Int) ≤ (c : Int) := by omega
    rw [if_neg h, show (((c - 48 : Nat)) : Int) = (c : Int) - 48 by omega]
    have he : ((c : Int) - 48) % 256 = (c : Int) - 48 := by omega
    have he2 : ((c : Int) + 208) % 256 = (c : Int) - 48 := by omega
    clear h hc
    go_enter Tryd.func12, Tryd.ntmps12
    go_wp2
    go_ret
    exact ⟨by first | rfl | (simp [*]), rfl⟩
/-- two digits, one byte -/
def hexL : List UInt8 → List Int
  | a :: b :: l => ((digN1 a.toNat * 16 + digN1 b.toNat : Nat) : Int) :: hexL l
  | _ => []
theorem hexL_snoc (k : Nat) : ∀ (l : List UInt8) (h : 2 * k + 1 < l.length), hexL (l.take (2 * k + 2)) = hexL (l.take (2 * k)) ++ [((digN1 (l[2 * k]'(by omega)).toNat * 16 + digN1 (l[2 * k + 1]'h).toNat : Nat) : Int)] := by
  induction k with
  | zero =>
    intro l h
    cases l with
    | nil => simp at h
    | cons a l =>
      cases l with
      | nil => simp at h
      | cons b l => simp [hexL]
  | succ k ih =>
    intro l h
    cases l with
    | nil => simp at h
    | cons a l =>
      cases l with
      | nil => simp at h
      | cons b l =>
        have h' : 2 * k + 1 < l.length := by simp at h; omega
        have e := ih l h'
        have e1 : (a :: b :: l).take (2 * (k + 1) + 2) = a :: b :: l.take (2 * k + 2) := rfl
        have e2 : (a :: b :: l).take (2 * (k + 1)) = a :: b :: l.take (2 * k) := rfl
        rw [e1, e2, hexL, hexL, e]
        rfl
theorem hexL_length (l : List UInt8) (k : Nat) (h : 2 * k ≤ l.length) : (hexL (l.take (2 * k))).length = k := by
  induction k with
  | zero => simp [hexL]
  | succ k ih => rw [show 2 * (k + 1) = 2 * k + 2 by omega, hexL_snoc k l (by omega), List.length_append, ih (by omega)]; rfl
theorem byteR (st : ByteArray) (i : Nat) (x : UInt8) (hx : st.data.toList[i]? = some x) (wx : World) : (Instr.index 9 (.string st) (.int .i64 (i : Int))).run Tryd.prog wx = .ok (.int .u8 x.toNat) wx := by
  have hi : i < st.size := by
    have := (List.getElem?_eq_some_iff.1 hx).1
    simpa using this
  rw [run_index_string wx 9 st .i64 (i : Int) Tryd.underlying9, dif_pos ⟨by omega, by omega⟩]
  have e : st[(i : Int).toNat]'(by simpa using hi) = x := by
    have h2 := (List.getElem?_eq_some_iff.1 hx).2
    have h3 : st.data[i]'hi = x := by simpa using h2
    exact h3
  simp only [e]
theorem or_hex (a b : Nat) (ha : a < 16) (hb : b < 16) : bits .or .u8 ((a * 16 : Nat) : Int) (b : Nat) = ((a * 16 + b : Nat) : Int) := by
  rw [or_nat .u8 8 (by decide) (fun n h0 h1 => by rw [IntKind.wrap_u8]; omega) _ _ (by omega) (by omega), show a * 16 = a * 2 ^ 4 by omega, or_add _ _ 4 (by omega)]
theorem wrapR (n : Int) (h₀ : 0 ≤ n) (h₁ : n < 2 ^ 63) : IntKind.i64.wrap n = n := by
  rw [IntKind.wrap_i64]
  omega
set_option maxHeartbeats 2000000 in
theorem fromHex_any (s : ByteArray) (m : Nat) (hm : s.size = 2 * m) (hs : m ≤ 1000) (hh : ∀ c, c ∈ s.data.toList → isHex c.toNat = true) (w : World) :
    Calls Tryd.prog 9 #[.string s] w fun e w' => e = .returned (.string (strOfNums (hexL s.data.toList))) ∧ Below w.heap.size w w' := by
  obtain ⟨i0, hi, hz0, hz1, hz2⟩ := info_parts infoByte
  have HD : Hid (∀ c, isHex c = true → ∀ W, Calls Tryd.prog 12 #[.int .u8 c] W fun e w' => e = .returned (.int .u8 (digN1 c)) ∧ w' = W) := hide (fun c h W => digit_any c h W)
  have HH := hide hh
  clear hh
  go_enter Tryd.func9, Tryd.ntmps9
  go_wp2
  go_loopw [3, 4] (fun v i wr => ∃ k : Nat, k ≤ m ∧ i = .int .i64 ((2 * k : Nat) : Int) ∧ wr.ownsRow w.heap.size 5 1 v k ((hexL (s.data.toList.take (2 * k))).map (Value.int .u8)) ∧ Below w.heap.size w wr)
    (fun _ i _ => 2 * m - (intOf i).toNat)
  case atStart => exact ⟨0, Nat.zero_le _, rfl, World.ownsRow_nil _ _ _ _, Below.refl _ _⟩
  case round =>
    obtain ⟨k, hk, rfl, hown, hnx⟩ := hrel
    by_cases hlt : k < m
    · have hlen : s.data.toList.length = 2 * m := by simpa using hm
      have HSN := hide (hexL_snoc k s.data.toList (by omega))
      obtain ⟨x, hx⟩ : ∃ x, x = s.data.toList[2 * k]'(by omega) := ⟨_, rfl⟩
      obtain ⟨y, hy⟩ : ∃ y, y = s.data.toList[2 * k + 1]'(by omega) := ⟨_, rfl⟩
      have hx' : s.data.toList[2 * k]? = some x := by rw [hx]; exact List.getElem?_eq_getElem _
      have hy' : s.data.toList[2 * k + 1]? = some y := by rw [hy]; exact List.getElem?_eq_getElem _
      have hX := unhide HH x (List.mem_of_getElem? hx')
      have hY := unhide HH y (List.mem_of_getElem? hy')
      rw [← hx, ← hy] at HSN
      have lx := digN1_lt _ hX
      have ly := digN1_lt _ hY
      have i1 := fun wx => byteR s (2 * k) x hx' wx
      have i2 := fun wx => byteR s (2 * k + 1) y hy' wx
      have j1 : ∀ h, ((s[2 * k]'h).toNat : Int) = (x.toNat : Int) := fun h => by
        have h3 : s.data.toList[2 * k]'(by simpa using h) = x := (List.getElem?_eq_some_iff.1 hx').2
        have h4 : s[2 * k]'h = x := by rw [← h3]; simp; rfl
        rw [h4]
      have j2 : ∀ h, ((s[2 * k + 1]'h).toNat : Int) = (y.toNat : Int) := fun h => by
        have h3 : s.data.toList[2 * k + 1]'(by simpa using h) = y := (List.getElem?_eq_some_iff.1 hy').2
        have h4 : s[2 * k + 1]'h = y := by rw [← h3]; simp; rfl
        rw [h4]
      clear i1 i2
      have D1 := hide (fun W => unhide HD x.toNat hX W)
      have D2 := hide (fun W => unhide HD y.toNat hY W)
      have hor : Hid (bits .or .u8 ((digN1 x.toNat * 16 : Nat) : Int) (digN1 y.toNat : Nat) = ((digN1 x.toNat * 16 + digN1 y.toNat : Nat) : Int)) := hide (or_hex _ _ lx ly)
      clear hx hy hx' hy' hX hY
      have hlt' := hlt
      generalize hp : 2 * k = p at *
      have hp2 : (p : Int) ≤ 2000 := by omega
      have hp3 : (p : Int) < (s.size : Int) := by omega
      have hp4 : (p : Int) + 1 < (s.size : Int) := by omega
      have hp5 : p + 1 < s.size := by omega
      have hp6 : p < s.size := by omega
      have hw1 : wrap64 ((p : Int) + 1) = (p : Int) + 1 := by unfold wrap64; omega
      have hw2 : IntKind.i64.wrap ((p : Int) + 1) = (p : Int) + 1 := wrapR _ (by omega) (by omega)
      have hw3 : (0 : Int) ≤ (p : Int) + 1 := by omega
      have hw4 : wrap64 ((p : Int) + 2) = (p : Int) + 2 := by unfold wrap64; omega
      have HP := hide hp
      clear hp
      have HM : Hid (k + 1 ≤ maxLen) := hide (by unfold maxLen; omega)
      have HBY : Hid ((k + 1) * 1 ≤ 140737488355328) := hide (by omega)
      have HBS := hide hnx.size
      generalize digN1 x.toNat = dx at *
      generalize digN1 y.toNat = dy at *
      have hs1 : (dx : Int) * 16 % 256 = (dx : Int) * 16 := by omega
      have hs2 : IntKind.u8.wrap ((dx : Int) * 16) = (dx : Int) * 16 := by rw [IntKind.wrap_u8]; omega
      have ho := unhide hor
      rw [show (((dx * 16 : Nat)) : Int) = (dx : Int) * 16 by omega] at ho
      go_upto_region 5 with fail
      go_region_held3 (fun w' => wr.heap.size ≤ w'.heap.size)
        (first | (simp; done) | (simp; omega) | assumption | (have hq := hgrow.size; simp at hq; omega))
        ((first
          | (go_at_call_of 12 (Value.int .u8 (x.toNat : Int)); refine (unhide D1 _).mono ?_; rintro e z1 ⟨rfl, q1⟩; have q1' := q1.symm; subst q1')
          | (go_at_call_of 12 (Value.int .u8 (y.toNat : Int)); refine (unhide D2 _).mono ?_; rintro e z2 ⟨rfl, q2⟩; have q2' := q2.symm; subst q2')
          | (refine step_append_lies _ (by rfl) _ _ _ (by rfl) w.heap.size 5 i0 _ 1 1 Tryd.underlying41 hi hz0 hz1 hz2 rfl (by omega) _ _ _ (by rfl) (hown.drew.alloc _) ⟨wr.heap.size, 0, none⟩ 1 1 [.int .u8 ((dx * 16 + dy : Nat) : Int)] (by rfl) (by rfl) (World.news_of_block (heap_alloc_new _ _)) (by simp [Value.oneCell']) (by omega) (unhide HM) (unhide HBY) (by simp; have := unhide HBS; omega) (wr.heap.size + 1) (by simp) ?_; intro g cap' w3 own3 hgrow hat3 hlt3)))
      all_goals
        have hb1 : Below w.heap.size w w3 := ((hnx.alloc hnx.size _).drew).grown hgrow (by have := hnx.size; simp; omega) (fun q hq => ((hown.lt q hq).1))
        have hown2 : w3.ownsRow w.heap.size 5 1 (.slice (some ⟨g, 0, none⟩) (k + 1) cap') (k + 1) ((hexL (s.data.toList.take (2 * (k + 1)))).map (Value.int .u8)) := by
          rw [show 2 * (k + 1) = p + 2 by have := unhide HP; omega, unhide HSN, List.map_append]
          exact own3
        have HPK : Hid ((p : Int) + 2 = ((2 * (k + 1) : Nat) : Int)) := hide (by have := unhide HP; omega)
        clear own3 hgrow hat3 hlt3 hown hnx
        go_wp2
        go_roundw
        case rel => exact ⟨k + 1, by omega, by rw [← unhide HPK], hown2, hb1⟩
        case measure => simp [intOf]; omega
    · have hkl : k = m := by omega
      subst hkl
      have htk : s.data.toList.take (2 * k) = s.data.toList := List.take_of_length_le (by simp; omega)
      rw [htk] at hown
      have hge : ¬ ((2 * k : Nat) : Int) < (s.size : Int) := by omega
      have hle : (s.size : Int) ≤ ((2 * k : Nat) : Int) := by omega
      have hLl : (hexL s.data.toList).length = k := by
        have := hexL_length s.data.toList k (by simp; omega)
        rwa [htk] at this
      obtain ⟨L, hL⟩ : ∃ L, L = hexL s.data.toList := ⟨_, rfl⟩
      rw [← hL] at hown hLl
      have HL := hide hL
      clear hL htk
      generalize hp : 2 * k = p at *
      clear hp
      rcases owned_cells hown with ⟨hv, hn⟩ | ⟨g, cap', hv, _, hcl⟩
      · have hcv := run_convert_bytes_nil (P := Tryd.prog) wr 41 5 Tryd.underlying41 Tryd.underlying5 0 0 9 Tryd.underlying9
        subst hv
        subst hn
        clear hown
        go_wp2
        go_ret
        exact ⟨by rw [← unhide HL]; rfl, hnx⟩
      · have hcv := run_convert_bytes_arg (P := Tryd.prog) wr 41 5 Tryd.underlying41 Tryd.underlying5 g 0 k cap' _ hLl hcl 9 Tryd.underlying9
        subst hv
        clear hown hcl
        go_wp2
        go_ret
        exact ⟨by rw [← unhide HL]; rfl, hnx⟩
end Go.Proofs.YtjipcmmaemokhaaDoor
namespace Go.Proofs.YtjipcmmaemokhaaDoor
open Go.RowKit
set_option linter.unusedVariables false

/-- 2^64 -/
def B64 : Nat := 18446744073709551616
theorem B64_pos : 0 < B64 := by unfold B64; decide
/-- the number of a list of words, the low one first -/
def natW : List Nat → Nat
  | [] => 0
  | x :: r => x + B64 * natW r
def okW (l : List Nat) : Prop := ∀ x ∈ l, x < B64
theorem okW_nil : okW [] := fun x hx => by cases hx
theorem okW_get {l : List Nat} (h : okW l) {i x : Nat} (hi : l[i]? = some x) : x < B64 := h x (List.mem_of_getElem? hi)
theorem okW_append {a b : List Nat} (ha : okW a) (hb : okW b) : okW (a ++ b) := fun x hx => by
  rcases List.mem_append.1 hx with h | h
  · exact ha x h
  · exact hb x h
theorem okW_take {a : List Nat} (h : okW a) (n : Nat) : okW (a.take n) := fun x hx => h x (List.mem_of_mem_take hx)
theorem okW_drop {a : List Nat} (h : okW a) (n : Nat) : okW (a.drop n) := fun x hx => h x (List.mem_of_mem_drop hx)
theorem okW_set {a : List Nat} (h : okW a) (i x : Nat) (hx : x < B64) : okW (a.set i x) := fun y hy => by
  rcases List.mem_or_eq_of_mem_set hy with h1 | h1
  · exact h y h1
  · rw [h1]; exact hx
theorem okW_zeros (n : Nat) : okW (List.replicate n 0) := fun x hx => by
  rw [(List.mem_replicate.1 hx).2]; exact B64_pos
theorem natW_append (a b : List Nat) : natW (a ++ b) = natW a + B64 ^ a.length * natW b := by
  induction a with
  | nil => simp [natW]
  | cons x r ih =>
    simp only [List.cons_append, natW, List.length_cons, Nat.pow_succ, ih]
    grind
theorem natW_lt {l : List Nat} (h : okW l) : natW l < B64 ^ l.length := by
  induction l with
  | nil => simp [natW]
  | cons x r ih =>
    have hx := h x (by simp)
    have hr := ih (fun y hy => h y (by simp [hy]))
    simp only [natW, List.length_cons, Nat.pow_succ]
    have h2 : B64 * (natW r + 1) ≤ B64 * B64 ^ r.length := Nat.mul_le_mul_left _ hr
    have h3 : B64 * (natW r + 1) = B64 * natW r + B64 := by rw [Nat.mul_add, Nat.mul_one]
    have h4 : B64 ^ r.length * B64 = B64 * B64 ^ r.length := Nat.mul_comm _ _
    omega
theorem natW_zeros (n : Nat) : natW (List.replicate n 0) = 0 := by
  induction n with
  | zero => rfl
  | succ n ih => simp [List.replicate_succ, natW, ih]
theorem natW_take_succ (l : List Nat) (i x : Nat) (h : l[i]? = some x) : natW (l.take (i + 1)) = natW (l.take i) + x * B64 ^ i := by
  have hi : i < l.length := by
    rcases Nat.lt_or_ge i l.length with h' | h'
    · exact h'
    · rw [List.getElem?_eq_none h'] at h; cases h
  rw [List.take_add_one, h, natW_append, List.length_take, Nat.min_eq_left (by omega)]
  simp [natW, Nat.mul_comm]
theorem natW_inj {a : List Nat} : ∀ {b : List Nat}, okW a → okW b → a.length = b.length → natW a = natW b → a = b := by
  induction a with
  | nil => intro b _ _ hl _; cases b with
    | nil => rfl
    | cons y t => simp at hl
  | cons x r ih =>
    intro b ha hb hl h
    cases b with
    | nil => simp at hl
    | cons y t =>
      have hx := ha x (by simp)
      have hy := hb y (by simp)
      simp only [natW] at h
      unfold B64 at hx hy h
      have e1 : x = y := by omega
      have e2 : natW r = natW t := by omega
      rw [e1, ih (fun z hz => ha z (by simp [hz])) (fun z hz => hb z (by simp [hz])) (by simpa using hl) e2]
theorem natW_split (l : List Nat) (k : Nat) (h : k ≤ l.length) : natW l = natW (l.take k) + B64 ^ k * natW (l.drop k) := by
  conv => lhs; rw [← List.take_append_drop k l]
  rw [natW_append, List.length_take, Nat.min_eq_left h]

/-- a digit of n times x, added to t, with what is over -/
def digN (x n o t : Nat) : Nat := x * n + o + t
theorem dig_lt (x n o t : Nat) (hx : x < B64) (hn : n < B64) (ho : o < B64) (ht : t < B64) : digN x n o t < B64 * B64 := by
  have h1 : x * n ≤ (B64 - 1) * (B64 - 1) := Nat.mul_le_mul (by omega) (by omega)
  have h2 : (B64 - 1) * (B64 - 1) = 340282366920938463426481119284349108225 := by unfold B64; rfl
  have h3 : B64 * B64 = 340282366920938463463374607431768211456 := by unfold B64; rfl
  unfold digN
  unfold B64 at ho ht
  omega
theorem dig_low (p o t : Nat) : (t + (p % B64 + o) % B64) % B64 = (p + o + t) % B64 := by unfold B64; omega
theorem dig_over (p o t : Nat) (ho : o < B64) (ht : t < B64) : p / B64 + (p % B64 + o) / B64 + (t + (p % B64 + o) % B64) / B64 = (p + o + t) / B64 := by unfold B64 at *; omega
theorem add_stepW (a o b c n d x t : Nat) (h : a + o * b = c + n * d) : a + digN x n o t % B64 * b + digN x n o t / B64 * (b * B64) = c + t * b + n * (d + x * b) := by
  have hq := Nat.div_add_mod (digN x n o t) B64
  generalize digN x n o t % B64 = r at *
  generalize digN x n o t / B64 = q at *
  unfold digN at hq
  grind
end Go.Proofs.YtjipcmmaemokhaaDoor
