/- Hex digits read: fromHex of the law's. -/
import Derived.Test.YtckkhpegimkefaaGreatDoorM00
import Derived.Deep.RegionHeld3
import Derived.Deep.RegionLaw
import Derived.Deep.AppendLies
import Derived.Deep.CutBlock
import Derived.Deep.DeepCutAuto
import Derived.Test.YtckkhpegimkefaaGreatDoorM39
namespace Go.Proofs.YtckkhpegimkefaaGreatDoor
open Go.RowKit
set_option linter.unusedVariables false
set_option linter.unusedSimpArgs false
set_option maxRecDepth 100000

def isHex (c : Nat) : Bool := (Nat.ble 48 c && Nat.ble c 57) || (Nat.ble 97 c && Nat.ble c 102)
theorem isHex_iff (c : Nat) : isHex c = true ↔ (48 ≤ c ∧ c ≤ 57) ∨ (97 ≤ c ∧ c ≤ 102) := by unfold isHex; simp [Nat.ble_eq]
def digN1 (c : Nat) : Nat := if 97 ≤ c then c - 87 else c - 48
theorem digN1_lt (c : Nat) (h : isHex c = true) : digN1 c < 16 := by
  rw [isHex_iff] at h
  unfold digN1
  split <;> omega
theorem digit_any (c : Nat) (hc : isHex c = true) (w : World) : Calls Tryz.prog 43 #[.int .u8 c] w fun e w' => e = .returned (.int .u8 (digN1 c)) ∧ w' = w := by
  rw [isHex_iff] at hc
  unfold digN1
  by_cases h : 97 ≤ c
  · have h1 : (97 : Int) ≤ (c : Int) := by omega
    have h2 : (c : Int) ≤ 102 := by omega
    rw [if_pos h, show (((c - 87 : Nat)) : Int) = (c : Int) - 97 + 10 by omega]
    have he : ((c : Int) - 97 + 10) % 256 = (c : Int) - 97 + 10 := by omega
    have he2 : ((c : Int) - 97) % 256 = (c : Int) - 97 := by omega
    clear h hc
    go_enter Tryz.func43, Tryz.ntmps43
    go_wp2
    go_ret
    exact ⟨by first | rfl | (simp [*]), rfl⟩
  · have h1 : ¬ (97 : Int) ≤ (c : Int) := by omega
    have h2 : (c : Int) ≤ 57 := by omega
    have h3 : (48 : Int) ≤ (c : Int) := by omega
    rw [if_neg h, show (((c - 48 : Nat)) : Int) = (c : Int) - 48 by omega]
    have he : ((c : Int) - 48) % 256 = (c : Int) - 48 := by omega
    have he2 : ((c : Int) + 208) % 256 = (c : Int) - 48 := by omega
    clear h hc
    go_enter Tryz.func43, Tryz.ntmps43
    go_wp2
    go_ret
    exact ⟨by first | rfl | (simp [*]), rfl⟩
/-- two digits, one byte -/
def hexL : List UInt8 → List Int
  | a :: b :: l => ((digN1 a.toNat * 16 + digN1 b.toNat : Nat) : Int) :: hexL l
  | _ => []
theorem hexL_snoc (k : Nat) : ∀ (l : List UInt8) (h : 2 * k + 1 < l.length), hexL (l.take (2 * k + 2)) = hexL (l.take (2 * k)) ++ [((digN1 (l[2 * k]'(by omega)).toNat * 16 + digN1 (l[2 * k + 1]'h).toNat : Nat) : Int)] := by
  induction k with
  | zero =>
    intro l h
    cases l with
    | nil => simp at h
    | cons a l =>
      cases l with
      | nil => simp at h
      | cons b l => simp [hexL]
  | succ k ih =>
    intro l h
    cases l with
    | nil => simp at h
    | cons a l =>
      cases l with
      | nil => simp at h
      | cons b l =>
        have h' : 2 * k + 1 < l.length := by simp at h; omega
        have e := ih l h'
        have e1 : (a :: b :: l).take (2 * (k + 1) + 2) = a :: b :: l.take (2 * k + 2) := rfl
        have e2 : (a :: b :: l).take (2 * (k + 1)) = a :: b :: l.take (2 * k) := rfl
        rw [e1, e2, hexL, hexL, e]
        rfl
theorem hexL_length (l : List UInt8) (k : Nat) (h : 2 * k ≤ l.length) : (hexL (l.take (2 * k))).length = k := by
  induction k with
  | zero => simp [hexL]
  | succ k ih => rw [show 2 * (k + 1) = 2 * k + 2 by omega, hexL_snoc k l (by omega), List.length_append, ih (by omega)]; rfl
theorem byteR (st : ByteArray) (i : Nat) (x : UInt8) (hx : st.data.toList[i]? = some x) (wx : World) : (Instr.index 9 (.string st) (.int .i64 (i : Int))).run Tryz.prog wx = .ok (.int .u8 x.toNat) wx := by
  have hi : i < st.size := by
    have := (List.getElem?_eq_some_iff.1 hx).1
    simpa using this
  rw [run_index_string wx 9 st .i64 (i : Int) Tryz.underlying9, dif_pos ⟨by omega, by omega⟩]
  have e : st[(i : Int).toNat]'(by simpa using hi) = x := by
    have h2 := (List.getElem?_eq_some_iff.1 hx).2
    have h3 : st.data[i]'hi = x := by simpa using h2
    exact h3
  simp only [e]
theorem or_hex (a b : Nat) (ha : a < 16) (hb : b < 16) : bits .or .u8 ((a * 16 : Nat) : Int) (b : Nat) = ((a * 16 + b : Nat) : Int) := by
  rw [or_nat .u8 8 (by decide) (fun n h0 h1 => by rw [IntKind.wrap_u8]; omega) _ _ (by omega) (by omega), show a * 16 = a * 2 ^ 4 by omega, or_add _ _ 4 (by omega)]
theorem wrapR (n : Int) (h₀ : 0 ≤ n) (h₁ : n < 2 ^ 63) : IntKind.i64.wrap n = n := by
  rw [IntKind.wrap_i64]
  omega
set_option maxHeartbeats 2000000 in
theorem fromHex_any (s : ByteArray) (m : Nat) (hm : s.size = 2 * m) (hs : m ≤ 1000) (hh : ∀ c, c ∈ s.data.toList → isHex c.toNat = true) (w : World) :
    Calls Tryz.prog 23 #[.string s] w fun e w' => e = .returned (.string (strOfNums (hexL s.data.toList))) ∧ Below w.heap.size w w' := by
  obtain ⟨i0, hi, hz0, hz1, hz2⟩ := info_parts infoByte
  have HD : Hid (∀ c, isHex c = true → ∀ W, Calls Tryz.prog 43 #[.int .u8 c] W fun e w' => e = .returned (.int .u8 (digN1 c)) ∧ w' = W) := hide (fun c h W => digit_any c h W)
  have HH := hide hh
  clear hh
  go_enter Tryz.func23, Tryz.ntmps23
  go_wp2
  go_loopw [3, 4] (fun v i wr => ∃ k : Nat, k ≤ m ∧ i = .int .i64 ((2 * k : Nat) : Int) ∧ wr.ownsRow w.heap.size 5 1 v k ((hexL (s.data.toList.take (2 * k))).map (Value.int .u8)) ∧ Below w.heap.size w wr)
    (fun _ i _ => 2 * m - (intOf i).toNat)
  case atStart => exact ⟨0, Nat.zero_le _, rfl, World.ownsRow_nil _ _ _ _, Below.refl _ _⟩
  case round =>
    obtain ⟨k, hk, rfl, hown, hnx⟩ := hrel
    by_cases hlt : k < m
    · have hlen : s.data.toList.length = 2 * m := by simpa using hm
      have HSN := hide (hexL_snoc k s.data.toList (by omega))
      obtain ⟨x, hx⟩ : ∃ x, x = s.data.toList[2 * k]'(by omega) := ⟨_, rfl⟩
      obtain ⟨y, hy⟩ : ∃ y, y = s.data.toList[2 * k + 1]'(by omega) := ⟨_, rfl⟩
      have hx' : s.data.toList[2 * k]? = some x := by rw [hx]; exact List.getElem?_eq_getElem _
      have hy' : s.data.toList[2 * k + 1]? = some y := by rw [hy]; exact List.getElem?_eq_getElem _
      have hX := unhide HH x (List.mem_of_getElem? hx')
      have hY := unhide HH y (List.mem_of_getElem? hy')
      rw [← hx, ← hy] at HSN
      have lx := digN1_lt _ hX
      have ly := digN1_lt _ hY
      have i1 := fun wx => byteR s (2 * k) x hx' wx
      have i2 := fun wx => byteR s (2 * k + 1) y hy' wx
      have j1 : ∀ h, ((s[2 * k]'h).toNat : Int) = (x.toNat : Int) := fun h => by
        have h3 : s.data.toList[2 * k]'(by simpa using h) = x := (List.getElem?_eq_some_iff.1 hx').2
        have h4 : s[2 * k]'h = x := by rw [← h3]; simp; rfl
        rw [h4]
      have j2 : ∀ h, ((s[2 * k + 1]'h).toNat : Int) = (y.toNat : Int) := fun h => by
        have h3 : s.data.toList[2 * k + 1]'(by simpa using h) = y := (List.getElem?_eq_some_iff.1 hy').2
        have h4 : s[2 * k + 1]'h = y := by rw [← h3]; simp; rfl
        rw [h4]
      clear i1 i2
      have D1 := hide (fun W => unhide HD x.toNat hX W)
      have D2 := hide (fun W => unhide HD y.toNat hY W)
      have hor : Hid (bits .or .u8 ((digN1 x.toNat * 16 : Nat) : Int) (digN1 y.toNat : Nat) = ((digN1 x.toNat * 16 + digN1 y.toNat : Nat) : Int)) := hide (or_hex _ _ lx ly)
      clear hx hy hx' hy' hX hY
      have hlt' := hlt
      generalize hp : 2 * k = p at *
      have hp2 : (p : Int) ≤ 2000 := by omega
      have hp3 : (p : Int) < (s.size : Int) := by omega
      have hp4 : (p : Int) + 1 < (s.size : Int) := by omega
      have hp5 : p + 1 < s.size := by omega
      have hp6 : p < s.size := by omega
      have hw1 : wrap64 ((p : Int) + 1) = (p : Int) + 1 := by unfold wrap64; omega
      have hw2 : IntKind.i64.wrap ((p : Int) + 1) = (p : Int) + 1 := wrapR _ (by omega) (by omega)
      have hw3 : (0 : Int) ≤ (p : Int) + 1 := by omega
      have hw4 : wrap64 ((p : Int) + 2) = (p : Int) + 2 := by unfold wrap64; omega
      have HP := hide hp
      clear hp
      have HM : Hid (k + 1 ≤ maxLen) := hide (by unfold maxLen; omega)
      have HBY : Hid ((k + 1) * 1 ≤ 140737488355328) := hide (by omega)
      have HBS := hide hnx.size
      generalize digN1 x.toNat = dx at *
      generalize digN1 y.toNat = dy at *
      have hs1 : (dx : Int) * 16 % 256 = (dx : Int) * 16 := by omega
      have hs2 : IntKind.u8.wrap ((dx : Int) * 16) = (dx : Int) * 16 := by rw [IntKind.wrap_u8]; omega
      have ho := unhide hor
      rw [show (((dx * 16 : Nat)) : Int) = (dx : Int) * 16 by omega] at ho
      go_upto_region 5 with fail
      go_region_held3 (fun w' => wr.heap.size ≤ w'.heap.size)
        (first | (simp; done) | (simp; omega) | assumption | (have hq := hgrow.size; simp at hq; omega))
        ((first
          | (go_at_call_of 43 (Value.int .u8 (x.toNat : Int)); refine (unhide D1 _).mono ?_; rintro e z1 ⟨rfl, q1⟩; have q1' := q1.symm; subst q1')
          | (go_at_call_of 43 (Value.int .u8 (y.toNat : Int)); refine (unhide D2 _).mono ?_; rintro e z2 ⟨rfl, q2⟩; have q2' := q2.symm; subst q2')
          | (refine step_append_lies _ (by rfl) _ _ _ (by rfl) w.heap.size 5 i0 _ 1 1 Tryz.underlying43 hi hz0 hz1 hz2 rfl (by omega) _ _ _ (by rfl) (hown.drew.alloc _) ⟨wr.heap.size, 0, none⟩ 1 1 [.int .u8 ((dx * 16 + dy : Nat) : Int)] (by rfl) (by rfl) (World.news_of_block (heap_alloc_new _ _)) (by simp [Value.oneCell']) (by omega) (unhide HM) (unhide HBY) (by simp; have := unhide HBS; omega) (wr.heap.size + 1) (by simp) ?_; intro g cap' w3 own3 hgrow hat3 hlt3)))
      all_goals
        have hb1 : Below w.heap.size w w3 := ((hnx.alloc hnx.size _).drew).grown hgrow (by have := hnx.size; simp; omega) (fun q hq => ((hown.lt q hq).1))
        have hown2 : w3.ownsRow w.heap.size 5 1 (.slice (some ⟨g, 0, none⟩) (k + 1) cap') (k + 1) ((hexL (s.data.toList.take (2 * (k + 1)))).map (Value.int .u8)) := by
          rw [show 2 * (k + 1) = p + 2 by have := unhide HP; omega, unhide HSN, List.map_append]
          exact own3
        have HPK : Hid ((p : Int) + 2 = ((2 * (k + 1) : Nat) : Int)) := hide (by have := unhide HP; omega)
        clear own3 hgrow hat3 hlt3 hown hnx
        go_wp2
        go_roundw
        case rel => exact ⟨k + 1, by omega, by rw [← unhide HPK], hown2, hb1⟩
        case measure => simp [intOf]; omega
    · have hkl : k = m := by omega
      subst hkl
      have htk : s.data.toList.take (2 * k) = s.data.toList := List.take_of_length_le (by simp; omega)
      rw [htk] at hown
      have hge : ¬ ((2 * k : Nat) : Int) < (s.size : Int) := by omega
      have hle : (s.size : Int) ≤ ((2 * k : Nat) : Int) := by omega
      have hLl : (hexL s.data.toList).length = k := by
        have := hexL_length s.data.toList k (by simp; omega)
        rwa [htk] at this
      obtain ⟨L, hL⟩ : ∃ L, L = hexL s.data.toList := ⟨_, rfl⟩
      rw [← hL] at hown hLl
      have HL := hide hL
      clear hL htk
      generalize hp : 2 * k = p at *
      clear hp
      rcases owned_cells hown with ⟨hv, hn⟩ | ⟨g, cap', hv, _, hcl⟩
      · have hcv := run_convert_bytes_nil (P := Tryz.prog) wr 43 5 Tryz.underlying43 Tryz.underlying5 0 0 9 Tryz.underlying9
        subst hv
        subst hn
        clear hown
        go_wp2
        go_ret
        exact ⟨by rw [← unhide HL]; rfl, hnx⟩
      · have hcv := run_convert_bytes_arg (P := Tryz.prog) wr 43 5 Tryz.underlying43 Tryz.underlying5 g 0 k cap' _ hLl hcl 9 Tryz.underlying9
        subst hv
        clear hown hcl
        go_wp2
        go_ret
        exact ⟨by rw [← unhide HL]; rfl, hnx⟩
end Go.Proofs.YtckkhpegimkefaaGreatDoor
namespace Go.Proofs.YtckkhpegimkefaaGreatDoor.Prim
/-- a power modulo m, bit by bit -/
def pwm (m : Nat) : Nat → Nat → Nat → Nat
  | 0, _, _ => 1 % m
  | f + 1, b, e => bif e == 0 then 1 % m else bif e % 2 == 0 then pwm m f (b * b % m) (e / 2) else pwm m f (b * b % m) (e / 2) * b % m
theorem pwm_eq (m : Nat) : ∀ f b e, e < 2 ^ f → pwm m f b e = b ^ e % m
  | 0, b, e, h => by
    have : e = 0 := by omega
    rw [this, Nat.pow_zero]; rfl
  | f + 1, b, e, h => by
    have hlt : e / 2 < 2 ^ f := by rw [Nat.pow_succ] at h; omega
    have hsq : (b * b % m) ^ (e / 2) % m = b ^ (2 * (e / 2)) % m := by
      rw [← Nat.pow_mod, Nat.pow_mul, Nat.pow_two]
    unfold pwm
    cases he : e == 0 with
    | true =>
      rw [beq_iff_eq] at he
      rw [he, Nat.pow_zero]; rfl
    | false =>
      cases he2 : e % 2 == 0 with
      | true =>
        rw [beq_iff_eq] at he2
        simp only [cond_false, cond_true]
        rw [pwm_eq m f _ _ hlt, hsq]
        congr 2
        omega
      | false =>
        have he3 : e % 2 ≠ 0 := fun h => by rw [h] at he2; simp at he2
        simp only [cond_false]
        rw [pwm_eq m f _ _ hlt, hsq, Nat.mul_mod, Nat.mod_mod, ← Nat.mul_mod, ← Nat.pow_succ]
        congr 2
        omega
/-- a number with a root of D beside it, so often multiplied -/
def lucA (D u v : Nat) : Nat → Nat × Nat
  | 0 => (1, 0)
  | n + 1 => ((lucA D u v n).1 * u + D * ((lucA D u v n).2 * v), (lucA D u v n).1 * v + (lucA D u v n).2 * u)
theorem lucA_add (D u v m : Nat) : ∀ n, lucA D u v (m + n) = ((lucA D u v m).1 * (lucA D u v n).1 + D * ((lucA D u v m).2 * (lucA D u v n).2), (lucA D u v m).1 * (lucA D u v n).2 + (lucA D u v m).2 * (lucA D u v n).1)
  | 0 => by simp [lucA]
  | n + 1 => by
    rw [← Nat.add_assoc, lucA, lucA_add D u v m n]
    simp only [lucA, Prod.mk.injEq]
    constructor <;> grind
theorem lucA_mul (D u v m : Nat) : ∀ n, lucA D u v (m * n) = lucA D (lucA D u v m).1 (lucA D u v m).2 n
  | 0 => rfl
  | n + 1 => by rw [Nat.mul_succ, lucA_add, lucA_mul D u v m n]; rfl
/-- its norm -/
theorem lucA_norm (D u v : Nat) : ∀ n, (((lucA D u v n).1 : Int) * (lucA D u v n).1 - D * ((lucA D u v n).2 * (lucA D u v n).2)) = ((u : Int) * u - D * (v * v)) ^ n
  | 0 => by simp [lucA]
  | n + 1 => by
    rw [Int.pow_succ, ← lucA_norm D u v n]
    simp only [lucA]
    generalize (lucA D u v n).1 = a
    generalize (lucA D u v n).2 = b
    push_cast
    grind
/-- alike modulo r, both -/
def Alike (r : Nat) (x y : Nat × Nat) : Prop := x.1 % r = y.1 % r ∧ x.2 % r = y.2 % r
theorem mulmod {a b c d r : Nat} (h1 : a % r = c % r) (h2 : b % r = d % r) : a * b % r = c * d % r := by rw [Nat.mul_mod, h1, h2, ← Nat.mul_mod]
theorem addmod {a b c d r : Nat} (h1 : a % r = c % r) (h2 : b % r = d % r) : (a + b) % r = (c + d) % r := by rw [Nat.add_mod, h1, h2, ← Nat.add_mod]
theorem lucA_alike (r D u v u' v' : Nat) (hu : u % r = u' % r) (hv : v % r = v' % r) : ∀ n, Alike r (lucA D u v n) (lucA D u' v' n)
  | 0 => ⟨rfl, rfl⟩
  | n + 1 => by
    obtain ⟨h1, h2⟩ := lucA_alike r D u v u' v' hu hv n
    exact ⟨addmod (mulmod h1 hu) (mulmod rfl (mulmod h2 hv)), addmod (mulmod h1 hv) (mulmod h2 hu)⟩
theorem lucA_one (D : Nat) : ∀ n, lucA D 1 0 n = (1, 0)
  | 0 => rfl
  | n + 1 => by rw [lucA, lucA_one D n]; simp
theorem luc_gcd (D u v r m n : Nat) : Alike r (lucA D u v m) (1, 0) → Alike r (lucA D u v n) (1, 0) → Alike r (lucA D u v (Nat.gcd m n)) (1, 0) := by
  induction m, n using Nat.gcd.induction with
  | H0 n => intro _ h; rw [Nat.gcd_zero_left]; exact h
  | H1 m n hm ih =>
    intro h1 h2
    rw [Nat.gcd_rec]
    refine ih ?_ h1
    have e : n = m * (n / m) + n % m := (Nat.div_add_mod n m).symm
    rw [e, lucA_add, lucA_mul] at h2
    have h3 := lucA_alike r D _ _ 1 0 h1.1 h1.2 (n / m)
    rw [lucA_one] at h3
    obtain ⟨a1, a2⟩ := h3
    obtain ⟨b1, b2⟩ := h2
    generalize lucA D (lucA D u v m).1 (lucA D u v m).2 (n / m) = x at *
    generalize lucA D u v (n % m) = y at *
    have c1 := addmod (mulmod a1 (rfl : y.1 % r = y.1 % r)) (mulmod (rfl : D % r = D % r) (mulmod a2 (rfl : y.2 % r = y.2 % r)))
    have c2 := addmod (mulmod a1 (rfl : y.2 % r = y.2 % r)) (mulmod a2 (rfl : y.1 % r = y.1 % r))
    simp only [Nat.one_mul, Nat.zero_mul, Nat.mul_zero, Nat.add_zero] at c1 c2
    exact ⟨c1.symm.trans b1, c2.symm.trans b2⟩
theorem modI {a b r : Nat} (h : (r : Int) ∣ (a : Int) - b) : a % r = b % r := by
  have h1 : ((a : Int) % r) = ((b : Int) % r) := Int.emod_eq_emod_iff_emod_sub_eq_zero.2 (Int.emod_eq_zero_of_dvd h)
  exact_mod_cast h1
theorem dvdI {a b r : Nat} (h : a % r = b % r) : (r : Int) ∣ (a : Int) - b := by
  apply Int.dvd_of_emod_eq_zero
  rw [← Int.emod_eq_emod_iff_emod_sub_eq_zero]
  exact_mod_cast h
theorem dvd_mulI {p : Nat} (hp : IsPrime p) {a b : Int} (h : (p : Int) ∣ a * b) : (p : Int) ∣ a ∨ (p : Int) ∣ b := by
  have h1 : p ∣ a.natAbs * b.natAbs := by
    rw [← Int.natAbs_mul]
    exact Int.ofNat_dvd_left.1 h
  rcases hp.dvd_mul h1 with h | h
  · exact .inl (Int.ofNat_dvd_left.2 h)
  · exact .inr (Int.ofNat_dvd_left.2 h)
/-- LUCAS: an element of norm 1 whose power q, a prime, is 1 -/
theorem lucas (N q D u v : Nat) (hN : 2 ≤ N) (hq : IsPrime q) (hbig : N < ((q + 1) / 2) * ((q + 1) / 2)) (hD : Nat.gcd D N = 1)
    (hn : (u * u) % N = (1 + D * (v * v)) % N) (h1 : Alike N (lucA D u v q) (1, 0)) (hu : Nat.gcd (u + (N - 1)) N = 1) : IsPrime N := by
  refine prime_of N hN fun r hr hd => Nat.lt_of_lt_of_le hbig ?_
  have h2 := hr.1
  have hrD : ¬ r ∣ D := fun h => by
    have := Nat.dvd_gcd h hd
    rw [hD] at this
    have := Nat.le_of_dvd (by decide) this
    omega
  have hrq : Alike r (lucA D u v q) (1, 0) := ⟨mod_of_dvd hd h1.1, mod_of_dvd hd h1.2⟩
  have hnr : (r : Int) ∣ (u : Int) * u - D * (v * v) - 1 := by
    have h := dvdI (mod_of_dvd hd hn)
    push_cast at h
    rwa [show (u : Int) * u - (1 + D * (v * v)) = (u : Int) * u - D * (v * v) - 1 by omega] at h
  -- the norm of each power is 1
  have hnorm : ∀ n, (r : Int) ∣ (((lucA D u v n).1 : Int) * (lucA D u v n).1 - D * ((lucA D u v n).2 * (lucA D u v n).2)) - 1 := by
    intro n
    rw [lucA_norm]
    generalize (u : Int) * u - D * (v * v) = t at *
    induction n with
    | zero => simp
    | succ n ih =>
      have e : t ^ (n + 1) - 1 = (t ^ n - 1) * t + (t - 1) := by rw [Int.pow_succ]; grind
      rw [e]
      exact Int.dvd_add (Int.dvd_mul_of_dvd_left ih) hnr
  -- no lesser power is 1
  have hno : ∀ e, 0 < e → e < q → ¬ Alike r (lucA D u v e) (1, 0) := by
    intro e he heq ha
    have hg := luc_gcd D u v r e q ha hrq
    have hg1 : Nat.gcd e q = 1 := by
      rcases hq.2 _ (Nat.gcd_dvd_right e q) with h | h
      · exact h
      · have := Nat.le_of_dvd he (Nat.gcd_dvd_left e q)
        omega
    rw [hg1] at hg
    have hu1 : u % r = 1 % r := by simpa [lucA] using hg.1
    have hdv : r ∣ u + (N - 1) := by
      apply Nat.dvd_of_mod_eq_zero
      rw [addmod hu1 rfl, show 1 + (N - 1) = N by omega]
      exact Nat.mod_eq_zero_of_dvd hd
    have := Nat.dvd_gcd hdv hd
    rw [hu] at this
    have := Nat.le_of_dvd (by decide) this
    omega
  have hle : (q + 1) / 2 ≤ r := by
    refine pigeon r ((q + 1) / 2) (fun i => (lucA D u v i).1 % r) (fun i _ => Nat.mod_lt _ (by omega)) (fun i j hij hj he => ?_)
    have hi := hnorm i
    have hjn := hnorm j
    have hea := dvdI he
    have hjd : j = (j - i) + i := by omega
    have hadd := lucA_add D u v (j - i) i
    rw [← hjd] at hadd
    have hadd2 := lucA_add D u v i j
    have hnd := hno (j - i) (by omega) (by omega)
    have hns := hno (i + j) (by omega) (by omega)
    rw [hadd2] at hns
    have ha1 := congrArg Prod.fst hadd
    have ha2 := congrArg Prod.snd hadd
    simp only at ha1 ha2
    generalize lucA D u v (j - i) = z at *
    generalize lucA D u v i = x at *
    generalize lucA D u v j = y at *
    obtain ⟨a, b⟩ := x
    obtain ⟨c, d⟩ := y
    obtain ⟨f, g⟩ := z
    simp only at *
    have hI1 : (c : Int) = f * a + D * (g * b) := by exact_mod_cast ha1
    have hI2 : (d : Int) = f * b + g * a := by exact_mod_cast ha2
    have hprod : (r : Int) ∣ (D : Int) * (((b : Int) - d) * (b + d)) := by
      have e : (D : Int) * (((b : Int) - d) * (b + d)) = (((c : Int) * c - D * (d * d)) - 1) - (((a : Int) * a - D * (b * b)) - 1) + ((a : Int) - c) * (a + c) := by grind
      rw [e]
      exact Int.dvd_add (Int.dvd_sub hjn hi) (Int.dvd_mul_of_dvd_left hea)
    rcases dvd_mulI hr hprod with h | h
    · exact hrD (by exact_mod_cast h)
    · rcases dvd_mulI hr h with h | h
      · apply hnd
        refine ⟨modI ?_, modI ?_⟩
        · have e : (f : Int) - ((1 : Nat) : Int) = ((c : Int) - a) * a - D * ((d - b) * b) + (((a : Int) * a - D * (b * b)) - 1) - f * (((a : Int) * a - D * (b * b)) - 1) := by
            rw [hI1, hI2]; push_cast; grind
          rw [e]
          have hca : (r : Int) ∣ (c : Int) - a := by rw [show (c : Int) - a = -((a : Int) - c) by omega]; exact Int.dvd_neg.2 hea
          have hdb : (r : Int) ∣ (d : Int) - b := by rw [show (d : Int) - b = -((b : Int) - d) by omega]; exact Int.dvd_neg.2 h
          exact Int.dvd_sub (Int.dvd_add (Int.dvd_sub (Int.dvd_mul_of_dvd_left hca) (Int.dvd_mul_of_dvd_right (Int.dvd_mul_of_dvd_left hdb))) hi) (Int.dvd_mul_of_dvd_right hi)
        · have e : (g : Int) - ((0 : Nat) : Int) = (d - b) * a - b * (c - a) - g * (((a : Int) * a - D * (b * b)) - 1) := by
            rw [hI1, hI2]; push_cast; grind
          rw [e]
          have hca : (r : Int) ∣ (c : Int) - a := by rw [show (c : Int) - a = -((a : Int) - c) by omega]; exact Int.dvd_neg.2 hea
          have hdb : (r : Int) ∣ (d : Int) - b := by rw [show (d : Int) - b = -((b : Int) - d) by omega]; exact Int.dvd_neg.2 h
          exact Int.dvd_sub (Int.dvd_sub (Int.dvd_mul_of_dvd_left hdb) (Int.dvd_mul_of_dvd_right hca)) (Int.dvd_mul_of_dvd_right hi)
      · apply hns
        refine ⟨modI ?_, modI ?_⟩
        · have e : ((a * c + D * (b * d) : Nat) : Int) - ((1 : Nat) : Int) = -((a - c) * a) + D * (b * (b + d)) + (((a : Int) * a - D * (b * b)) - 1) := by push_cast; grind
          rw [e]
          exact Int.dvd_add (Int.dvd_add (Int.dvd_neg.2 (Int.dvd_mul_of_dvd_left hea)) (Int.dvd_mul_of_dvd_right (Int.dvd_mul_of_dvd_right h))) hi
        · have e : ((a * d + b * c : Nat) : Int) - ((0 : Nat) : Int) = a * (b + d) - b * (a - c) := by push_cast; grind
          rw [e]
          exact Int.dvd_sub (Int.dvd_mul_of_dvd_right h) (Int.dvd_mul_of_dvd_right hea)
  exact Nat.mul_le_mul hle hle
/-- the same power modulo N, bit by bit -/
def lpw (N D : Nat) : Nat → Nat × Nat → Nat → Nat × Nat
  | 0, _, _ => (1 % N, 0)
  | f + 1, x, e => bif e == 0 then (1 % N, 0) else
    let y := lpw N D f ((x.1 * x.1 + D * (x.2 * x.2)) % N, (x.1 * x.2 + x.2 * x.1) % N) (e / 2)
    bif e % 2 == 0 then y else ((y.1 * x.1 + D * (y.2 * x.2)) % N, (y.1 * x.2 + y.2 * x.1) % N)
theorem alike_trans {r : Nat} {x y z : Nat × Nat} (h1 : Alike r x y) (h2 : Alike r y z) : Alike r x z := ⟨h1.1.trans h2.1, h1.2.trans h2.2⟩
theorem lpw_eq (N D : Nat) : ∀ f x e, e < 2 ^ f → Alike N (lpw N D f x e) (lucA D x.1 x.2 e)
  | 0, x, e, h => by
    have : e = 0 := by omega
    rw [this]
    exact ⟨Nat.mod_mod _ _, rfl⟩
  | f + 1, x, e, h => by
    have hlt : e / 2 < 2 ^ f := by rw [Nat.pow_succ] at h; omega
    have ih := lpw_eq N D f ((x.1 * x.1 + D * (x.2 * x.2)) % N, (x.1 * x.2 + x.2 * x.1) % N) (e / 2) hlt
    have hsq : lucA D x.1 x.2 2 = (x.1 * x.1 + D * (x.2 * x.2), x.1 * x.2 + x.2 * x.1) := by simp [lucA]
    have hmul := lucA_mul D x.1 x.2 2 (e / 2)
    rw [hsq] at hmul
    have ih2 := alike_trans ih (lucA_alike N D _ _ _ _ (Nat.mod_mod _ _) (Nat.mod_mod _ _) (e / 2))
    rw [← hmul] at ih2
    unfold lpw
    cases he : e == 0 with
    | true =>
      rw [beq_iff_eq] at he
      rw [he]
      exact ⟨Nat.mod_mod _ _, rfl⟩
    | false =>
      cases he2 : e % 2 == 0 with
      | true =>
        rw [beq_iff_eq] at he2
        simp only [cond_false, cond_true]
        rw [show 2 * (e / 2) = e by omega] at ih2
        exact ih2
      | false =>
        have he3 : e % 2 ≠ 0 := fun h => by rw [h] at he2; simp at he2
        simp only [cond_false]
        have h1 : lucA D x.1 x.2 (2 * (e / 2) + 1) = ((lucA D x.1 x.2 (2 * (e / 2))).1 * x.1 + D * ((lucA D x.1 x.2 (2 * (e / 2))).2 * x.2), (lucA D x.1 x.2 (2 * (e / 2))).1 * x.2 + (lucA D x.1 x.2 (2 * (e / 2))).2 * x.1) := rfl
        rw [show 2 * (e / 2) + 1 = e by omega] at h1
        rw [h1]
        exact ⟨(Nat.mod_mod _ _).trans (addmod (mulmod ih2.1 rfl) (mulmod rfl (mulmod ih2.2 rfl))), (Nat.mod_mod _ _).trans (addmod (mulmod ih2.1 rfl) (mulmod ih2.2 rfl))⟩
/-- a small prime, by trial -/
def smallB (p : Nat) : Nat → Nat → Bool
  | 0, _ => false
  | f + 1, d => bif Nat.blt p (d * d) then true else bif p % d == 0 then false else smallB p f (d + 1)
theorem small_prime (p f : Nat) (hp : 2 ≤ p) (h : smallB p f 2 = true) : IsPrime p := by
  have key : ∀ f d, smallB p f d = true → (∀ e, 2 ≤ e → e < d → ¬ e ∣ p) → ∀ e, 2 ≤ e → e * e ≤ p → ¬ e ∣ p := by
    intro f
    induction f with
    | zero => intro d h; simp [smallB] at h
    | succ f ih =>
      intro d h hlow e he hee hdv
      unfold smallB at h
      by_cases h1 : p < d * d
      · by_cases hed : e < d
        · exact hlow e he hed hdv
        · have := Nat.mul_le_mul (show d ≤ e by omega) (show d ≤ e by omega)
          omega
      · have hb : Nat.blt p (d * d) = false := by
          rw [Bool.eq_false_iff]
          intro h; exact h1 (Nat.le_of_ble_eq_true h)
        rw [hb, cond_false] at h
        cases hm : p % d == 0 with
        | true => rw [hm] at h; simp at h
        | false =>
          rw [hm, cond_false] at h
          refine ih (d + 1) h (fun e' h2 h3 => ?_) e he hee hdv
          by_cases h4 : e' < d
          · exact hlow e' h2 h4
          · have : e' = d := by omega
            rw [this]
            intro hd
            rw [Nat.mod_eq_zero_of_dvd hd] at hm
            simp at hm
  refine prime_of p hp fun r hr hd => ?_
  have := key f 2 h (fun e h1 h2 => by omega) r hr.1
  by_cases hlt : p < r * r
  · exact hlt
  · exact absurd hd (this (by omega))
/-- the primes of a product of two, of one more -/
theorem prime_dvd_one_more {q a : Nat} {l : List Nat} (hq : IsPrime q) (ha : IsPrime a) (h : q ∣ prodL (a :: l)) : q = a ∨ q ∣ prodL l := by
  rcases hq.dvd_mul h with h | h
  · rcases ha.2 q h with h1 | h1
    · have := hq.1; omega
    · exact .inl h1
  · exact .inr h
theorem prime_of_list {q : Nat} (hq : IsPrime q) : ∀ l : List Nat, (∀ x, x ∈ l → IsPrime x) → q ∣ prodL l → q ∈ l
  | [], _, h => by
    have h1 := Nat.le_of_dvd (show 0 < 1 by decide) (show q ∣ 1 from h)
    have := hq.1
    omega
  | a :: l, ha, h => by
    rcases prime_dvd_one_more hq (ha a (by simp)) h with h | h
    · simp [h]
    · exact List.mem_cons_of_mem _ (prime_of_list hq l (fun x hx => ha x (by simp [hx])) h)
/-- all that Pocklington asks, as one truth that is reckoned -/
def pockB (p b f : Nat) (l : List Nat) : Bool :=
  Nat.ble 2 p && Nat.blt p (prodL l * prodL l) && Nat.blt (prodL l) (2 ^ f) && (pwm p f b (prodL l) == 1 % p) && l.all (fun q => Nat.gcd (pwm p f b (prodL l / q) + (p - 1)) p == 1)
theorem pock_of (p b f : Nat) (l : List Nat) (hl : ∀ x, x ∈ l → IsPrime x) (h : pockB p b f l = true) : IsPrime p := by
  unfold pockB at h
  simp only [Bool.and_eq_true, Nat.ble_eq, beq_iff_eq, List.all_eq_true] at h
  obtain ⟨⟨⟨⟨h1, h2⟩, h3⟩, h4⟩, h5⟩ := h
  have h2' : p < prodL l * prodL l := Nat.le_of_ble_eq_true h2
  have h3' : prodL l < 2 ^ f := Nat.le_of_ble_eq_true h3
  rw [pwm_eq _ _ _ _ h3'] at h4
  refine pocklington p (prodL l) b h1 h2' h4 fun q hq hd => ?_
  have := h5 q (prime_of_list hq l hl hd)
  rw [pwm_eq _ _ _ _ (Nat.lt_of_le_of_lt (Nat.div_le_self _ _) h3')] at this
  exact this
def lucB (N q D u v f : Nat) : Bool :=
  Nat.ble 2 N && Nat.blt N (((q + 1) / 2) * ((q + 1) / 2)) && (Nat.gcd D N == 1) && ((u * u) % N == (1 + D * (v * v)) % N) && Nat.blt q (2 ^ f) && (lpw N D f (u, v) q == (1, 0)) && (Nat.gcd (u + (N - 1)) N == 1)
theorem luc_of (N q D u v f : Nat) (hq : IsPrime q) (h : lucB N q D u v f = true) : IsPrime N := by
  unfold lucB at h
  simp only [Bool.and_eq_true, Nat.ble_eq, beq_iff_eq] at h
  obtain ⟨⟨⟨⟨⟨⟨h1, h2⟩, h3⟩, h4⟩, h5⟩, h6⟩, h7⟩ := h
  have h2' : N < ((q + 1) / 2) * ((q + 1) / 2) := Nat.le_of_ble_eq_true h2
  have h5' : q < 2 ^ f := Nat.le_of_ble_eq_true h5
  refine lucas N q D u v h1 hq h2' h3 h4 ?_ h7
  have := lpw_eq N D f (u, v) q h5'
  rw [h6] at this
  exact ⟨this.1.symm, this.2.symm⟩
end Go.Proofs.YtckkhpegimkefaaGreatDoor.Prim
namespace Go.Proofs.YtckkhpegimkefaaGreatDoor.Prim
set_option maxRecDepth 100000

theorem pr0 : IsPrime 2861 := small_prime _ 56 (by decide) (by decide +kernel)
theorem pr1 : IsPrime 120163 := pock_of _ 81731 13 [2861] (fun x hx => by
    simp only [List.mem_cons, List.not_mem_nil, or_false] at hx
    subst hx
    exact pr0) (by decide +kernel)
theorem pr2 : IsPrime 7209781 := pock_of _ 5280241 18 [120163] (fun x hx => by
    simp only [List.mem_cons, List.not_mem_nil, or_false] at hx
    subst hx
    exact pr1) (by decide +kernel)
theorem pr3 : IsPrime 72097811 := pock_of _ 1024 24 [7209781] (fun x hx => by
    simp only [List.mem_cons, List.not_mem_nil, or_false] at hx
    subst hx
    exact pr2) (by decide +kernel)
theorem pr4 : IsPrime 576782489 := pock_of _ 256 28 [72097811] (fun x hx => by
    simp only [List.mem_cons, List.not_mem_nil, or_false] at hx
    subst hx
    exact pr3) (by decide +kernel)
theorem pr5 : IsPrime 10382084803 := pock_of _ 262144 31 [576782489] (fun x hx => by
    simp only [List.mem_cons, List.not_mem_nil, or_false] at hx
    subst hx
    exact pr4) (by decide +kernel)
theorem pr6 : IsPrime 539868409757 := pock_of _ 17353177602 35 [10382084803] (fun x hx => by
    simp only [List.mem_cons, List.not_mem_nil, or_false] at hx
    subst hx
    exact pr5) (by decide +kernel)
theorem pr7 : IsPrime 16196052292711 := pock_of _ 1073741824 40 [539868409757] (fun x hx => by
    simp only [List.mem_cons, List.not_mem_nil, or_false] at hx
    subst hx
    exact pr6) (by decide +kernel)
theorem pr8 : IsPrime 13441104704699787291817 := pock_of _ 8985009472711988570707 45 [16196052292711] (fun x hx => by
    simp only [List.mem_cons, List.not_mem_nil, or_false] at hx
    subst hx
    exact pr7) (by decide +kernel)
theorem pr9 : IsPrime 47973111322532835649969868904345266543 := pock_of _ 24992213893806235488820596507438833108 75 [13441104704699787291817] (fun x hx => by
    simp only [List.mem_cons, List.not_mem_nil, or_false] at hx
    subst hx
    exact pr8) (by decide +kernel)
theorem pr10 : IsPrime 401055210656374506033748104040326428299481 := pock_of _ 197270015177951487337913452430798444840762 127 [47973111322532835649969868904345266543] (fun x hx => by
    simp only [List.mem_cons, List.not_mem_nil, or_false] at hx
    subst hx
    exact pr9) (by decide +kernel)
theorem pr11 : IsPrime 1163834949570474183043526703053952552727969497293 := pock_of _ 446971346827376441294412741235311485107038776217 140 [401055210656374506033748104040326428299481] (fun x hx => by
    simp only [List.mem_cons, List.not_mem_nil, or_false] at hx
    subst hx
    exact pr10) (by decide +kernel)
theorem pr12 : IsPrime 37 := small_prime _ 9 (by decide) (by decide +kernel)
theorem pr13 : IsPrime 19 := small_prime _ 7 (by decide) (by decide +kernel)
theorem pr14 : IsPrime 13 := small_prime _ 6 (by decide) (by decide +kernel)
theorem pr15 : IsPrime 712843 := pock_of _ 174232 15 [37, 19, 13] (fun x hx => by
    simp only [List.mem_cons, List.not_mem_nil, or_false] at hx
    rcases hx with rfl | rfl | rfl
    · exact pr12
    · exact pr13
    · exact pr14) (by decide +kernel)
theorem pr16 : IsPrime 263 := small_prime _ 19 (by decide) (by decide +kernel)
theorem pr17 : IsPrime 173 := small_prime _ 16 (by decide) (by decide +kernel)
theorem pr18 : IsPrime 181997 := pock_of _ 16 17 [263, 173] (fun x hx => by
    simp only [List.mem_cons, List.not_mem_nil, or_false] at hx
    rcases hx with rfl | rfl
    · exact pr16
    · exact pr17) (by decide +kernel)
theorem pr19 : IsPrime 56909 := small_prime _ 241 (by decide) (by decide +kernel)
theorem pr20 : IsPrime 26779631022511456223851 := pock_of _ 11162768466533507465052 54 [712843, 181997, 56909] (fun x hx => by
    simp only [List.mem_cons, List.not_mem_nil, or_false] at hx
    rcases hx with rfl | rfl | rfl
    · exact pr15
    · exact pr18
    · exact pr19) (by decide +kernel)
theorem pr21 : IsPrime 14627 := small_prime _ 123 (by decide) (by decide +kernel)
theorem pr22 : IsPrime 751 := small_prime _ 30 (by decide) (by decide +kernel)
theorem pr23 : IsPrime 1076517947 := pock_of _ 396622055 25 [14627, 751] (fun x hx => by
    simp only [List.mem_cons, List.not_mem_nil, or_false] at hx
    rcases hx with rfl | rfl
    · exact pr21
    · exact pr22) (by decide +kernel)
theorem pr24 : IsPrime 471514860787 := pock_of _ 132228566064 32 [1076517947] (fun x hx => by
    simp only [List.mem_cons, List.not_mem_nil, or_false] at hx
    subst hx
    exact pr23) (by decide +kernel)
theorem pr25 : IsPrime 1288735409101345710672422423992970792392983761309 := pock_of _ 1044346072295551342807344997811597470885914417967 115 [26779631022511456223851, 471514860787] (fun x hx => by
    simp only [List.mem_cons, List.not_mem_nil, or_false] at hx
    rcases hx with rfl | rfl
    · exact pr20
    · exact pr24) (by decide +kernel)
theorem pr26 : IsPrime 1187 := small_prime _ 37 (by decide) (by decide +kernel)
theorem pr27 : IsPrime 853 := small_prime _ 32 (by decide) (by decide +kernel)
theorem pr28 : IsPrime 273377971 := pock_of _ 109101548 21 [1187, 853] (fun x hx => by
    simp only [List.mem_cons, List.not_mem_nil, or_false] at hx
    rcases hx with rfl | rfl
    · exact pr26
    · exact pr27) (by decide +kernel)
theorem pr29 : IsPrime 83 := small_prime _ 12 (by decide) (by decide +kernel)
theorem pr30 : IsPrime 61 := small_prime _ 10 (by decide) (by decide +kernel)
theorem pr31 : IsPrime 364537 := pock_of _ 78911 14 [83, 61] (fun x hx => by
    simp only [List.mem_cons, List.not_mem_nil, or_false] at hx
    rcases hx with rfl | rfl
    · exact pr29
    · exact pr30) (by decide +kernel)
theorem pr32 : IsPrime 262754823034761543617 := pock_of _ 137052909103136109811 48 [273377971, 364537] (fun x hx => by
    simp only [List.mem_cons, List.not_mem_nil, or_false] at hx
    rcases hx with rfl | rfl
    · exact pr28
    · exact pr31) (by decide +kernel)
theorem pr33 : IsPrime 155025345590509310734031 := pock_of _ 18780438568257911883740 69 [262754823034761543617] (fun x hx => by
    simp only [List.mem_cons, List.not_mem_nil, or_false] at hx
    subst hx
    exact pr32) (by decide +kernel)
theorem pr34 : IsPrime 7254692975959248193437119381781908099483772889 := pock_of _ 6145391055014710070692426500050653549521851622 79 [155025345590509310734031] (fun x hx => by
    simp only [List.mem_cons, List.not_mem_nil, or_false] at hx
    subst hx
    exact pr33) (by decide +kernel)
theorem pr35 : IsPrime 281830312730064873818645213743463565848745609191873 := pock_of _ 215803002487867140310432660100432252837676477645199 154 [7254692975959248193437119381781908099483772889] (fun x hx => by
    simp only [List.mem_cons, List.not_mem_nil, or_false] at hx
    subst hx
    exact pr34) (by decide +kernel)
theorem pr36 : IsPrime 929 := small_prime _ 33 (by decide) (by decide +kernel)
theorem pr37 : IsPrime 23 := small_prime _ 7 (by decide) (by decide +kernel)
theorem pr38 : IsPrime 11 := small_prime _ 6 (by decide) (by decide +kernel)
theorem pr39 : IsPrime 575840651 := pock_of _ 211803406 19 [929, 23, 11] (fun x hx => by
    simp only [List.mem_cons, List.not_mem_nil, or_false] at hx
    rcases hx with rfl | rfl | rfl
    · exact pr36
    · exact pr37
    · exact pr38) (by decide +kernel)
theorem pr40 : IsPrime 3095719339777 := pock_of _ 1809143924687 31 [575840651] (fun x hx => by
    simp only [List.mem_cons, List.not_mem_nil, or_false] at hx
    subst hx
    exact pr39) (by decide +kernel)
theorem pr41 : IsPrime 49531509436433 := pock_of _ 65536 43 [3095719339777] (fun x hx => by
    simp only [List.mem_cons, List.not_mem_nil, or_false] at hx
    subst hx
    exact pr40) (by decide +kernel)
theorem pr42 : IsPrime 239930631710081453 := pock_of _ 194556919874828412 47 [49531509436433] (fun x hx => by
    simp only [List.mem_cons, List.not_mem_nil, or_false] at hx
    subst hx
    exact pr41) (by decide +kernel)
theorem pr43 : IsPrime 3041 := small_prime _ 58 (by decide) (by decide +kernel)
theorem pr44 : IsPrime 2086127 := pock_of _ 1978303 13 [3041] (fun x hx => by
    simp only [List.mem_cons, List.not_mem_nil, or_false] at hx
    subst hx
    exact pr43) (by decide +kernel)
theorem pr45 : IsPrime 313 := small_prime _ 20 (by decide) (by decide +kernel)
theorem pr46 : IsPrime 7268725684133 := pock_of _ 5671971285613 31 [2086127, 313] (fun x hx => by
    simp only [List.mem_cons, List.not_mem_nil, or_false] at hx
    rcases hx with rfl | rfl
    · exact pr44
    · exact pr45) (by decide +kernel)
theorem pr47 : IsPrime 1418697720828789043313220908434905906973817253671 := pock_of _ 560048760914679466039548227303286763194750401689 102 [239930631710081453, 7268725684133] (fun x hx => by
    simp only [List.mem_cons, List.not_mem_nil, or_false] at hx
    rcases hx with rfl | rfl
    · exact pr42
    · exact pr46) (by decide +kernel)
theorem pr48 : IsPrime 1667 := small_prime _ 43 (by decide) (by decide +kernel)
theorem pr49 : IsPrime 1143563 := pock_of _ 525398 12 [1667] (fun x hx => by
    simp only [List.mem_cons, List.not_mem_nil, or_false] at hx
    subst hx
    exact pr48) (by decide +kernel)
theorem pr50 : IsPrime 50616385507 := pock_of _ 22245494251 22 [1143563] (fun x hx => by
    simp only [List.mem_cons, List.not_mem_nil, or_false] at hx
    subst hx
    exact pr49) (by decide +kernel)
theorem pr51 : IsPrime 15691079507171 := pock_of _ 6410768831352 37 [50616385507] (fun x hx => by
    simp only [List.mem_cons, List.not_mem_nil, or_false] at hx
    subst hx
    exact pr50) (by decide +kernel)
theorem pr52 : IsPrime 9448363723100679600199 := pock_of _ 3908132053284500764941 45 [15691079507171] (fun x hx => by
    simp only [List.mem_cons, List.not_mem_nil, or_false] at hx
    subst hx
    exact pr51) (by decide +kernel)
theorem pr53 : IsPrime 38118746843523480607336695249611 := pock_of _ 19496501390883385052145646566306 75 [9448363723100679600199] (fun x hx => by
    simp only [List.mem_cons, List.not_mem_nil, or_false] at hx
    subst hx
    exact pr52) (by decide +kernel)
theorem pr54 : IsPrime 1310236379634446016158758715920913884043974201029419142215939 := pock_of _ 208592973485573582354625674165963828462101722620566476584752 106 [38118746843523480607336695249611] (fun x hx => by
    simp only [List.mem_cons, List.not_mem_nil, or_false] at hx
    subst hx
    exact pr53) (by decide +kernel)
theorem pr55 : IsPrime 4073 := small_prime _ 66 (by decide) (by decide +kernel)
theorem pr56 : IsPrime 162634891 := pock_of _ 10186575 17 [4073, 11] (fun x hx => by
    simp only [List.mem_cons, List.not_mem_nil, or_false] at hx
    rcases hx with rfl | rfl
    · exact pr55
    · exact pr38) (by decide +kernel)
theorem pr57 : IsPrime 11728383938565929 := pock_of _ 7293511888124843 29 [162634891] (fun x hx => by
    simp only [List.mem_cons, List.not_mem_nil, or_false] at hx
    subst hx
    exact pr56) (by decide +kernel)
theorem pr58 : IsPrime 1381 := small_prime _ 40 (by decide) (by decide +kernel)
theorem pr59 : IsPrime 769 := small_prime _ 30 (by decide) (by decide +kernel)
theorem pr60 : IsPrime 217359412609 := pock_of _ 137106474381 22 [1381, 769] (fun x hx => by
    simp only [List.mem_cons, List.not_mem_nil, or_false] at hx
    rcases hx with rfl | rfl
    · exact pr58
    · exact pr59) (by decide +kernel)
theorem pr61 : IsPrime 28691442464389 := pock_of _ 6717361014521 39 [217359412609] (fun x hx => by
    simp only [List.mem_cons, List.not_mem_nil, or_false] at hx
    subst hx
    exact pr60) (by decide +kernel)
theorem pr62 : IsPrime 656856301804522644464159467047713 := pock_of _ 504241958132023133899587655369894 100 [11728383938565929, 28691442464389] (fun x hx => by
    simp only [List.mem_cons, List.not_mem_nil, or_false] at hx
    rcases hx with rfl | rfl
    · exact pr57
    · exact pr61) (by decide +kernel)
theorem pr63 : IsPrime 600979047206254162597200514667055041173704623027 := pock_of _ 86443562786299710376216756645799785685648461511 111 [656856301804522644464159467047713] (fun x hx => by
    simp only [List.mem_cons, List.not_mem_nil, or_false] at hx
    subst hx
    exact pr62) (by decide +kernel)
theorem pr64 : IsPrime 22919035504821450570489504768227216447227151991315848429 := pock_of _ 7992878667482919659533259971605452947489650473457075196 160 [600979047206254162597200514667055041173704623027] (fun x hx => by
    simp only [List.mem_cons, List.not_mem_nil, or_false] at hx
    subst hx
    exact pr63) (by decide +kernel)
theorem pr65 : IsPrime 42071 := small_prime _ 208 (by decide) (by decide +kernel)
theorem pr66 : IsPrime 84143 := pock_of _ 4 17 [42071] (fun x hx => by
    simp only [List.mem_cons, List.not_mem_nil, or_false] at hx
    subst hx
    exact pr65) (by decide +kernel)
theorem pr67 : IsPrime 3631 := small_prime _ 63 (by decide) (by decide +kernel)
theorem pr68 : IsPrime 8944498169309 := pock_of _ 3937542699948 30 [84143, 3631] (fun x hx => by
    simp only [List.mem_cons, List.not_mem_nil, or_false] at hx
    rcases hx with rfl | rfl
    · exact pr66
    · exact pr67) (by decide +kernel)
theorem pr69 : IsPrime 10979908172716956041 := pock_of _ 6073406223216041273 45 [8944498169309] (fun x hx => by
    simp only [List.mem_cons, List.not_mem_nil, or_false] at hx
    subst hx
    exact pr68) (by decide +kernel)
theorem pr70 : IsPrime 5009 := small_prime _ 73 (by decide) (by decide +kernel)
theorem pr71 : IsPrime 227 := small_prime _ 18 (by decide) (by decide +kernel)
theorem pr72 : IsPrime 4918848019 := pock_of _ 2264776534 22 [5009, 227] (fun x hx => by
    simp only [List.mem_cons, List.not_mem_nil, or_false] at hx
    rcases hx with rfl | rfl
    · exact pr70
    · exact pr71) (by decide +kernel)
theorem pr73 : IsPrime 38701701869545080407007854504017349044417 := pock_of _ 33170906382013727860177707279298955443260 97 [10979908172716956041, 4918848019] (fun x hx => by
    simp only [List.mem_cons, List.not_mem_nil, or_false] at hx
    rcases hx with rfl | rfl
    · exact pr69
    · exact pr72) (by decide +kernel)
theorem pr74 : IsPrime 113061462240975218915820385073931929279509318578960546695258769493029707811449 := pock_of _ 55376673910964497941992877519278107153782867119151230819192626792678130824639 136 [38701701869545080407007854504017349044417] (fun x hx => by
    simp only [List.mem_cons, List.not_mem_nil, or_false] at hx
    subst hx
    exact pr73) (by decide +kernel)
theorem pr75 : IsPrime 239 := small_prime _ 18 (by decide) (by decide +kernel)
theorem pr76 : IsPrime 7 := small_prime _ 5 (by decide) (by decide +kernel)
theorem pr77 : IsPrime 140533 := pock_of _ 32216 12 [239, 7] (fun x hx => by
    simp only [List.mem_cons, List.not_mem_nil, or_false] at hx
    rcases hx with rfl | rfl
    · exact pr75
    · exact pr76) (by decide +kernel)
theorem pr78 : IsPrime 1181 := small_prime _ 37 (by decide) (by decide +kernel)
theorem pr79 : IsPrime 572594681851 := pock_of _ 548070907044 29 [140533, 1181] (fun x hx => by
    simp only [List.mem_cons, List.not_mem_nil, or_false] at hx
    rcases hx with rfl | rfl
    · exact pr77
    · exact pr78) (by decide +kernel)
theorem pr80 : IsPrime 2138757293270645293861 := pock_of _ 1357176785655276707482 41 [572594681851] (fun x hx => by
    simp only [List.mem_cons, List.not_mem_nil, or_false] at hx
    subst hx
    exact pr79) (by decide +kernel)
theorem pr81 : IsPrime 60631 := small_prime _ 249 (by decide) (by decide +kernel)
theorem pr82 : IsPrime 1818931 := pock_of _ 572534 17 [60631] (fun x hx => by
    simp only [List.mem_cons, List.not_mem_nil, or_false] at hx
    subst hx
    exact pr81) (by decide +kernel)
theorem pr83 : IsPrime 26981 := small_prime _ 167 (by decide) (by decide +kernel)
theorem pr84 : IsPrime 18946503436684661 := pock_of _ 18784656851416792 37 [1818931, 26981] (fun x hx => by
    simp only [List.mem_cons, List.not_mem_nil, or_false] at hx
    rcases hx with rfl | rfl
    · exact pr82
    · exact pr83) (by decide +kernel)
theorem pr85 : IsPrime 32855944623250276892162746461086154341896979 := pock_of _ 17830643938401458697462887051109754114513448 126 [2138757293270645293861, 18946503436684661] (fun x hx => by
    simp only [List.mem_cons, List.not_mem_nil, or_false] at hx
    rcases hx with rfl | rfl
    · exact pr80
    · exact pr84) (by decide +kernel)
theorem pr86 : IsPrime 826460666225171274790399747333728442643037482054250537932844311394203185709 := pock_of _ 598511588820063081436465121550264534531277345693642934309456516751805419149 146 [32855944623250276892162746461086154341896979] (fun x hx => by
    simp only [List.mem_cons, List.not_mem_nil, or_false] at hx
    subst hx
    exact pr85) (by decide +kernel)
theorem pr87 : IsPrime 90910673284768840226943972206710128690734123025967559172612874253362350427991 := pock_of _ 1298074214633706907132624082305024 250 [826460666225171274790399747333728442643037482054250537932844311394203185709] (fun x hx => by
    simp only [List.mem_cons, List.not_mem_nil, or_false] at hx
    subst hx
    exact pr86) (by decide +kernel)
theorem pr88 : IsPrime 26669 := small_prime _ 166 (by decide) (by decide +kernel)
theorem pr89 : IsPrime 229 := small_prime _ 18 (by decide) (by decide +kernel)
theorem pr90 : IsPrime 1624515467 := pock_of _ 1021101623 24 [26669, 229] (fun x hx => by
    simp only [List.mem_cons, List.not_mem_nil, or_false] at hx
    rcases hx with rfl | rfl
    · exact pr88
    · exact pr89) (by decide +kernel)
theorem pr91 : IsPrime 6723879265005803 := pock_of _ 4690760837488472 32 [1624515467] (fun x hx => by
    simp only [List.mem_cons, List.not_mem_nil, or_false] at hx
    subst hx
    exact pr90) (by decide +kernel)
theorem pr92 : IsPrime 27154826099638832674969777 := pock_of _ 2900122252093938792900766 54 [6723879265005803] (fun x hx => by
    simp only [List.mem_cons, List.not_mem_nil, or_false] at hx
    subst hx
    exact pr91) (by decide +kernel)
theorem pr93 : IsPrime 2493460205705750514897606632802461037592475062243 := pock_of _ 1124816623823475365837271928261707995218503175000 86 [27154826099638832674969777] (fun x hx => by
    simp only [List.mem_cons, List.not_mem_nil, or_false] at hx
    subst hx
    exact pr92) (by decide +kernel)
theorem pr94 : IsPrime 1509543318857785021481079680188875689349680007971987591568521823727 := pock_of _ 1068507375669393305024391260487179697647300253270861840253176493976 162 [2493460205705750514897606632802461037592475062243] (fun x hx => by
    simp only [List.mem_cons, List.not_mem_nil, or_false] at hx
    subst hx
    exact pr93) (by decide +kernel)
theorem pr95 : IsPrime 1957974447598010049851627816671274087251712194716712123847653453814722955282495801629546471273139 := pock_of _ 833951342085554132148963203056663941860457294302738849773940887376383367252579180657986106661409 221 [1509543318857785021481079680188875689349680007971987591568521823727] (fun x hx => by
    simp only [List.mem_cons, List.not_mem_nil, or_false] at hx
    subst hx
    exact pr94) (by decide +kernel)
theorem pr96 : IsPrime 42961 := small_prime _ 210 (by decide) (by decide +kernel)
theorem pr97 : IsPrime 1718441 := pock_of _ 1522746 17 [42961] (fun x hx => by
    simp only [List.mem_cons, List.not_mem_nil, or_false] at hx
    subst hx
    exact pr96) (by decide +kernel)
theorem pr98 : IsPrime 30931939 := pock_of _ 262144 22 [1718441] (fun x hx => by
    simp only [List.mem_cons, List.not_mem_nil, or_false] at hx
    subst hx
    exact pr97) (by decide +kernel)
theorem pr99 : IsPrime 74720243534327 := pock_of _ 31660081521988 26 [30931939] (fun x hx => by
    simp only [List.mem_cons, List.not_mem_nil, or_false] at hx
    subst hx
    exact pr98) (by decide +kernel)
theorem pr100 : IsPrime 3931 := small_prime _ 65 (by decide) (by decide +kernel)
theorem pr101 : IsPrime 139 := small_prime _ 14 (by decide) (by decide +kernel)
theorem pr102 : IsPrime 300524951 := pock_of _ 60266122 21 [3931, 139] (fun x hx => by
    simp only [List.mem_cons, List.not_mem_nil, or_false] at hx
    rcases hx with rfl | rfl
    · exact pr100
    · exact pr101) (by decide +kernel)
theorem pr103 : IsPrime 185967702032728430028124893485546830531270769 := pock_of _ 44867762830112153303939890933904297806508083 76 [74720243534327, 300524951] (fun x hx => by
    simp only [List.mem_cons, List.not_mem_nil, or_false] at hx
    rcases hx with rfl | rfl
    · exact pr99
    · exact pr102) (by decide +kernel)
theorem pr104 : IsPrime 276192905825051281425903997207094847787222902937622317244868974219643355639093 := pock_of _ 92005505047999082398849468977451298561069175834059346302425823023440979791291 149 [185967702032728430028124893485546830531270769] (fun x hx => by
    simp only [List.mem_cons, List.not_mem_nil, or_false] at hx
    subst hx
    exact pr103) (by decide +kernel)
theorem pr105 : IsPrime 1728381604386483307446037636824705003380592604381906202754043080934100205046160632779424876616489 := pock_of _ 5466186397506418440048595307615380891330248326040898002615418398006952960286662825593347758923 259 [276192905825051281425903997207094847787222902937622317244868974219643355639093] (fun x hx => by
    simp only [List.mem_cons, List.not_mem_nil, or_false] at hx
    subst hx
    exact pr104) (by decide +kernel)
theorem pr106 : IsPrime 1721 := small_prime _ 44 (by decide) (by decide +kernel)
theorem pr107 : IsPrime 1135861 := pock_of _ 784979 12 [1721] (fun x hx => by
    simp only [List.mem_cons, List.not_mem_nil, or_false] at hx
    subst hx
    exact pr106) (by decide +kernel)
theorem pr108 : IsPrime 34075831 := pock_of _ 17391063 22 [1135861] (fun x hx => by
    simp only [List.mem_cons, List.not_mem_nil, or_false] at hx
    subst hx
    exact pr107) (by decide +kernel)
theorem pr109 : IsPrime 149252139781 := pock_of _ 129885578772 27 [34075831] (fun x hx => by
    simp only [List.mem_cons, List.not_mem_nil, or_false] at hx
    subst hx
    exact pr108) (by decide +kernel)
theorem pr110 : IsPrime 439 := small_prime _ 23 (by decide) (by decide +kernel)
theorem pr111 : IsPrime 193 := small_prime _ 16 (by decide) (by decide +kernel)
theorem pr112 : IsPrime 2880719 := pock_of _ 2141787 18 [439, 193] (fun x hx => by
    simp only [List.mem_cons, List.not_mem_nil, or_false] at hx
    rcases hx with rfl | rfl
    · exact pr110
    · exact pr111) (by decide +kernel)
theorem pr113 : IsPrime 808007265765482147717311 := pock_of _ 110529144791953987050522 60 [149252139781, 2880719] (fun x hx => by
    simp only [List.mem_cons, List.not_mem_nil, or_false] at hx
    rcases hx with rfl | rfl
    · exact pr109
    · exact pr112) (by decide +kernel)
theorem pr114 : IsPrime 261420708009805121149287132466478795231352563 := pock_of _ 132301731807710317123905269506586687689559320 81 [808007265765482147717311] (fun x hx => by
    simp only [List.mem_cons, List.not_mem_nil, or_false] at hx
    subst hx
    exact pr113) (by decide +kernel)
theorem pr115 : IsPrime 1171150282070780199625168979928464675825376737799620435385649617953536478434422327171971 := pock_of _ 283895423559791896423046352039901150563888184042466307263039600201483950319317332601356 149 [261420708009805121149287132466478795231352563] (fun x hx => by
    simp only [List.mem_cons, List.not_mem_nil, or_false] at hx
    subst hx
    exact pr114) (by decide +kernel)
theorem pr116 : IsPrime 30607257452791662560067753787362752483905705785799875638834622217382747465305929740166278880134040262482074526095249 := luc_of _ 1171150282070780199625168979928464675825376737799620435385649617953536478434422327171971 3 1552420130428670711110661684375519893845090460893449608011649664656753382527359779726565098614814529357208410146655 5578377491462194397693465759008698377270923626733074851173961181734918051752131335883148960430104651434837822930725 291 pr115 (by decide +kernel)
theorem pr117 : IsPrime 38039 := small_prime _ 198 (by decide) (by decide +kernel)
theorem pr118 : IsPrime 76079 := pock_of _ 4 17 [38039] (fun x hx => by
    simp only [List.mem_cons, List.not_mem_nil, or_false] at hx
    subst hx
    exact pr117) (by decide +kernel)
theorem pr119 : IsPrime 827 := small_prime _ 31 (by decide) (by decide +kernel)
theorem pr120 : IsPrime 158803348493 := pock_of _ 11482298746 27 [76079, 827] (fun x hx => by
    simp only [List.mem_cons, List.not_mem_nil, or_false] at hx
    rcases hx with rfl | rfl
    · exact pr118
    · exact pr119) (by decide +kernel)
theorem pr121 : IsPrime 1174997726947495483 := pock_of _ 258531162830065364 39 [158803348493] (fun x hx => by
    simp only [List.mem_cons, List.not_mem_nil, or_false] at hx
    subst hx
    exact pr120) (by decide +kernel)
theorem pr122 : IsPrime 10342798118736257485251400099 := pock_of _ 6486307015715053720396587886 62 [1174997726947495483] (fun x hx => by
    simp only [List.mem_cons, List.not_mem_nil, or_false] at hx
    subst hx
    exact pr121) (by decide +kernel)
theorem pr123 : IsPrime 434397520986922814380558804159 := pock_of _ 4398046511104 95 [10342798118736257485251400099] (fun x hx => by
    simp only [List.mem_cons, List.not_mem_nil, or_false] at hx
    subst hx
    exact pr122) (by decide +kernel)
theorem pr124 : IsPrime 552553646695365819892070798890249 := pock_of _ 370918854612380098203700600839312 100 [434397520986922814380558804159] (fun x hx => by
    simp only [List.mem_cons, List.not_mem_nil, or_false] at hx
    subst hx
    exact pr123) (by decide +kernel)
theorem pr125 : IsPrime 1874482011118673846331784764003185849296788959 := pock_of _ 1620698017581050026930766621712828842550823913 110 [552553646695365819892070798890249] (fun x hx => by
    simp only [List.mem_cons, List.not_mem_nil, or_false] at hx
    subst hx
    exact pr124) (by decide +kernel)
theorem pr126 : IsPrime 3507308359653228071138303962158263320922276633964697665283 := pock_of _ 657731086783573560291154449866352764974253164316499551151 152 [1874482011118673846331784764003185849296788959] (fun x hx => by
    simp only [List.mem_cons, List.not_mem_nil, or_false] at hx
    subst hx
    exact pr125) (by decide +kernel)
theorem pr127 : IsPrime 96845694415840280287533459075641731683294846380071902528220279401928892665973 := pock_of _ 74693234418206343739451683286026721277293534869869212759599419889132517691826 193 [3507308359653228071138303962158263320922276633964697665283] (fun x hx => by
    simp only [List.mem_cons, List.not_mem_nil, or_false] at hx
    subst hx
    exact pr126) (by decide +kernel)
theorem pr128 : IsPrime 31572641118370252159416799156025374717930581320827905634720483159665065926370164418327648836533289527397685295155471 := luc_of _ 96845694415840280287533459075641731683294846380071902528220279401928892665973 11 11147633151592686932425478194482045237420569203630427886538336796172315857235349989640934814408372130429905494691543 31166497668548760808642102546323906760181231990061779127502024178314126996082411607796030601069807484114131333506434 257 pr127 (by decide +kernel)
theorem isPrime0 : IsPrime 1163834949570474183043526703053952552727969497293 := pr11
theorem isPrime1 : IsPrime 1288735409101345710672422423992970792392983761309 := pr25
theorem isPrime2 : IsPrime 281830312730064873818645213743463565848745609191873 := pr35
theorem isPrime3 : IsPrime 1418697720828789043313220908434905906973817253671 := pr47
theorem isPrime4 : IsPrime 1310236379634446016158758715920913884043974201029419142215939 := pr54
theorem isPrime5 : IsPrime 22919035504821450570489504768227216447227151991315848429 := pr64
theorem isPrime6 : IsPrime 113061462240975218915820385073931929279509318578960546695258769493029707811449 := pr74
theorem isPrime7 : IsPrime 90910673284768840226943972206710128690734123025967559172612874253362350427991 := pr87
theorem isPrime8 : IsPrime 1957974447598010049851627816671274087251712194716712123847653453814722955282495801629546471273139 := pr95
theorem isPrime9 : IsPrime 1728381604386483307446037636824705003380592604381906202754043080934100205046160632779424876616489 := pr105
theorem isPrime10 : IsPrime 30607257452791662560067753787362752483905705785799875638834622217382747465305929740166278880134040262482074526095249 := pr116
theorem isPrime11 : IsPrime 31572641118370252159416799156025374717930581320827905634720483159665065926370164418327648836533289527397685295155471 := pr128
end Go.Proofs.YtckkhpegimkefaaGreatDoor.Prim
namespace Go.Proofs.YtckkhpegimkefaaGreatDoor
open Go.RowKit
set_option linter.unusedVariables false
set_option linter.unusedSimpArgs false
set_option maxRecDepth 100000

def prN : Nat → Nat
  | 0 => 1163834949570474183043526703053952552727969497293
  | 1 => 1288735409101345710672422423992970792392983761309
  | 2 => 281830312730064873818645213743463565848745609191873
  | 3 => 1418697720828789043313220908434905906973817253671
  | 4 => 1310236379634446016158758715920913884043974201029419142215939
  | 5 => 22919035504821450570489504768227216447227151991315848429
  | 6 => 113061462240975218915820385073931929279509318578960546695258769493029707811449
  | 7 => 90910673284768840226943972206710128690734123025967559172612874253362350427991
  | 8 => 1957974447598010049851627816671274087251712194716712123847653453814722955282495801629546471273139
  | 9 => 1728381604386483307446037636824705003380592604381906202754043080934100205046160632779424876616489
  | 10 => 30607257452791662560067753787362752483905705785799875638834622217382747465305929740166278880134040262482074526095249
  | 11 => 31572641118370252159416799156025374717930581320827905634720483159665065926370164418327648836533289527397685295155471
  | _ => 0
def prL : Nat → Nat
  | 0 => 20
  | 1 => 20
  | 2 => 21
  | 3 => 20
  | 4 => 25
  | 5 => 23
  | 6 => 32
  | 7 => 32
  | 8 => 40
  | 9 => 40
  | 10 => 48
  | 11 => 48
  | _ => 0
def hexC (d : Nat) : UInt8 := UInt8.ofNat (if d < 10 then 48 + d else 87 + d)
def hexTx (n : Nat) : Nat → List UInt8
  | 0 => []
  | k + 1 => hexC (n / 16 ^ k % 16) :: hexTx n k
/-- a prime, as it is written in the table -/
def hexT (j : Nat) : ByteArray := ⟨(hexTx (prN j) (2 * prL j)).toArray⟩
/-- and in bytes -/
def prB (j : Nat) : ByteArray := strOfNums (bigL (prN j) (prL j))
theorem prN_prime (j : Nat) (h : j < 12) : Prim.IsPrime (prN j) := by
  match j, h with
  | 0, _ => exact Prim.isPrime0
  | 1, _ => exact Prim.isPrime1
  | 2, _ => exact Prim.isPrime2
  | 3, _ => exact Prim.isPrime3
  | 4, _ => exact Prim.isPrime4
  | 5, _ => exact Prim.isPrime5
  | 6, _ => exact Prim.isPrime6
  | 7, _ => exact Prim.isPrime7
  | 8, _ => exact Prim.isPrime8
  | 9, _ => exact Prim.isPrime9
  | 10, _ => exact Prim.isPrime10
  | 11, _ => exact Prim.isPrime11
theorem hexT_size (j : Nat) : (hexT j).size = 2 * prL j := by
  have : ∀ (n k : Nat), (hexTx n k).length = k := by
    intro n k
    induction k with
    | zero => rfl
    | succ k ih => simp [hexTx, ih]
  rw [hexT]
  show ((hexTx (prN j) (2 * prL j)).toArray).size = _
  simp [this]
theorem prL_le (j : Nat) (h : j < 12) : prL j ≤ 48 := by
  have : ∀ j : Fin 12, prL j.val ≤ 48 := by decide
  exact this ⟨j, h⟩
theorem hexT_hex (j : Nat) (h : j < 12) : ∀ c, c ∈ (hexT j).data.toList → isHex c.toNat = true := by
  have : ∀ j : Fin 12, ((hexTx (prN j.val) (2 * prL j.val)).all fun c => isHex c.toNat) = true := by decide +kernel
  intro c hc
  have h2 := this ⟨j, h⟩
  rw [List.all_eq_true] at h2
  exact h2 c (by simpa [hexT] using hc)
theorem hexT_bytes (j : Nat) (h : j < 12) : strOfNums (hexL (hexT j).data.toList) = prB j := by
  have : ∀ j : Fin 12, hexL (hexTx (prN j.val) (2 * prL j.val)) = bigL (prN j.val) (prL j.val) := by decide +kernel
  rw [prB, ← this ⟨j, h⟩]
  simp [hexT]
theorem prN_lt (j : Nat) (h : j < 12) : prN j < 256 ^ prL j := by
  have : ∀ j : Fin 12, prN j.val < 256 ^ prL j.val := by decide +kernel
  exact this ⟨j, h⟩
theorem prB_val (j : Nat) (h : j < 12) : valN (prB j).data.toList = prN j := by
  rw [prB, valN_strR, Nat.mod_eq_of_lt (prN_lt j h)]
theorem pair_unlike (i : Nat) (h : i < 6) : prN (2 * i) ≠ prN (2 * i + 1) := by
  have : ∀ i : Fin 6, prN (2 * i.val) ≠ prN (2 * i.val + 1) := by decide +kernel
  exact this ⟨i, h⟩
theorem pair_secret (i : Nat) (h : i < 6) : secE (prB (2 * i)) (prB (2 * i + 1)) = 0 := by
  have : ∀ i : Fin 6, secE (prB (2 * i.val)) (prB (2 * i.val + 1)) = 0 := by decide +kernel
  exact this ⟨i, h⟩
theorem pair_mod (i : Nat) (h : i < 6) : valN (secM (prB (2 * i)) (prB (2 * i + 1))).data.toList = prN (2 * i) * prN (2 * i + 1) := by
  have : ∀ i : Fin 6, valN (secM (prB (2 * i.val)) (prB (2 * i.val + 1))).data.toList = prN (2 * i.val) * prN (2 * i.val + 1) := by decide +kernel
  exact this ⟨i, h⟩
/-- Raise is the way back from Root, and Root from Raise -/
theorem pair_back (i : Nat) (h : i < 6) {x : ByteArray} (hx : powE (secM (prB (2 * i)) (prB (2 * i + 1))) x = 0) :
    powT (secM (prB (2 * i)) (prB (2 * i + 1))) (powT (secM (prB (2 * i)) (prB (2 * i + 1))) x (secD (prB (2 * i)) (prB (2 * i + 1)))) 3 = x ∧
    powT (secM (prB (2 * i)) (prB (2 * i + 1))) (powT (secM (prB (2 * i)) (prB (2 * i + 1))) x 3) (secD (prB (2 * i)) (prB (2 * i + 1))) = x := by
  have h3 := secD_three (pair_secret i h)
  rw [prB_val _ (by omega), prB_val _ (by omega)] at h3
  exact ⟨rsa_text hx _ _ _ _ (prN_prime _ (by omega)) (prN_prime _ (by omega)) (pair_unlike i h) (pair_mod i h) ⟨_, by rw [Nat.mul_comm]; exact h3⟩,
    rsa_text hx _ _ _ _ (prN_prime _ (by omega)) (prN_prime _ (by omega)) (pair_unlike i h) (pair_mod i h) ⟨_, h3⟩⟩
/-- the table in memory -/
def PairTab (w : World) : Prop := ∀ j, j < 12 → w.cell? ⟨0, j, none⟩ = some (.string (hexT j))
theorem PairTab.lt {w : World} (h : PairTab w) : 0 < w.heap.size := World.block_lt_of_cell? _ _ (h 0 (by decide))
theorem PairTab.below {w w' : World} {b : Nat} (h : PairTab w) (hb : Below b w w') (h0 : 0 < b) : PairTab w' := fun j hj => (hb.cell (by exact h0)).trans (h j hj)
end Go.Proofs.YtckkhpegimkefaaGreatDoor
