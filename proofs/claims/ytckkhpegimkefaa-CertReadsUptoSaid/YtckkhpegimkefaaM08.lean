/- The reference's zeros, xor, Row, Fold. -/
import Derived.Test.YtckkhpegimkefaaM07
import Derived.Test.YtckkhpegimkefaaM05
import Derived.Test.YtckkhpegimkefaaM00
namespace Go.Proofs.Ytckkhpegimkefaa
open Go.RowKit
set_option linter.unusedVariables false

def zeroS (n : Nat) : ByteArray := ⟨(List.replicate n (0 : UInt8)).toArray⟩
theorem zeroS_size (n : Nat) : (zeroS n).size = n := by simp [zeroS, ByteArray.size]
theorem zeroS_data (n : Nat) : (zeroS n).data.toList = List.replicate n 0 := by simp [zeroS]
theorem zeroS_snoc (n : Nat) : zeroS n ++ ⟨#[0]⟩ = zeroS (n + 1) := by
  apply ByteArray.ext
  apply Array.toList_inj.1
  rw [ByteArray.data_append, Array.toList_append, zeroS_data, zeroS_data, List.replicate_succ']
set_option maxHeartbeats 1000000 in
set_option maxRecDepth 100000 in
theorem rzeros_any (n : Nat) (hn : n ≤ 1000) (w : World) :
    Calls Try.prog 60 #[.int .i64 n] w fun e w' => e = .returned (.string (zeroS n)) ∧ w' = w := by
  go_enter Try.func60, Try.ntmps60
  go_wp2
  go_loop [3, 4] (fun s i => ∃ k : Nat, k ≤ n ∧ i = .int .i64 k ∧ s = .string (zeroS k)) (fun _ i => n - (intOf i).toNat)
  case atStart => exact ⟨0, Nat.zero_le _, rfl, rfl⟩
  case round =>
    obtain ⟨k, hk, rfl, rfl⟩ := hrel
    by_cases hlt : k < n
    · have hz := zeroS_size k
      have h1 : (⟨#[0]⟩ : ByteArray).size = 1 := rfl
      have hs := zeroS_snoc k
      have HS := hide hs
      clear hs
      generalize zeroS k = t at *
      go_wp2
      go_round
      case rel => exact ⟨k + 1, by omega, by go_num, by rw [unhide HS]⟩
      case measure => simp [intOf]; omega
    · have hkn : k = n := by omega
      subst hkn
      go_wp2
      go_ret
      exact ⟨rfl, rfl⟩

def xorL (a b : List UInt8) : List Int := List.zipWith (fun x y => ((x.toNat ^^^ y.toNat : Nat) : Int)) a b
theorem xorL_snoc (a b : List UInt8) (k : Nat) (x y : UInt8) (ha : a[k]? = some x) (hb : b[k]? = some y) : xorL (a.take (k + 1)) (b.take (k + 1)) = xorL (a.take k) (b.take k) ++ [((x.toNat ^^^ y.toNat : Nat) : Int)] := by
  have h1 : k < a.length := by
    rcases Nat.lt_or_ge k a.length with h | h
    · exact h
    · rw [List.getElem?_eq_none h] at ha; cases ha
  have h2 : k < b.length := by
    rcases Nat.lt_or_ge k b.length with h | h
    · exact h
    · rw [List.getElem?_eq_none h] at hb; cases hb
  unfold xorL
  rw [List.take_add_one, List.take_add_one, ha, hb, List.zipWith_append (by rw [List.length_take, List.length_take]; omega)]
  rfl
theorem xorL_length (a b : List UInt8) (h : a.length ≤ b.length) : (xorL a b).length = a.length := by simp [xorL]; omega
theorem xor_u8 (a b : Nat) (ha : a < 256) (hb : b < 256) : bits .xor .u8 a b = ((a ^^^ b : Nat) : Int) := xor_natM .u8 8 (by decide) (fun n h0 h1 => by simp [IntKind.wrap, IntKind.bits, IntKind.signed]; omega) a b ha hb
def xorS (a b : ByteArray) : ByteArray := strOfNums (xorL a.data.toList b.data.toList)
theorem xorS_size (a b : ByteArray) (h : a.size ≤ b.size) : (xorS a b).size = a.size := by
  rw [xorS, strOfNums_size, xorL_length _ _ (by simpa using h)]; simp

set_option maxHeartbeats 2000000 in
set_option maxRecDepth 100000 in
theorem rxor_any (a b : ByteArray) (h16 : a.size ≤ 16) (hab : a.size ≤ b.size) (w : World) :
    Calls Try.prog 62 #[.string a, .string b] w fun e w' => e = .returned (.string (xorS a b)) ∧ Below w.heap.size w w' := by
  go_enter Try.func62, Try.ntmps62
  go_wp2
  go_loopw [5, 6] (fun s i wr => ∃ k : Nat, k ≤ a.size ∧ i = .int .i64 k ∧ s = .string (strOfNums (xorL (a.data.toList.take k) (b.data.toList.take k))) ∧ Below w.heap.size w wr) (fun _ i _ => a.size - (intOf i).toNat)
  case atStart => exact ⟨0, Nat.zero_le _, rfl, rfl, Below.refl _ _⟩
  case round =>
    obtain ⟨k, hk, rfl, rfl, hbel⟩ := hrel
    by_cases hlt : k < a.size
    · have hlb : k < b.size := by omega
      have ea : a.data.toList[k]? = some a[k] := by rw [List.getElem?_eq_getElem (by simpa using hlt)]; rfl
      have eb : b.data.toList[k]? = some b[k] := by rw [List.getElem?_eq_getElem (by simpa using hlb)]; rfl
      have hsn := xorL_snoc a.data.toList b.data.toList k a[k] b[k] ea eb
      obtain ⟨x, hx⟩ : ∃ x, x = a[k].toNat := ⟨_, rfl⟩
      obtain ⟨y, hy⟩ : ∃ y, y = b[k].toNat := ⟨_, rfl⟩
      have hx2 : x < 256 := by rw [hx]; exact a[k].toNat_lt
      have hy2 : y < 256 := by rw [hy]; exact b[k].toNat_lt
      have hca : ∀ h : k < a.size, ((a[k]'h).toNat : Int) = (x : Int) := fun _ => by rw [hx]
      have hcb : ∀ h : k < b.size, ((b[k]'h).toNat : Int) = (y : Int) := fun _ => by rw [hy]
      rw [← hx, ← hy] at hsn
      have hxor := xor_u8 x y hx2 hy2
      have hz2 : x ^^^ y < 256 := Nat.xor_lt_two_pow (n := 8) hx2 hy2
      generalize x ^^^ y = z at *
      have hlow : lowByte (z : Int) = (z : Int) := by unfold lowByte; omega
      have hl1 : (strOfNums (xorL (a.data.toList.take k) (b.data.toList.take k))).size ≤ 16 := by
        rw [strOfNums_size]
        simp only [xorL, List.length_zipWith, List.length_take]
        omega
      have hl2 : (strOfNums [(z : Int)]).size = 1 := by rw [strOfNums_size]; rfl
      have hwz : IntKind.i64.wrap (z : Int) = (z : Int) := wraps_i64 _ (by omega) (by omega)
      have hnew : strOfNums (xorL (a.data.toList.take k) (b.data.toList.take k)) ++ strOfNums [(z : Int)] = strOfNums (xorL (a.data.toList.take (k + 1)) (b.data.toList.take (k + 1))) := by
        rw [hsn, strOfNums_append]
      generalize strOfNums (xorL (a.data.toList.take k) (b.data.toList.take k)) = S at *
      generalize hS2 : strOfNums [(z : Int)] = S2 at *
      have B1 := hide (fun (w : World) (b off cap : Nat) (hbB : b < w.heap.size) (hc : w.cell? ⟨b, off, none⟩ = some (.int .i64 (z : Int))) => bytes_one (z : Int) b off cap w hbB hc)
      rw [hlow, hS2] at B1
      have HN := hide hnew
      have HW := hide hbel
      have hbs := hbel.size
      have hki : (k : Int) < (a.size : Int) := by omega
      have hki2 : (k : Int) < (b.size : Int) := by omega
      clear hsn hx hy ea eb hnew hlow hS2 hbel
      go_wp2_with fail
      go_region_with ((go_at_call 31; refine (unhide B1 _ _ _ _ (by simp) (by simp)).mono ?_; rintro e w2 ⟨rfl, hb2⟩))
      all_goals
        go_wp2
        go_roundw
        case rel => exact ⟨k + 1, by omega, by go_num, by rw [unhide HN], (((unhide HW).drew.alloc hbs _).trans (hb2.mono (by simp; omega)))⟩
        case measure => simp [intOf]; omega
    · have hkl : k = a.size := by omega
      subst hkl
      have e : strOfNums (xorL (a.data.toList.take a.size) (b.data.toList.take a.size)) = xorS a b := by
        rw [xorS, List.take_of_length_le (by simp)]
        unfold xorL
        congr 1
        apply List.ext_getElem?
        intro i
        simp only [List.getElem?_zipWith, List.getElem?_take]
        by_cases hi : i < a.size
        · simp [hi]
        · have : a.data.toList[i]? = none := List.getElem?_eq_none (by simpa using hi)
          simp [this]
      rw [e]
      go_wp2
      go_ret
      exact ⟨rfl, hbel⟩
end Go.Proofs.Ytckkhpegimkefaa
