/- how many bits a word has. -/
import Derived.Test.YtjipcmmaemokhaaDoorM14
import Derived.Lib.Strings
import Derived.Lib.Walk
import Derived.Lib.BitFns
namespace Go.Proofs.YtjipcmmaemokhaaDoor
open Go.RowKit Go.Shelf
set_option linter.unusedVariables false

theorem tab_size : (Lib.len8tab.size : Int) = 256 := by
  rw [Lib.len8tab_size]
  rfl
/-- the bits of the byte that is left when k bits are cut off -/
theorem len_at (x y : Int) (k : Nat) (hx : 0 ≤ x) (h64 : x ≤ 18446744073709551615) (hy : y = x / 2 ^ k) (hlow : k = 0 ∨ (2 ^ k : Int) ≤ x) (hb0 : 0 ≤ y) (hb : y ≤ 255) : (k : Int) + Lib.len8 y = (Lib.bitLen x.toNat : Int) := by
  obtain ⟨n, rfl⟩ := Int.eq_ofNat_of_zero_le hx
  have e : y = ((n / 2 ^ k : Nat) : Int) := by rw [hy]; simp
  rw [Lib.len8_of y hb0 hb, e, Int.toNat_natCast, Int.toNat_natCast]
  rcases hlow with h | h
  · subst h
    simp
  · have h2 : 2 ^ k ≤ n := by
      have : ((2 ^ k : Nat) : Int) ≤ (n : Int) := by simpa using h
      omega
    rw [Lib.bitLen_shift k n h2 (by omega)]
    omega
theorem len_wrap (k : Nat) (y : Int) (hk : k ≤ 56) (hb0 : 0 ≤ y) (hb : y ≤ 255) : wrap64 ((k : Int) + wrap64 (Lib.len8 y)) = (k : Int) + Lib.len8 y := by
  rw [Lib.len8_of y hb0 hb]
  have l := Lib.bitLen_le8' y hb0 hb
  generalize Lib.bitLen y.toNat = b at *
  unfold wrap64
  omega
theorem len_wrap0 (y : Int) (hb0 : 0 ≤ y) (hb : y ≤ 255) : wrap64 (wrap64 (Lib.len8 y)) = ((0 : Nat) : Int) + Lib.len8 y := by
  rw [Lib.len8_of y hb0 hb]
  have l := Lib.bitLen_le8' y hb0 hb
  generalize Lib.bitLen y.toNat = b at *
  unfold wrap64
  omega
set_option maxHeartbeats 4000000 in
set_option maxRecDepth 100000 in
theorem len64_0 (x : Int) (w : World) (h0 : 0 ≤ x) (h1 : x ≤ 255) :
    Calls Tryd.prog 23 #[.int .u64 x] w fun e w' => e = .returned (.int .i64 (Lib.bitLen x.toNat)) ∧ w' = w := by
  have hs := tab_size
  have hfin := len_at x (x) 0 (by omega) (by omega) (by omega) (.inl rfl) (by omega) (by omega)
  have HF := hide hfin
  have y0 : 0 ≤ x := by omega
  have y1 : x ≤ 255 := by omega
  clear hfin
  go_enter Tryd.func23, Tryd.ntmps23
  go_wp2
  go_ret
  refine ⟨congrArg Ending.returned (congrArg (Value.int IntKind.i64) ?_), rfl⟩
  rw [← unhide HF]
  exact len_wrap0 (x) y0 y1
set_option maxHeartbeats 4000000 in
set_option maxRecDepth 100000 in
theorem len64_8 (x : Int) (w : World) (h0 : 256 ≤ x) (h1 : x ≤ 65535) :
    Calls Tryd.prog 23 #[.int .u64 x] w fun e w' => e = .returned (.int .i64 (Lib.bitLen x.toNat)) ∧ w' = w := by
  have hs := tab_size
  have hfin := len_at x (x / 256) 8 (by omega) (by omega) (by omega) (.inr (by omega)) (by omega) (by omega)
  have HF := hide hfin
  have y0 : 0 ≤ x / 256 := by omega
  have y1 : x / 256 ≤ 255 := by omega
  clear hfin
  go_enter Tryd.func23, Tryd.ntmps23
  go_wp2
  go_ret
  refine ⟨congrArg Ending.returned (congrArg (Value.int IntKind.i64) ?_), rfl⟩
  rw [← unhide HF]
  exact len_wrap 8 (x / 256) (by decide) y0 y1
set_option maxHeartbeats 4000000 in
set_option maxRecDepth 100000 in
theorem len64_16 (x : Int) (w : World) (h0 : 65536 ≤ x) (h1 : x ≤ 16777215) :
    Calls Tryd.prog 23 #[.int .u64 x] w fun e w' => e = .returned (.int .i64 (Lib.bitLen x.toNat)) ∧ w' = w := by
  have hs := tab_size
  have hfin := len_at x (x / 65536) 16 (by omega) (by omega) (by omega) (.inr (by omega)) (by omega) (by omega)
  have HF := hide hfin
  have y0 : 0 ≤ x / 65536 := by omega
  have y1 : x / 65536 ≤ 255 := by omega
  clear hfin
  go_enter Tryd.func23, Tryd.ntmps23
  go_wp2
  go_ret
  refine ⟨congrArg Ending.returned (congrArg (Value.int IntKind.i64) ?_), rfl⟩
  rw [← unhide HF]
  exact len_wrap 16 (x / 65536) (by decide) y0 y1
set_option maxHeartbeats 4000000 in
set_option maxRecDepth 100000 in
theorem len64_24 (x : Int) (w : World) (h0 : 16777216 ≤ x) (h1 : x ≤ 4294967295) :
    Calls Tryd.prog 23 #[.int .u64 x] w fun e w' => e = .returned (.int .i64 (Lib.bitLen x.toNat)) ∧ w' = w := by
  have hs := tab_size
  have hfin := len_at x (x / 65536 / 256) 24 (by omega) (by omega) (by omega) (.inr (by omega)) (by omega) (by omega)
  have HF := hide hfin
  have y0 : 0 ≤ x / 65536 / 256 := by omega
  have y1 : x / 65536 / 256 ≤ 255 := by omega
  clear hfin
  go_enter Tryd.func23, Tryd.ntmps23
  go_wp2
  go_ret
  refine ⟨congrArg Ending.returned (congrArg (Value.int IntKind.i64) ?_), rfl⟩
  rw [← unhide HF]
  exact len_wrap 24 (x / 65536 / 256) (by decide) y0 y1
set_option maxHeartbeats 4000000 in
set_option maxRecDepth 100000 in
theorem len64_32 (x : Int) (w : World) (h0 : 4294967296 ≤ x) (h1 : x ≤ 1099511627775) :
    Calls Tryd.prog 23 #[.int .u64 x] w fun e w' => e = .returned (.int .i64 (Lib.bitLen x.toNat)) ∧ w' = w := by
  have hs := tab_size
  have hfin := len_at x (x / 4294967296) 32 (by omega) (by omega) (by omega) (.inr (by omega)) (by omega) (by omega)
  have HF := hide hfin
  have y0 : 0 ≤ x / 4294967296 := by omega
  have y1 : x / 4294967296 ≤ 255 := by omega
  clear hfin
  go_enter Tryd.func23, Tryd.ntmps23
  go_wp2
  go_ret
  refine ⟨congrArg Ending.returned (congrArg (Value.int IntKind.i64) ?_), rfl⟩
  rw [← unhide HF]
  exact len_wrap 32 (x / 4294967296) (by decide) y0 y1
set_option maxHeartbeats 4000000 in
set_option maxRecDepth 100000 in
theorem len64_40 (x : Int) (w : World) (h0 : 1099511627776 ≤ x) (h1 : x ≤ 281474976710655) :
    Calls Tryd.prog 23 #[.int .u64 x] w fun e w' => e = .returned (.int .i64 (Lib.bitLen x.toNat)) ∧ w' = w := by
  have hs := tab_size
  have hfin := len_at x (x / 4294967296 / 256) 40 (by omega) (by omega) (by omega) (.inr (by omega)) (by omega) (by omega)
  have HF := hide hfin
  have y0 : 0 ≤ x / 4294967296 / 256 := by omega
  have y1 : x / 4294967296 / 256 ≤ 255 := by omega
  clear hfin
  go_enter Tryd.func23, Tryd.ntmps23
  go_wp2
  go_ret
  refine ⟨congrArg Ending.returned (congrArg (Value.int IntKind.i64) ?_), rfl⟩
  rw [← unhide HF]
  exact len_wrap 40 (x / 4294967296 / 256) (by decide) y0 y1
set_option maxHeartbeats 4000000 in
set_option maxRecDepth 100000 in
theorem len64_48 (x : Int) (w : World) (h0 : 281474976710656 ≤ x) (h1 : x ≤ 72057594037927935) :
    Calls Tryd.prog 23 #[.int .u64 x] w fun e w' => e = .returned (.int .i64 (Lib.bitLen x.toNat)) ∧ w' = w := by
  have hs := tab_size
  have hfin := len_at x (x / 4294967296 / 65536) 48 (by omega) (by omega) (by omega) (.inr (by omega)) (by omega) (by omega)
  have HF := hide hfin
  have y0 : 0 ≤ x / 4294967296 / 65536 := by omega
  have y1 : x / 4294967296 / 65536 ≤ 255 := by omega
  clear hfin
  go_enter Tryd.func23, Tryd.ntmps23
  go_wp2
  go_ret
  refine ⟨congrArg Ending.returned (congrArg (Value.int IntKind.i64) ?_), rfl⟩
  rw [← unhide HF]
  exact len_wrap 48 (x / 4294967296 / 65536) (by decide) y0 y1
set_option maxHeartbeats 4000000 in
set_option maxRecDepth 100000 in
theorem len64_56 (x : Int) (w : World) (h0 : 72057594037927936 ≤ x) (h1 : x ≤ 18446744073709551615) :
    Calls Tryd.prog 23 #[.int .u64 x] w fun e w' => e = .returned (.int .i64 (Lib.bitLen x.toNat)) ∧ w' = w := by
  have hs := tab_size
  have hfin := len_at x (x / 4294967296 / 65536 / 256) 56 (by omega) (by omega) (by omega) (.inr (by omega)) (by omega) (by omega)
  have HF := hide hfin
  have y0 : 0 ≤ x / 4294967296 / 65536 / 256 := by omega
  have y1 : x / 4294967296 / 65536 / 256 ≤ 255 := by omega
  clear hfin
  go_enter Tryd.func23, Tryd.ntmps23
  go_wp2
  go_ret
  refine ⟨congrArg Ending.returned (congrArg (Value.int IntKind.i64) ?_), rfl⟩
  rw [← unhide HF]
  exact len_wrap 56 (x / 4294967296 / 65536 / 256) (by decide) y0 y1
theorem len64_any (x : Nat) (hx : x < B64) (w : World) :
    Calls Tryd.prog 23 #[.int .u64 x] w fun e w' => e = .returned (.int .i64 (Lib.bitLen x : Nat)) ∧ w' = w := by
  unfold B64 at hx
  have h : ∀ y : Int, y = (x : Int) → Calls Tryd.prog 23 #[.int .u64 y] w fun e w' => e = .returned (.int .i64 (Lib.bitLen y.toNat)) ∧ w' = w := by
    intro y hy
    by_cases a0 : y ≤ 255
    · exact len64_0 y w (by omega) a0
    by_cases a1 : y ≤ 65535
    · exact len64_8 y w (by omega) a1
    by_cases a2 : y ≤ 16777215
    · exact len64_16 y w (by omega) a2
    by_cases a3 : y ≤ 4294967295
    · exact len64_24 y w (by omega) a3
    by_cases a4 : y ≤ 1099511627775
    · exact len64_32 y w (by omega) a4
    by_cases a5 : y ≤ 281474976710655
    · exact len64_40 y w (by omega) a5
    by_cases a6 : y ≤ 72057594037927935
    · exact len64_48 y w (by omega) a6
    exact len64_56 y w (by omega) (by omega)
  have := h (x : Int) rfl
  rw [Int.toNat_natCast] at this
  exact this
end Go.Proofs.YtjipcmmaemokhaaDoor
