/- Hide, plain: each byte exclusive-or one of a mask. -/
import Derived.Test.YtajkbkljonejnaaGreatDoorM11
import Derived.Test.YtajkbkljonejnaaGreatDoorM08
import Derived.Test.YtajkbkljonejnaaGreatDoorM03
import Derived.Lib.ConvBytes
import Derived.Test.YtajkbkljonejnaaGreatDoorM04
import Derived.Deep.RegionHeld3
namespace Go.Proofs.YtajkbkljonejnaaGreatDoor
open Go.RowKit
set_option linter.unusedVariables false
def maskBh (K : Blk) (n0 n1 j : Nat) : Blk := fwd K 12 ⟨n0, n1, 0, j⟩
def byteB (v : Blk) (r : Nat) : Nat := v.at (r / 4) / 2 ^ (8 * (3 - r % 4)) % 256
theorem byteB_lt (v : Blk) (r : Nat) : byteB v r < 256 := Nat.mod_lt _ (by decide)
def maskAt (K : Blk) (n0 n1 i : Nat) : Nat := byteB (maskBh K n0 n1 (i / 16)) (i % 16)
theorem maskAt_lt (K : Blk) (n0 n1 i : Nat) : maskAt K n0 n1 i < 256 := byteB_lt _ _
def hidL (M : Nat → Nat) (l : List UInt8) : List Int := l.mapIdx fun i c => ((c.toNat ^^^ M i : Nat) : Int)
theorem hidL_length (M : Nat → Nat) (l : List UInt8) : (hidL M l).length = l.length := by simp [hidL]
theorem hidL_append (M : Nat → Nat) (a b : List UInt8) : hidL M (a ++ b) = hidL M a ++ hidL (fun i => M (a.length + i)) b := by
  unfold hidL
  rw [List.mapIdx_append]
  simp only [Nat.add_comm]
def hidAt (M : Nat → Nat) (l : List UInt8) (k : Nat) : List Int := hidL M (l.take k) ++ (l.drop k).map fun c => (c.toNat : Int)
theorem hidAt_zero (M : Nat → Nat) (l : List UInt8) : hidAt M l 0 = l.map fun c => (c.toNat : Int) := by simp [hidAt, hidL]
theorem hidAt_whole (M : Nat → Nat) (l : List UInt8) : hidAt M l l.length = hidL M l := by simp [hidAt]
theorem hidAt_length (M : Nat → Nat) (l : List UInt8) (k : Nat) (h : k ≤ l.length) : (hidAt M l k).length = l.length := by
  simp [hidAt, hidL_length]; omega
theorem hidAt_at (M : Nat → Nat) (l : List UInt8) (k : Nat) (c : UInt8) (hc : l[k]? = some c) : (hidAt M l k)[k]? = some (c.toNat : Int) := by
  have hk : k < l.length := by
    rcases Nat.lt_or_ge k l.length with h | h
    · exact h
    · rw [List.getElem?_eq_none h] at hc; cases hc
  unfold hidAt
  have hl : (hidL M (l.take k)).length = k := by rw [hidL_length, List.length_take]; omega
  rw [List.getElem?_append_right (by omega), hl, Nat.sub_self, List.getElem?_map, List.getElem?_drop, Nat.add_zero, hc]
  rfl
theorem hidAt_step (M : Nat → Nat) (l : List UInt8) (k : Nat) (c : UInt8) (hc : l[k]? = some c) : (hidAt M l k).set k ((c.toNat ^^^ M k : Nat) : Int) = hidAt M l (k + 1) := by
  have hk : k < l.length := by
    rcases Nat.lt_or_ge k l.length with h | h
    · exact h
    · rw [List.getElem?_eq_none h] at hc; cases hc
  have hck : l[k] = c := by rw [List.getElem?_eq_getElem hk] at hc; exact Option.some.inj hc
  unfold hidAt
  have hl : (hidL M (l.take k)).length = k := by rw [hidL_length, List.length_take]; omega
  have hlt : (l.take k).length = k := by rw [List.length_take]; omega
  rw [List.set_append_right _ _ (by omega), hl, Nat.sub_self, List.drop_eq_getElem_cons hk, List.map_cons, List.set_cons_zero, List.take_add_one, hc, hidL_append, hlt]
  simp [hidL]
theorem hidL_twice (M : Nat → Nat) (hM : ∀ i, M i < 256) (l : List UInt8) : hidL M (strOfNums (hidL M l)).data.toList = l.map fun c => (c.toNat : Int) := by
  rw [strOfNums_data]
  unfold hidL
  apply List.ext_getElem?
  intro i
  simp only [List.getElem?_mapIdx, List.getElem?_map]
  cases h : l[i]? with
  | none => rfl
  | some c =>
    simp only [Option.map_some, Int.toNat_natCast]
    have hx : c.toNat ^^^ M i < 256 := Nat.xor_lt_two_pow (n := 8) c.toNat_lt (hM i)
    rw [UInt8.toNat_ofNat', Nat.mod_eq_of_lt hx, xor_twice]
theorem strOfNums_own (s : ByteArray) : strOfNums (s.data.toList.map fun c => (c.toNat : Int)) = s := by
  apply ByteArray.ext
  apply Array.toList_inj.1
  rw [strOfNums_data, List.map_map]
  conv => rhs; rw [← List.map_id s.data.toList]
  apply List.map_congr_left
  intro b _
  simp
theorem xorL_blk (x : List UInt8) (v : Blk) (hx : x.length ≤ 16) : xorL x (blkS v).data.toList = hidL (byteB v) x := by
  apply List.ext_getElem?
  intro i
  unfold xorL hidL
  rw [List.getElem?_zipWith, List.getElem?_mapIdx]
  by_cases hi : i < x.length
  · have hb : (blkS v).data.toList[i]? = some (UInt8.ofNat (byteB v i)) := by
      rw [blkS, strOfNums_data, List.getElem?_map, blkL_at v i (by omega), Option.map_some, Int.toNat_natCast]
      rfl
    rw [List.getElem?_eq_getElem hi, hb]
    simp only [Option.map_some]
    rw [UInt8.toNat_ofNat', Nat.mod_eq_of_lt (byteB_lt v i)]
  · rw [List.getElem?_eq_none (by omega)]
    rfl
theorem hidL_piece (K : Blk) (n0 n1 : Nat) (l : List UInt8) (j : Nat) (h : 16 * j < l.length) : hidL (maskAt K n0 n1) (l.take (16 * (j + 1))) = hidL (maskAt K n0 n1) (l.take (16 * j)) ++ hidL (byteB (maskBh K n0 n1 j)) ((l.drop (16 * j)).take 16) := by
  have hl : (l.take (16 * j)).length = 16 * j := by rw [List.length_take]; omega
  have e : hidL (fun i => maskAt K n0 n1 (16 * j + i)) ((l.drop (16 * j)).take 16) = hidL (byteB (maskBh K n0 n1 j)) ((l.drop (16 * j)).take 16) := by
    unfold hidL
    apply List.ext_getElem?
    intro i
    rw [List.getElem?_mapIdx, List.getElem?_mapIdx]
    by_cases hi : i < 16
    · have e1 : maskAt K n0 n1 (16 * j + i) = byteB (maskBh K n0 n1 j) i := by
        unfold maskAt
        rw [show (16 * j + i) / 16 = j by omega, show (16 * j + i) % 16 = i by omega]
      simp only [e1]
    · have e2 : ((l.drop (16 * j)).take 16)[i]? = none := List.getElem?_eq_none (by rw [List.length_take]; omega)
      simp only [e2, Option.map_none]
  rw [← e, show 16 * (j + 1) = 16 * j + 16 by omega, List.take_add, hidL_append, hl]
def hideS (k n s : ByteArray) : ByteArray := strOfNums (hidL (maskAt (blkOf k.data.toList) (wordAt n.data.toList 0) (wordAt n.data.toList 1)) s.data.toList)
theorem hideS_size (k n s : ByteArray) : (hideS k n s).size = s.size := by rw [hideS, strOfNums_size, hidL_length]; simp
theorem hideS_twice (k n s : ByteArray) : hideS k n (hideS k n s) = s := by
  conv => lhs; rw [hideS]
  rw [hideS, hidL_twice _ (fun i => maskAt_lt _ _ _ _), strOfNums_own]
theorem wordAt_left (a b : List UInt8) (j : Nat) (h : 4 * j + 4 ≤ a.length) : wordAt (a ++ b) j = wordAt a j := by
  unfold wordAt
  rw [List.drop_append_of_le_length (by omega), List.take_append_of_le_length (by simp; omega)]
theorem blkOf_nonce (n : List UInt8) (j : Nat) (hn : n.length = 8) (hj : j < 4294967296) : blkOf (n ++ bytesOf (bigL j 8)) = ⟨wordAt n 0, wordAt n 1, 0, j⟩ := by
  have h := blkOf_size j (by omega)
  rw [Nat.div_eq_of_lt hj, Nat.mod_eq_of_lt hj] at h
  have e2 : wordAt (n ++ bytesOf (bigL j 8)) 2 = wordAt (List.replicate 8 0 ++ bytesOf (bigL j 8)) 2 := by
    unfold wordAt
    rw [List.drop_append_of_le_length (by omega), List.drop_append_of_le_length (by simp), List.drop_of_length_le (by omega), List.drop_of_length_le (by simp)]
  have e3 : wordAt (n ++ bytesOf (bigL j 8)) 3 = wordAt (List.replicate 8 0 ++ bytesOf (bigL j 8)) 3 := by
    unfold wordAt
    have d1 : n.drop (4 * 3) = [] := List.drop_of_length_le (by omega)
    have d2 : (List.replicate 8 (0 : UInt8)).drop (4 * 3) = [] := List.drop_of_length_le (by simp)
    rw [List.drop_append, List.drop_append, hn, List.length_replicate, d1, d2]
  unfold blkOf at h ⊢
  simp only [Blk.mk.injEq] at h
  rw [wordAt_left _ _ 0 (by omega), wordAt_left _ _ 1 (by omega), e2, e3, h.2.2.1, h.2.2.2]
end Go.Proofs.YtajkbkljonejnaaGreatDoor
namespace Go.Proofs.YtajkbkljonejnaaGreatDoor
open Go.RowKit Go.Shelf
set_option linter.unusedVariables false
def ORow (w : World) (g : Nat) (L : List Int) : Prop := ∃ (sp : Array Value) (fr : Nat × Nat), w.heap[g]? = some (.cells ((L.map (Value.int .u8)).toArray ++ sp) 5 fr) ∧ L.length ≤ fr.1
theorem ORow.cell {w : World} {g : Nat} {L : List Int} (h : ORow w g L) (j : Nat) (x : Int) (hx : L[j]? = some x) : w.cell? ⟨g, j, none⟩ = some (.int .u8 x) := by
  obtain ⟨sp, fr, hh, hl⟩ := h
  have hj : j < L.length := by
    rcases Nat.lt_or_ge j L.length with h | h
    · exact h
    · rw [List.getElem?_eq_none h] at hx; cases hx
  rw [cell_of_row _ _ j _ _ _ hh, Array.getElem?_append_left (by simpa using hj)]
  simp [hx]
theorem ORow.frozen {w : World} {g : Nat} {L : List Int} (h : ORow w g L) (j : Nat) (hj : j < L.length) : w.frozen? ⟨g, j, none⟩ = false := by
  obtain ⟨sp, fr, hh, hl⟩ := h
  simp [World.frozen?, hh]
  omega
theorem ORow.set {w : World} {g : Nat} {L : List Int} (h : ORow w g L) (j : Nat) (hj : j < L.length) (x : Int) : ORow (w.setCell ⟨g, j, none⟩ (.int .u8 x)) g (L.set j x) := by
  obtain ⟨sp, fr, hh, hl⟩ := h
  refine ⟨sp, fr, ?_, by simpa using hl⟩
  rw [set_rowM hh]
  congr 2
  rw [List.map_set]
  apply Array.toList_inj.1
  simp only [Array.toList_setIfInBounds, Array.toList_append]
  rw [List.set_append_left _ _ (by simpa using hj)]
theorem ORow.lt {w : World} {g : Nat} {L : List Int} (h : ORow w g L) : g < w.heap.size := by
  obtain ⟨sp, fr, hh, hl⟩ := h
  rcases Nat.lt_or_ge g w.heap.size with h | h
  · exact h
  · rw [Array.getElem?_eq_none h] at hh; cases hh
theorem ORow.below {w w' : World} {g : Nat} {L : List Int} (h : ORow w g L) (hb : Below w.heap.size w w') : ORow w' g L := by
  have hg := h.lt
  obtain ⟨sp, fr, hh, hl⟩ := h
  exact ⟨sp, fr, by rw [hb.block g hg, hh], hl⟩
theorem ORow.other {w : World} {g : Nat} {L : List Int} (h : ORow w g L) (b j : Nat) (hb : b ≠ g) (x : Value) : ORow (w.setCell ⟨b, j, none⟩ x) g L := by
  obtain ⟨sp, fr, hh, hl⟩ := h
  refine ⟨sp, fr, ?_, hl⟩
  rw [← hh]
  simp [World.setCell, Array.getElem?_modify, hb]
theorem ORow.drew {w : World} {g : Nat} {L : List Int} (h : ORow w g L) : ORow w.drew g L := h
theorem ORow.conv (w : World) (s : ByteArray) : ORow (Lib.bytesWorld w 5 s) w.heap.size (s.data.toList.map fun c => (c.toNat : Int)) := by
  refine ⟨Array.replicate (grownCap w s.size 0 5 - s.size) (.int .u8 0), ((Lib.bytesCells w 5 s).size, (Lib.bytesCells w 5 s).size + 1), ?_, ?_⟩
  · rw [Lib.bytesWorld_at_new]
    congr 2
    unfold Lib.bytesCells
    congr 1
    apply Array.toList_inj.1
    simp
  · simp [Lib.bytesCells]
theorem conv_below (w : World) (s : ByteArray) : Below w.heap.size w (Lib.bytesWorld w 5 s) :=
  ⟨rfl, rfl, rfl, by rw [Lib.bytesWorld_size]; omega, fun k hk => Lib.bytesWorld_at_old _ _ _ _ hk⟩
theorem repeat_anyM (s : ByteArray) (c : Nat) (w : World) (hc : c ≤ 9223372036854775807) (hlen : s.size * c ≤ 140737488355328) :
    Calls Tryz.prog 77 #[.string s, .int .i64 c] w fun e w' => e = .returned (.string ⟨(Lib.repeatL s.data.toList c).toArray⟩) ∧ Below w.heap.size w w' :=
  Any.strings_Repeat Tryz.lays105 Tryz.Builder_Extra_105 s c w hc hlen
theorem zeros8_any (w : World) : Calls Tryz.prog 77 #[.string ⟨#[0]⟩, .int .i64 8] w fun e w' => e = .returned (.string (zeroS 8)) ∧ Below w.heap.size w w' := by
  have h1 : (⟨#[0]⟩ : ByteArray).size = 1 := rfl
  exact repeat_anyM ⟨#[0]⟩ 8 w (by decide) (by rw [h1]; decide)
theorem blkS_get (v : Blk) (r : Nat) (h : r < (blkS v).size) : ((blkS v)[r]'h).toNat = byteB v r := by
  have hr : r < 16 := by rw [blkS_size] at h; exact h
  have e : (blkS v).data.toList[r]? = some ((blkS v)[r]'h) := by rw [List.getElem?_eq_getElem (by simpa using h)]; rfl
  have e' : (blkS v).data.toList[r]? = some (UInt8.ofNat (byteB v r)) := by
    rw [blkS, strOfNums_data, List.getElem?_map, blkL_at v r hr, Option.map_some, Int.toNat_natCast]
    rfl
  rw [e'] at e
  rw [← Option.some.inj e, UInt8.toNat_ofNat']
  exact Nat.mod_eq_of_lt (byteB_lt v r)
end Go.Proofs.YtajkbkljonejnaaGreatDoor
namespace Go.Proofs.YtajkbkljonejnaaGreatDoor
open Go.RowKit Go.Shelf
set_option linter.unusedVariables false
theorem nonce_blk (n : ByteArray) (hn : n.size = 8) : blkOf (n ++ zeroS 8).data.toList = ⟨wordAt n.data.toList 0, wordAt n.data.toList 1, 0, 0⟩ := by
  have h := blkOf_nonce n.data.toList 0 (by simpa using hn) (by decide)
  rw [← h, ByteArray.data_append, Array.toList_append, zeroS_data]
  rfl
set_option maxHeartbeats 4000000 in
set_option maxRecDepth 100000 in
theorem hide_yes (k n s : ByteArray) (hk : k.size = 16) (hn : n.size = 8) (hs : (s.size : Int) ≤ 65536) (w : World) :
    Calls Tryz.prog 26 #[.string k, .string n, .string s] w fun e w' => e = .returned (.tuple #[.string (hideS k n s), .int .i64 0]) ∧ Below w.heap.size w w' := by
  have t0 := len_eq k hk
  have t1 : ((n.size : Int) != 8) = false := by rw [bne_eq_false_iff_eq]; omega
  have z8 := zeroS_size 8
  have hnz : (n ++ zeroS 8).size = 16 := by rw [ByteArray.size_append, hn, z8]
  have N1 := hide (fun w => read_any k (by omega) w)
  have N2 := hide (fun w => zeros8_any w)
  have n3 := fun w => read_any (n ++ zeroS 8) (by omega) w
  rw [nonce_blk n hn] at n3
  have N3 := hide n3
  have hcv := fun W => Lib.run_convert_string_bytes (P := Tryz.prog) W 9 55 5 s Tryz.underlying9 Tryz.underlying55 Tryz.underlying5
  have hK := blkOf_ok k.data.toList
  have hn0 := wordAt_lt n.data.toList 0
  have hn1 := wordAt_lt n.data.toList 1
  have hfin : hideS k n s = strOfNums (hidL (maskAt (blkOf k.data.toList) (wordAt n.data.toList 0) (wordAt n.data.toList 1)) s.data.toList) := rfl
  have HF := hide hfin
  clear hfin n3 hk
  generalize blkOf k.data.toList = K at *
  generalize wordAt n.data.toList 0 = m0 at *
  generalize wordAt n.data.toList 1 = m1 at *
  generalize zeroS 8 = z at *
  unfold blkV at N1 N3
  go_enter Tryz.func26, Tryz.ntmps26
  go_wp2_with fail
  refine (unhide N1 _).mono ?_
  rintro e x1 ⟨rfl, b1⟩
  go_wp2_with fail
  refine (unhide N2 _).mono ?_
  rintro e x2 ⟨rfl, b2⟩
  have g2 := b1.trans (b2.mono b1.size)
  clear b1 b2 N1 N2
  go_wp2_with fail
  refine (unhide N3 _).mono ?_
  rintro e x3 ⟨rfl, b3⟩
  have g3 := g2.trans (b3.mono g2.size)
  clear b3 g2 N3
  go_wp2_with fail
  obtain ⟨hb2, q0, q1, hsz⟩ := two_newM x3 (.cells #[.int .u32 (K.a : Nat), .int .u32 (K.b : Nat), .int .u32 (K.c : Nat), .int .u32 (K.d : Nat)] 131) (.cells #[.int .u32 (m0 : Nat), .int .u32 (m1 : Nat), .int .u32 0, .int .u32 0] 131)
  generalize (x3.alloc _).alloc _ = W at hb2 q0 q1 hsz ⊢
  have hKW : BlkAt W x3.heap.size K := q0
  have hNW : BlkAt W (x3.heap.size + 1) ⟨m0, m1, 0, 0⟩ := q1
  have hcb := conv_below W s
  have hO := ORow.conv W s
  have hKV := hKW.below hcb
  have hNV := hNW.below hcb
  have g4 := (g3.trans (hb2.mono g3.size))
  have g5 := g4.trans (hcb.mono g4.size)
  have hgx : w.heap.size ≤ x3.heap.size := g3.size
  rw [hsz] at hO
  rw [← hidAt_zero (maskAt K m0 m1)] at hO
  generalize grownCap W s.size 0 5 = cap at *
  generalize Lib.bytesWorld W 5 s = V at *
  clear hcv hcb hKW hNW q0 q1 hb2 g3 g4 hsz
  obtain ⟨l, hl⟩ : ∃ l, l = s.data.toList := ⟨_, rfl⟩
  have hll : l.length = s.size := by rw [hl]; simp
  rw [← hl] at hO
  have HL := hide hl
  obtain ⟨g, hg⟩ : ∃ g, g = x3.heap.size := ⟨_, rfl⟩
  rw [← hg] at hO hKV hNV hgx ⊢
  clear hl hg
  go_loopw [10, 36] (fun mk i wr => ∃ (j : Nat) (ms : ByteArray) (x : Nat), j ≤ s.size ∧ i = .int .i64 j ∧ mk = .string ms ∧ (j % 16 ≠ 0 → ms = blkS (maskBh K m0 m1 (j / 16))) ∧ x < 4294967296 ∧ BlkAt wr g K ∧ BlkAt wr (g + 1) ⟨m0, m1, 0, x⟩ ∧ ORow wr (g + 1 + 1) (hidAt (maskAt K m0 m1) l j) ∧ Below w.heap.size w wr) (fun _ i _ => s.size - (intOf i).toNat)
  case atStart => exact ⟨0, ⟨#[]⟩, 0, Nat.zero_le _, rfl, rfl, fun h => absurd rfl h, by decide, hKV, hNV, hO, g5⟩
  case round =>
    clear hKV hNV hO g5 V
    obtain ⟨j, ms, x, hj, rfl, rfl, hms, hx, hKb, hNb, hO, hbel⟩ := hrel
    by_cases hlt : j < s.size
    · have hjl : j < l.length := by omega
      obtain ⟨c, hc⟩ : ∃ c, l[j]? = some c := ⟨l[j], List.getElem?_eq_getElem hjl⟩
      have hcl := hidAt_at (maskAt K m0 m1) l j c hc
      have hst := hidAt_step (maskAt K m0 m1) l j c hc
      have hOl := hidAt_length (maskAt K m0 m1) l j (by omega)
      have hyl := maskAt_lt K m0 m1 j
      have hxr := xor_u8 c.toNat (maskAt K m0 m1 j) c.toNat_lt hyl
      obtain ⟨r, hr⟩ : ∃ r, r = j % 16 := ⟨_, rfl⟩
      obtain ⟨q, hq⟩ : ∃ q, q = j / 16 := ⟨_, rfl⟩
      have hri : (j : Int) % 16 = (r : Int) := by omega
      have hqi : (j : Int) / 16 = (q : Int) := by omega
      have hr16 : r < 16 := by omega
      have hq16 : q ≤ 4096 := by omega
      have hmb : ∀ h : r < (blkS (maskBh K m0 m1 q)).size, (((blkS (maskBh K m0 m1 q))[r]'h).toNat : Int) = (maskAt K m0 m1 j : Nat) := fun h => by
        rw [blkS_get, maskAt, hr, hq]
      have hms16 := blkS_size (maskBh K m0 m1 q)
      have hMok : (maskBh K m0 m1 q).ok := fwd_ok _ _ _ ⟨hn0, hn1, show (0 : Nat) < 4294967296 by decide, show q < 4294967296 by omega⟩
      obtain ⟨y, hy⟩ : ∃ y, y = maskAt K m0 m1 j := ⟨_, rfl⟩
      rw [← hy] at hst hyl hxr hmb
      obtain ⟨c', hc'⟩ : ∃ c', c' = c.toNat := ⟨_, rfl⟩
      have hc256 : c' < 256 := by rw [hc']; exact c.toNat_lt
      rw [← hc'] at hst hxr hcl
      have oc := hO.cell j _ hcl
      have of := hO.frozen j (by rw [hOl]; exact hjl)
      have hz256 : c' ^^^ y < 256 := Nat.xor_lt_two_pow (n := 8) hc256 hyl
      by_cases hr0 : r = 0
      · have tr : ((r : Int) == 0) = true := by rw [hr0]; rfl
        have hset := (((hO.other (g + 1) 3 (by omega) (.int .u32 (q : Nat)))))
        have k0 := hKb.cell0
        have k1 := hKb.cell1
        have k2 := hKb.cell2
        have k3 := hKb.cell3
        have b0 := hNb.cell0
        have b1 := hNb.cell1
        have b2 := hNb.cell2
        have b3 := hNb.cell3
        have f3 := hNb.frozen 3
        have hKS := hKb.other (g + 1) 3 (by omega) (.int .u32 (q : Nat))
        have hNS : BlkAt (wr.setCell ⟨g + 1, 3, none⟩ (.int .u32 (q : Nat))) (g + 1) ⟨m0, m1, 0, q⟩ := hNb.set 3 (by decide) q
        have hBS := hbel.setCell (p := ⟨g + 1, 3, none⟩) (Nat.le_succ_of_le hgx) (.int .u32 (q : Nat))
        have N1 := hide (fun w => forth_any K ⟨m0, m1, 0, q⟩ hK ⟨hn0, hn1, show (0 : Nat) < 4294967296 by decide, show q < 4294967296 by omega⟩ w)
        have N2 := hide (fun w => mtext_any (maskBh K m0 m1 q) hMok w)
        have e1 : fwd K 12 ⟨m0, m1, 0, q⟩ = maskBh K m0 m1 q := rfl
        rw [e1] at N1
        unfold blkV at N1
        have HKS := hide hKS
        have HNS := hide hNS
        have HOS := hide hset
        have HBS := hide hBS
        have HST := hide hst
        have HCL := hide hcl
        have HOL := hide (show j < (hidAt (maskAt K m0 m1) l j).length by rw [hOl]; exact hjl)
        have HMS := hide (show (j + 1) % 16 ≠ 0 → blkS (maskBh K m0 m1 q) = blkS (maskBh K m0 m1 ((j + 1) / 16)) from fun h => by rw [show (j + 1) / 16 = q by omega])
        have hq32 : q < 4294967296 := by omega
        clear e1 hKb hNb hO hbel hset hKS hNS hBS hst hMok hms hcl hOl hc hc' hy hr hq hr0
        generalize blkS (maskBh K m0 m1 q) = mt at *
        obtain ⟨M, hM⟩ : ∃ M, M = maskBh K m0 m1 q := ⟨_, rfl⟩
        rw [← hM] at N1 N2
        unfold blkV at N2
        clear hM
        go_wp2_with fail
        refine (unhide N1 _).mono ?_
        rintro e y1 ⟨rfl, d1⟩
        have K1 := hide ((unhide HKS).below d1)
        have B1 := hide ((unhide HNS).below d1)
        have O1 := hide ((unhide HOS).below d1)
        have W1 := hide ((unhide HBS).trans (d1.mono (unhide HBS).size))
        clear HKS HNS HOS HBS d1 k0 k1 k2 k3 b0 b1 b2 b3 f3 oc of N1
        go_wp2_with fail
        refine (unhide N2 _).mono ?_
        rintro e y2 ⟨rfl, d2⟩
        have K2 := hide ((unhide K1).below d2)
        have B2 := hide ((unhide B1).below d2)
        have o2 := (unhide O1).below d2
        have W2 := hide ((unhide W1).trans (d2.mono (unhide W1).size))
        have oc := o2.cell j _ (unhide HCL)
        have of := o2.frozen j (unhide HOL)
        have hs2 := o2.set j (unhide HOL) ((c' ^^^ y : Nat) : Int)
        rw [unhide HST] at hs2
        have O2 := hide hs2
        clear K1 B1 O1 W1 d2 hs2 N2 o2
        generalize c' ^^^ y = zz at *
        go_wp2_with fail
        go_region
        go_wp2
        go_roundw
        case rel => exact ⟨j + 1, mt, q, hlt, by go_num, rfl, unhide HMS, hq32, ((unhide K2).other _ _ (by omega) _).drew, ((unhide B2).other _ _ (by omega) _).drew, (unhide O2).drew, ((unhide W2).setCell (Nat.le_succ_of_le (Nat.le_succ_of_le hgx)) _).drew⟩
        case measure => simp [intOf]; omega
      · have tr : ((r : Int) == 0) = false := by rw [beq_eq_false_iff_ne]; omega
        have hmt := hms (by omega)
        rw [← hq] at hmt
        have hs2 := hO.set j (by rw [hOl]; exact hjl) ((c' ^^^ y : Nat) : Int)
        rw [hst] at hs2
        have HMS := hide (show (j + 1) % 16 ≠ 0 → blkS (maskBh K m0 m1 q) = blkS (maskBh K m0 m1 ((j + 1) / 16)) from fun h => by rw [show (j + 1) / 16 = q by omega])
        have K2 := hide hKb
        have B2 := hide hNb
        have O2 := hide hs2
        have W2 := hide hbel
        subst hmt
        clear hKb hNb hO hbel hs2 hst hMok hms hcl hOl hc hc' hy hr hq hr0
        generalize blkS (maskBh K m0 m1 q) = mt at *
        generalize c' ^^^ y = zz at *
        go_wp2_with fail
        go_region
        go_wp2
        go_roundw
        case rel => exact ⟨j + 1, mt, x, hlt, by go_num, rfl, unhide HMS, hx, ((unhide K2).other _ _ (by omega) _).drew, ((unhide B2).other _ _ (by omega) _).drew, (unhide O2).drew, ((unhide W2).setCell (Nat.le_succ_of_le (Nat.le_succ_of_le hgx)) _).drew⟩
        case measure => simp [intOf]; omega
    · have hjn : j = s.size := by omega
      subst hjn
      rw [← hll, hidAt_whole] at hO
      have hcells : ∀ i, i < s.size → wr.cell? ⟨g + 1 + 1, 0 + i, none⟩ = some (.int .u8 ((hidL (maskAt K m0 m1) l).getD i 0)) := by
        intro i hi
        have hil : i < (hidL (maskAt K m0 m1) l).length := by rw [hidL_length, hll]; exact hi
        rw [Nat.zero_add, hO.cell i _ (List.getElem?_eq_getElem hil)]
        simp [List.getElem?_eq_getElem hil]
      have hcv := run_convert_bytes_arg (P := Tryz.prog) wr 55 5 Tryz.underlying55 Tryz.underlying5 (g + 1 + 1) 0 s.size cap _ (by rw [hidL_length, hll]) hcells 9 Tryz.underlying9
      have HFf := unhide HF
      rw [← unhide HL] at HFf
      rw [← HFf] at hcv
      clear hcells hO hKb hNb hms HF HFf
      go_wp2
      go_ret2
      exact ⟨rfl, hbel⟩
end Go.Proofs.YtajkbkljonejnaaGreatDoor
namespace Go.Proofs.YtajkbkljonejnaaGreatDoor
open Go.RowKit Go.Shelf
set_option linter.unusedVariables false
theorem hide_piece (k n s : ByteArray) (hn : n.size = 8) (j : Nat) (h : 16 * j < s.size) (hj : j < 4294967296) (e : Nat) (he : e = min (16 * j + 16) s.size) :
    strOfNums (hidL (maskAt (blkOf k.data.toList) (wordAt n.data.toList 0) (wordAt n.data.toList 1)) (s.data.toList.take (16 * j))) ++ xorS (s.extract (16 * j) e) (turnS k (n ++ strOfNums (bigL j 8))) = strOfNums (hidL (maskAt (blkOf k.data.toList) (wordAt n.data.toList 0) (wordAt n.data.toList 1)) (s.data.toList.take (16 * (j + 1)))) := by
  have hl : s.data.toList.length = s.size := by simp
  have hd : (n ++ strOfNums (bigL j 8)).data.toList = n.data.toList ++ bytesOf (bigL j 8) := by
    rw [ByteArray.data_append, Array.toList_append, strOfNums_data]; rfl
  rw [hidL_piece _ _ _ _ _ (by rw [hl]; exact h), ← strOfNums_append]
  congr 1
  unfold xorS turnS
  rw [hd, blkOf_nonce _ _ (by simpa using hn) hj, extract_listR]
  have e1 : (s.data.toList.drop (16 * j)).take (e - 16 * j) = (s.data.toList.drop (16 * j)).take 16 := by
    by_cases hc : 16 * j + 16 ≤ s.size
    · rw [he, Nat.min_eq_left hc, Nat.add_sub_cancel_left]
    · rw [he, Nat.min_eq_right (by omega), List.take_of_length_le (by rw [List.length_drop, hl]; omega), List.take_of_length_le (by rw [List.length_drop, hl]; omega)]
  rw [e1, xorL_blk _ _ (by rw [List.length_take]; omega)]
  rfl
set_option maxHeartbeats 4000000 in
set_option maxRecDepth 100000 in
theorem rhide_any (k n s : ByteArray) (hk : k.size = 16) (hn : n.size = 8) (hs : (s.size : Int) ≤ 65536) (w : World) :
    Calls Tryz.prog 37 #[.string k, .string n, .string s] w fun e w' => e = .returned (.string (hideS k n s)) ∧ Below w.heap.size w w' := by
  have hfin : hideS k n s = strOfNums (hidL (maskAt (blkOf k.data.toList) (wordAt n.data.toList 0) (wordAt n.data.toList 1)) s.data.toList) := rfl
  have HF := hide hfin
  have hl : s.data.toList.length = s.size := by simp
  have HL := hide hl
  clear hfin hl
  go_enter Tryz.func37, Tryz.ntmps37
  go_wp2
  go_loopw [7, 8] (fun t i wr => ∃ j : Nat, 16 * j ≤ s.size + 15 ∧ i = .int .i64 (16 * j : Nat) ∧ t = .string (strOfNums (hidL (maskAt (blkOf k.data.toList) (wordAt n.data.toList 0) (wordAt n.data.toList 1)) (s.data.toList.take (16 * j)))) ∧ Below w.heap.size w wr) (fun _ i _ => s.size + 32 - (intOf i).toNat)
  case atStart => exact ⟨0, Nat.zero_le _, rfl, rfl, Below.refl _ _⟩
  case round =>
    obtain ⟨j, hj, rfl, rfl, hbel⟩ := hrel
    by_cases hlt : 16 * j < s.size
    · obtain ⟨e, he⟩ : ∃ e, e = min (16 * j + 16) s.size := ⟨_, rfl⟩
      have hp := hide_piece k n s hn j hlt (by omega) e he
      obtain ⟨p, hpj⟩ : ∃ p, p = 16 * j := ⟨_, rfl⟩
      rw [← hpj] at hp hlt
      have hmin : min ((p : Int) + 16) (s.size : Int) = (e : Int) := by omega
      have hdiv : (p : Int) / 16 = (j : Int) := by omega
      have hpe : p ≤ e := by omega
      have hes : e ≤ s.size := by omega
      have he16 : e ≤ p + 16 := by omega
      have s8 : (strOfNums (bigL j 8)).size = 8 := by rw [strOfNums_size, bigL_length]
      have hns : (n ++ strOfNums (bigL j 8)).size = 16 := by rw [ByteArray.size_append, hn, s8]
      have N1 := hide (fun w => (big_any j 8 w (by decide) (by omega) : Calls Tryz.prog 89 #[.int .i64 j, .int .i64 8] w _))
      have N2 := hide (fun w => rturn_any k (n ++ strOfNums (bigL j 8)) hk hns w)
      have hts := turnS_size k (n ++ strOfNums (bigL j 8))
      have hxs : (s.extract p e).size = e - p := by simp; omega
      have N3 := hide (fun w => rxor_any (s.extract p e) (turnS k (n ++ strOfNums (bigL j 8))) (by omega) (by omega) w)
      have hzs := xorS_size (s.extract p e) (turnS k (n ++ strOfNums (bigL j 8))) (by omega)
      have hss : (strOfNums (hidL (maskAt (blkOf k.data.toList) (wordAt n.data.toList 0) (wordAt n.data.toList 1)) (s.data.toList.take p))).size = p := by
        rw [strOfNums_size, hidL_length, List.length_take, unhide HL]; omega
      rw [← hpj]
      generalize xorS (s.extract p e) (turnS k (n ++ strOfNums (bigL j 8))) = x3 at *
      generalize turnS k (n ++ strOfNums (bigL j 8)) = x2 at *
      generalize strOfNums (bigL j 8) = x1 at *
      obtain ⟨S2, hS2⟩ : ∃ S2, S2 = strOfNums (hidL (maskAt (blkOf k.data.toList) (wordAt n.data.toList 0) (wordAt n.data.toList 1)) (s.data.toList.take (16 * (j + 1)))) := ⟨_, rfl⟩
      rw [← hS2] at hp
      generalize strOfNums (hidL (maskAt (blkOf k.data.toList) (wordAt n.data.toList 0) (wordAt n.data.toList 1)) (s.data.toList.take p)) = S at *
      have HP := hide hp
      have HS2 := hide hS2
      have HPJ := hide hpj
      have HW := hide hbel
      have hj4 : (j : Int) ≤ 4096 := by omega
      clear hp hS2 hpj hbel he
      go_wp2_with fail
      refine (unhide N1 _).mono ?_
      rintro e y1 ⟨rfl, d1⟩
      go_wp2_with fail
      refine (unhide N2 _).mono ?_
      rintro e y2 ⟨rfl, d2⟩
      go_wp2_with fail
      refine (unhide N3 _).mono ?_
      rintro e y3 ⟨rfl, d3⟩
      have g1 := (unhide HW).trans (d1.mono (unhide HW).size)
      have g2 := g1.trans (d2.mono g1.size)
      have W3 := hide (g2.trans (d3.mono g2.size))
      have hj16 : 16 * (j + 1) ≤ s.size + 15 := by have := unhide HPJ; omega
      clear N1 N2 N3 HW d1 d2 d3 g1 g2
      go_wp2
      go_roundw
      case rel => exact ⟨j + 1, hj16, by have := unhide HPJ; go_num, by rw [unhide HP, unhide HS2], unhide W3⟩
      case measure => have := unhide HPJ; simp [intOf]; omega
    · have ht : s.data.toList.take (16 * j) = s.data.toList := List.take_of_length_le (by rw [unhide HL]; omega)
      rw [ht, ← unhide HF]
      obtain ⟨p, hpj⟩ : ∃ p, p = 16 * j := ⟨_, rfl⟩
      rw [← hpj]
      have hp : ¬ (p : Int) < (s.size : Int) := by omega
      clear ht hpj hlt hj HF HL
      go_wp2
      go_ret
      exact ⟨rfl, hbel⟩
end Go.Proofs.YtajkbkljonejnaaGreatDoor
namespace Go.Proofs.YtajkbkljonejnaaGreatDoor
open Go.RowKit Go.Shelf
set_option linter.unusedVariables false
def ordS (x : XOrder) : ByteArray := oneS x.what ++ numS x.n 8 ++ oneS x.text.size ++ x.text
def ordL : List XOrder → List UInt8
  | [] => []
  | x :: r => (ordS x).data.toList ++ ordL r
def ordT (l : List XOrder) : ByteArray := ⟨(ordL l).toArray⟩
theorem ordL_append (a b : List XOrder) : ordL (a ++ b) = ordL a ++ ordL b := by
  induction a with
  | nil => rfl
  | cons x r ih => simp [ordL, ih]
theorem ordL_take (l : List XOrder) (k : Nat) (x : XOrder) (h : l[k]? = some x) : ordL (l.take (k + 1)) = ordL (l.take k) ++ (ordS x).data.toList := by
  rw [List.take_add_one, h, ordL_append]
  simp [ordL]
theorem ordS_size (x : XOrder) : (ordS x).size ≤ 10 + x.text.size := by
  rw [ordS, ByteArray.size_append, ByteArray.size_append, ByteArray.size_append, oneS_size, oneS_size]
  have := numS_size x.n 8
  omega
theorem ordL_length (l : List XOrder) (h : ∀ x ∈ l, x.text.size ≤ 16) : (ordL l).length ≤ 26 * l.length := by
  induction l with
  | nil => simp [ordL]
  | cons x r ih =>
    have h1 := ih fun y hy => h y (List.mem_cons_of_mem _ hy)
    have h2 := ordS_size x
    have h3 := h x (List.mem_cons_self ..)
    have h4 : (ordS x).data.toList.length = (ordS x).size := by simp
    simp only [ordL, List.length_append, List.length_cons]
    omega
theorem ordT_size (l : List XOrder) (h : ∀ x ∈ l, x.text.size ≤ 16) (h8 : l.length ≤ 8) : (ordT l).size ≤ 208 := by
  have h1 := ordL_length l h
  have h2 : (ordT l).size = (ordL l).length := by simp [ordT, ByteArray.size]
  omega
theorem ordCells (l : List UInt8) (s : ByteArray) : Lib.byteCells (l ++ s.data.toList) = Lib.byteCells l ++ Lib.strCells s := byteCells_append _ _
theorem ownsRow_belowO {w w' : World} {base : Nat} {e : TypeId} {size : Nat} {v : Value} {n : Nat} {xs : List Value} (h : w.ownsRow base e size v n xs) (hb : Below w.heap.size w w') : w'.ownsRow base e size v n xs := by
  refine ⟨h.1, ?_⟩
  rcases h.2 with h0 | ⟨g, cap, cur, e1, e2, e3, e4⟩
  · exact .inl h0
  · refine .inr ⟨g, cap, cur, e1, e2, ?_, e4⟩
    have hg : g < w.heap.size := by
      rcases Nat.lt_or_ge g w.heap.size with h | h
      · exact h
      · rw [Array.getElem?_eq_none h] at e3; cases e3
    rw [hb.block g hg]; exact e3
theorem builderAt_below {T e : TypeId} {B b : Nat} {p : Value} {bs : List Value} {w w' : World} (h : Lib.BuilderAt T e B b p bs w) (hb : Below w.heap.size w w') : Lib.BuilderAt T e B b p bs w' := by
  obtain ⟨hB, v, hbk, hown, hne⟩ := h
  have hlt : b < w.heap.size := by
    rcases Nat.lt_or_ge b w.heap.size with h' | h'
    · exact h'
    · simp [Array.getElem?_eq_none h'] at hbk
  exact ⟨hB, v, (hb.block b hlt).trans hbk, ownsRow_belowO hown hb, hne⟩
theorem isBuilder_below {T e : TypeId} {B b : Nat} {bs : List Value} {w w' : World} (h : Lib.IsBuilder T e B b bs w) (hb : Below w.heap.size w w') : Lib.IsBuilder T e B b bs w' := by
  rcases h with h | h
  · exact .inl (builderAt_below h hb)
  · exact .inr (builderAt_below h hb)
theorem isBuilder_own {T e : TypeId} {B b : Nat} {bs : List Value} {w : World} (h : Lib.IsBuilder T e B b bs w) : b < w.heap.size ∧ ∃ v, w.cell? ⟨b, 1, none⟩ = some v ∧ ∀ g, v.ownBlock = some g → g < w.heap.size := by
  have aux : ∀ p, Lib.BuilderAt T e B b p bs w → b < w.heap.size ∧ ∃ v, w.cell? ⟨b, 1, none⟩ = some v ∧ ∀ g, v.ownBlock = some g → g < w.heap.size := by
    rintro p ⟨hB, v, hbk, hown, hne⟩
    have hlt : b < w.heap.size := by
      rcases Nat.lt_or_ge b w.heap.size with h' | h'
      · exact h'
      · simp [Array.getElem?_eq_none h'] at hbk
    exact ⟨hlt, v, by rw [Lib.cell_of_heap hbk]; rfl, fun g hg => (hown.lt g hg).2⟩
  rcases h with h | h
  · exact aux _ h
  · exact aux _ h
theorem cell_heapO {w w' : World} {a : Addr} {v : Value} (h : w.cell? a = some v) (hh : w'.heap[a.block]? = w.heap[a.block]?) : w'.cell? a = some v := by
  unfold World.cell? at *
  rw [hh]
  exact h
set_option maxHeartbeats 4000000 in
set_option maxRecDepth 100000 in
theorem writeOrders_any (l : List XOrder) (ao : Option Addr) (cap : Nat) (w : World) (hr : RowOrder w ao l) (h8 : l.length ≤ 8) (ht : ∀ x ∈ l, x.text.size ≤ 16) :
    Calls Tryz.prog 25 #[.slice ao l.length cap] w fun e w' => e = .returned (.string (ordT l)) ∧ Below w.heap.size w w' := by
  obtain ⟨hr, hok, hm⟩ := hr
  have HR := hide hr; have HOK := hide hok; have HT := hide ht
  clear hr hok hm ht
  go_enter Tryz.func25, Tryz.ntmps25
  go_wp2
  have hfr := Lib.fresh_isBuilder 122 5 w
  obtain ⟨hbel, q0, hsz⟩ : Below w.heap.size w (w.alloc (.cells #[.pointer none, .slice none 0 0] 122)) ∧ True ∧ (w.alloc (.cells #[.pointer none, .slice none 0 0] 122)).heap.size = w.heap.size + 1 := ⟨(Below.refl _ _).alloc (Nat.le_refl _) _, trivial, by simp⟩
  generalize w.alloc _ = W0 at hfr hbel hsz ⊢
  go_loopw [8] (fun i wr => ∃ k : Nat, k ≤ l.length ∧ i = .int .i64 k ∧ Lib.IsBuilder 122 5 w.heap.size w.heap.size (Lib.byteCells (ordL (l.take k))) wr ∧ w.heap.size < wr.heap.size ∧ Below w.heap.size w wr) (fun i _ => l.length - (intOf i).toNat)
  case atStart => exact ⟨0, Nat.zero_le _, rfl, hfr, by omega, hbel⟩
  case round =>
    obtain ⟨k, hk, rfl, hB, hlt0, hbel⟩ := hrel
    by_cases hlt : k < l.length
    · obtain ⟨y, hy⟩ : ∃ y, l[k]? = some y := ⟨_, List.getElem?_eq_getElem hlt⟩
      rcases (unhide HR) with hnil | ⟨b, off, rfl, hb, hc⟩
      · rw [hnil] at hlt; simp at hlt
      obtain ⟨c0, c1, c2⟩ := hc k y hy
      have d0 : wr.cell? ⟨b, off + k * 3, none⟩ = _ := (hbel.cell (p := ⟨b, off + k * 3, none⟩) hb).trans c0
      have d1 : wr.cell? ⟨b, off + k * 3 + 1, none⟩ = _ := (hbel.cell (p := ⟨b, off + k * 3 + 1, none⟩) hb).trans c1
      have d2 : wr.cell? ⟨b, off + k * 3 + 2, none⟩ = _ := (hbel.cell (p := ⟨b, off + k * 3 + 2, none⟩) hb).trans c2
      have hst := ordL_take l k y hy
      have hty := unhide HT y (List.mem_of_getElem? hy)
      obtain ⟨⟨_, _⟩, ⟨_, hn63⟩, _⟩ := unhide HOK y (List.mem_of_getElem? hy)
      have hlen : (ordL (l.take k)).length ≤ 26 * 8 := by
        have h1 := ordL_length (l.take k) (fun x hx => unhide HT x (List.mem_of_mem_take hx))
        have h2 := List.length_take_le k l
        omega
      obtain ⟨wh, n, tx⟩ := y
      simp only at d0 d1 d2 hty hn63 hst
      have e3 : ordS ⟨wh, n, tx⟩ = oneS wh ++ numS n 8 ++ oneS tx.size ++ tx := rfl
      rw [e3] at hst
      have n1 := fun w => one_any wh w
      have n2 := fun w => onumber_any n 8 hn63 w
      have n3 := fun w => one_any tx.size w
      have z1 := oneS_size wh
      have z2 := numS_size n 8
      have z3 := oneS_size tx.size
      clear hc c0 c1 c2 hy hfr e3
      generalize oneS wh = a1 at *
      generalize numS n 8 = a2 at *
      generalize oneS tx.size = a3 at *
      generalize ordL (l.take k) = RL at *
      have hbc := ordCells RL (a1 ++ a2 ++ a3 ++ tx)
      rw [← hst] at hbc
      have s12 : (a1 ++ a2).size ≤ 9 := by rw [ByteArray.size_append]; omega
      have s123 : (a1 ++ a2 ++ a3).size ≤ 10 := by rw [ByteArray.size_append]; omega
      have s1234 : (a1 ++ a2 ++ a3 ++ tx).size ≤ 26 := by rw [ByteArray.size_append]; omega
      have ha1 := fun w' => run_string_add_sum (P := Tryz.prog) w' a1 a2 (by omega)
      have ha2 := fun w' => run_string_add_sum (P := Tryz.prog) w' (a1 ++ a2) a3 (by omega)
      have ha3 := fun w' => run_string_add_sum (P := Tryz.prog) w' (a1 ++ a2 ++ a3) tx (by omega)
      obtain ⟨W, hW⟩ : ∃ W, W = wr.alloc (.cells #[.int .i64 wh, .int .i64 n, .string tx] 94) := ⟨_, rfl⟩
      have hWs : W.heap.size = wr.heap.size + 1 := by rw [hW]; simp
      have hbx : Below wr.heap.size wr W := by rw [hW]; exact (Below.refl _ _).alloc (Nat.le_refl _) _
      have hS : ∀ w', Below W.heap.size W w' → w'.cell? ⟨wr.heap.size, 0, none⟩ = some (.int .i64 wh) ∧ w'.cell? ⟨wr.heap.size, 1, none⟩ = some (.int .i64 n) ∧ w'.cell? ⟨wr.heap.size, 2, none⟩ = some (.string tx) := fun w' hb => by
        refine ⟨?_, ?_, ?_⟩ <;> (refine (hb.cell (by rw [hWs]; simp)).trans ?_; rw [hW, World.cell?_alloc_at _ _ _ _ (by simp)]; rfl)
      have hNW : ∀ w', Below W.heap.size W w' → Calls Tryz.prog 72 #[.pointer (some ⟨w.heap.size, 0, none⟩), .string (a1 ++ a2 ++ a3 ++ tx)] w' fun e w2 => e = .returned (.tuple #[.int .i64 (a1 ++ a2 ++ a3 ++ tx).size, .nilIface]) ∧ Lib.BuilderAt 122 5 w.heap.size w.heap.size (.pointer (some ⟨w.heap.size, 0, none⟩)) (Lib.byteCells (ordL (l.take (k + 1)))) w2 ∧ Below w.heap.size w w2 ∧ w.heap.size < w2.heap.size ∧ (w2.cell? ⟨wr.heap.size, 0, none⟩ = some (.int .i64 wh) ∧ w2.cell? ⟨wr.heap.size, 1, none⟩ = some (.int .i64 n) ∧ w2.cell? ⟨wr.heap.size, 2, none⟩ = some (.string tx)) := fun w' hb => by
        have hb' : Below wr.heap.size wr w' := hbx.trans (hb.mono hbx.size)
        have hI := isBuilder_below hB hb'
        obtain ⟨hbl, v, hv, hvo⟩ := isBuilder_own hB
        have hsz' := hb.size
        refine (writeX_any w.heap.size w.heap.size _ (a1 ++ a2 ++ a3 ++ tx) w' hI (by rw [Lib.byteCells_length]; omega) (by omega)).mono ?_
        rintro e w2 ⟨he, ⟨h1, h2⟩, h3, h4⟩
        rw [← hbc] at h1
        have hblk := h4 wr.heap.size (by omega) (by omega) (fun v' hv' => by
          have e1 : w'.cell? ⟨w.heap.size, 1, none⟩ = some v := (hb'.cell (p := ⟨w.heap.size, 1, none⟩) hbl).trans hv
          rw [hv'] at e1
          obtain rfl : v' = v := by simpa using e1
          exact fun e => absurd (hvo _ e) (Nat.lt_irrefl _))
        obtain ⟨q0, q1, q2⟩ := hS w' hb
        exact ⟨he, h1, hbel.trans (hb'.mono hbel.size |>.trans h2), by omega, cell_heapO q0 hblk, cell_heapO q1 hblk, cell_heapO q2 hblk⟩
      have HNW := hide hNW; have HSS := hide hS
      have N1 := hide n1; have N2 := hide n2; have N3 := hide n3
      have HW := hide hW
      have hq := (Below.refl W.heap.size W).drew
      clear hNW n1 n2 n3 hW hbc hst hB hbel s12 s123 s1234 hlen z1 z2 z3
      go_wp2_with fail
      rw [← unhide HW]
      clear d0 d1 d2
      go_region_held3 (fun w' => w'.cell? ⟨wr.heap.size, 0, none⟩ = some (.int .i64 wh) ∧ w'.cell? ⟨wr.heap.size, 1, none⟩ = some (.int .i64 n) ∧ w'.cell? ⟨wr.heap.size, 2, none⟩ = some (.string tx))
        (first
          | exact hs5
          | exact hs4
          | exact hs3
          | exact hs2
          | exact hS _ hq)
        ((first
          | (go_at_call 72; refine (unhide HNW _ hq4).mono ?_; rintro e y5 ⟨rfl, hB5, hb5, hz5, hs5⟩)
          | (go_at_call_of 73 (Value.int .i64 (tx.size : Int)); refine (unhide N3 _).mono ?_; rintro e y4 ⟨rfl, hy4⟩; have hq4 := hq3.trans (hy4.mono hq3.size); have hs4 := hS _ hq4)
          | (go_at_call 74; refine (unhide N2 _).mono ?_; rintro e y3 ⟨rfl, hy3⟩; have hq3 := hq2.trans (hy3.mono hq2.size); have hs3 := hS _ hq3)
          | (go_at_call_of 73 (Value.int .i64 wh); refine (unhide N1 _).mono ?_; rintro e y2 ⟨rfl, hy2⟩; have hq2 := hq.trans (hy2.mono hq.size); have hs2 := hS _ hq2)))
      go_wp2
      go_roundw
      case rel => exact ⟨k + 1, by omega, by go_num, .inr hB5, hz5, hb5⟩
      case measure => simp [intOf]; omega
    · rw [List.take_of_length_le (by omega)] at hB
      have H3 := hide (builderS_any w.heap.size w.heap.size (ordL l) wr hB (Nat.le_of_lt hlt0))
      have HW := hide hbel
      clear hB hbel hfr
      go_wp2_with fail
      refine (unhide H3).mono ?_
      rintro e w1 ⟨rfl, b1⟩
      go_wp2
      go_ret
      exact ⟨rfl, (unhide HW).trans b1⟩
end Go.Proofs.YtajkbkljonejnaaGreatDoor
namespace Go.Proofs.YtajkbkljonejnaaGreatDoor
open Go.RowKit Go.Shelf
set_option linter.unusedVariables false
def ordersWord : ByteArray := ⟨#[111, 114, 100, 101, 114, 115]⟩
def okeyS (key : ByteArray) (number : Int) : ByteArray := deriveS key ordersWord (twoS number)
theorem okeyS_size (key : ByteArray) (number : Int) : (okeyS key number).size = 16 := foldS_size _
def zeros8 : ByteArray := ⟨#[0, 0, 0, 0, 0, 0, 0, 0]⟩
theorem zeros8_eq : zeros8 = zeroS 8 := rfl
def ordersS (key : ByteArray) (number : Int) (l : List XOrder) : ByteArray :=
  twoS number ++ hideS (okeyS key number) zeros8 (ordT l) ++ sealS (okeyS key number) (twoS number ++ ordT l)
def ordersV (key : ByteArray) (number : Int) (l : List XOrder) : ByteArray := if ordersE key number l = 0 then ordersS key number l else ⟨#[]⟩
theorem digitsB_size {s : ByteArray} {lo hi : Int} (h : digitsBO s lo hi = true) : lo ≤ (s.size : Int) ∧ (s.size : Int) ≤ hi := by
  rw [digitsBO, Bool.and_eq_true] at h
  exact inB_trueO.1 h.2
theorem textB_size {wh : Int} {t : ByteArray} (h : textB wh t = true) : t.size ≤ 16 := by
  unfold textB at h
  split at h
  · have := of_decide_eq_true h; omega
  · split at h
    · have := digitsB_size h; omega
    · have := of_decide_eq_true h; omega
theorem any_false {α : Type} {l : List α} {p : α → Bool} (h : l.any p = false) : ∀ x ∈ l, p x = false := by
  intro x hx
  cases hp : p x with
  | false => rfl
  | true => rw [List.any_eq_true.2 ⟨x, hx, hp⟩] at h; cases h
theorem ordersE_zero {key : ByteArray} {number : Int} {l : List XOrder} (h : ordersE key number l = 0) :
    key.size = 16 ∧ (1 ≤ number ∧ number ≤ 65535) ∧ l.length ≤ 8 ∧ ∀ x ∈ l, (1 ≤ x.what ∧ x.what ≤ 8) ∧ (0 ≤ x.n ∧ x.n ≤ 999999999999) ∧ x.text.size ≤ 16 := by
  unfold ordersE at h
  by_cases h1 : key.size = 16
  case neg => rw [if_pos h1] at h; cases h
  rw [if_neg (by omega)] at h
  cases h2 : inBO number 1 65535 with
  | false => rw [h2] at h; cases h
  | true =>
  rw [h2] at h
  simp only [Bool.not_true, cond_false] at h
  by_cases h3 : 8 < l.length
  · rw [if_pos h3] at h; cases h
  rw [if_neg h3] at h
  cases h4 : l.any okindB with
  | true => rw [h4] at h; cases h
  | false =>
  cases h5 : l.any orangeB with
  | true => rw [h4, h5] at h; cases h
  | false =>
  cases h6 : l.any oformB with
  | true => rw [h4, h5, h6] at h; cases h
  | false =>
  refine ⟨h1, inB_trueO.1 h2, by omega, fun x hx => ⟨?_, ?_, ?_⟩⟩
  · have := any_false h4 x hx
    unfold okindB at this
    exact inB_trueO.1 (by simpa using this)
  · have := any_false h5 x hx
    unfold orangeB at this
    obtain ⟨p1, p2⟩ := inB_trueO.1 (by simpa using this)
    have hm : mostN x.what ≤ 999999999999 := by unfold mostN; split; · omega
                                                split <;> omega
    omega
  · have := any_false h6 x hx
    unfold oformB at this
    exact textB_size (by simpa using this)
set_option maxHeartbeats 2000000 in
theorem orderKey_any (key : ByteArray) (number : Int) (hk : key.size = 16) (w : World) :
    Calls Tryz.prog 24 #[.string key, .int .i64 number] w fun e w' => e = .returned (.string (okeyS key number)) ∧ Below w.heap.size w w' := by
  have N1 := hide (fun w => two_any number w)
  have n2 := fun w => derive_yes key ordersWord (twoS number) hk (by decide) (by rw [twoS_size]; decide) w
  have e : deriveS key ordersWord (twoS number) = okeyS key number := rfl
  rw [e] at n2
  have N2 := hide n2
  clear e n2 hk
  generalize okeyS key number = x at *
  generalize twoS number = y at *
  unfold ordersWord at N2
  go_enter Tryz.func24, Tryz.ntmps24
  go_wp2_with fail
  refine (unhide N1 _).mono ?_
  rintro e w1 ⟨rfl, b1⟩
  go_wp2_with fail
  refine (unhide N2 _).mono ?_
  rintro e w2 ⟨rfl, b2⟩
  go_wp2
  go_ret
  exact ⟨rfl, b1.trans (b2.mono b1.size)⟩
set_option maxHeartbeats 4000000 in
theorem orders_any (key : ByteArray) (number : Int) (l : List XOrder) (ao : Option Addr) (cap : Nat) (w : World) (hr : RowOrder w ao l) :
    Calls Tryz.prog 8 #[.string key, .int .i64 number, .slice ao l.length cap] w fun e w' => e = .returned (.tuple #[.string (ordersV key number l), .int .i64 (ordersE key number l)]) ∧ Below w.heap.size w w' := by
  have N1 := hide (checkOrders_any key number l ao cap w hr)
  by_cases h0 : ordersE key number l = 0
  case neg =>
    have HV : Hid (ordersV key number l = ⟨#[]⟩) := hide (by rw [ordersV, if_neg h0])
    have hne : ((ordersE key number l) != 0) = true := by simpa using h0
    generalize ordersV key number l = ov at *
    generalize ordersE key number l = oe at *
    clear hr h0
    go_enter Tryz.func8, Tryz.ntmps8
    go_wp2_with fail
    refine (unhide N1).mono ?_
    rintro e w1 ⟨rfl, b1⟩
    go_wp2
    go_ret2
    exact ⟨by rw [unhide HV]; rfl, b1⟩
  have HV : Hid (ordersV key number l = ordersS key number l) := hide (by rw [ordersV, if_pos h0])
  obtain ⟨hk, hn, h8, hx⟩ := ordersE_zero h0
  have hts := ordT_size l (fun x hx' => (hx x hx').2.2) h8
  have N2 := hide (fun w => orderKey_any key number hk w)
  have N3 := hide (fun w' (hb : Below w.heap.size w w') => writeOrders_any l ao cap w' (hr.below hb) h8 (fun x hx' => (hx x hx').2.2))
  have n4 := fun w => hide_yes (okeyS key number) zeros8 (ordT l) (okeyS_size _ _) rfl (by omega) w
  have h2s := twoS_size number
  have hs5 : (twoS number ++ ordT l).size ≤ 210 := by rw [ByteArray.size_append]; omega
  have n5 := fun w => seal_yes (okeyS key number) (twoS number ++ ordT l) (okeyS_size _ _) (by omega) w
  have N6 := hide (fun w => two_any number w)
  have hss : (sealS (okeyS key number) (twoS number ++ ordT l)).size ≤ 16 := by
    rw [sealS]
    have : (turnS (okeyS key number) (sealF (twoS number ++ ordT l))).size = 16 := turnS_size _ _
    rw [ByteArray.size_extract]
    omega
  have hhs : (hideS (okeyS key number) zeros8 (ordT l)).size ≤ 208 := by rw [hideS_size]; exact hts
  have HO : Hid (ordersS key number l = twoS number ++ hideS (okeyS key number) zeros8 (ordT l) ++ sealS (okeyS key number) (twoS number ++ ordT l)) := hide rfl
  rw [h0] at N1 ⊢
  have ha1 := fun w' => run_string_add_sum (P := Tryz.prog) w' (twoS number) (ordT l) (by omega)
  have ha2 := fun w' => run_string_add_sum (P := Tryz.prog) w' (twoS number) (hideS (okeyS key number) zeros8 (ordT l)) (by omega)
  have ha3 := fun w' => run_string_add_sum (P := Tryz.prog) w' (twoS number ++ hideS (okeyS key number) zeros8 (ordT l)) (sealS (okeyS key number) (twoS number ++ ordT l)) (by rw [ByteArray.size_append]; omega)
  generalize ordersV key number l = ov at *
  generalize ordersS key number l = os at *
  generalize sealS (okeyS key number) (twoS number ++ ordT l) = sl at *
  generalize twoS number ++ ordT l = tl at *
  generalize hideS (okeyS key number) zeros8 (ordT l) = hd at *
  generalize okeyS key number = ok at *
  generalize twoS number = tw at *
  generalize ordT l = ol at *
  unfold zeros8 at n4
  have N4 := hide n4; have N5 := hide n5
  clear n4 n5 hr h0 hk hn hx hts hs5 hss hhs h2s
  go_enter Tryz.func8, Tryz.ntmps8
  go_wp2_with fail
  refine (unhide N1).mono ?_
  rintro e w1 ⟨rfl, b1⟩
  go_wp2_with fail
  refine (unhide N2 _).mono ?_
  rintro e w2 ⟨rfl, b2⟩
  have b3 := b1.trans (b2.mono b1.size)
  clear b1 b2 N1 N2
  go_wp2_with fail
  refine (unhide N3 _ b3).mono ?_
  rintro e w3 ⟨rfl, b4⟩
  have b5 := b3.trans (b4.mono b3.size)
  clear b3 b4 N3
  go_wp2_with fail
  refine (unhide N4 _).mono ?_
  rintro e w4 ⟨rfl, b6⟩
  have b7 := b5.trans (b6.mono b5.size)
  clear b5 b6 N4
  go_wp2_with fail
  refine (unhide N6 _).mono ?_
  rintro e w5 ⟨rfl, b8⟩
  have b9 := b7.trans (b8.mono b7.size)
  clear b7 b8
  go_wp2_with fail
  refine (unhide N5 _).mono ?_
  rintro e w6 ⟨rfl, b10⟩
  have b11 := b9.trans (b10.mono b9.size)
  clear b9 b10 N5
  go_wp2_with fail
  refine (unhide N6 _).mono ?_
  rintro e w7 ⟨rfl, b12⟩
  have b13 := b11.trans (b12.mono b11.size)
  clear b11 b12 N6
  go_wp2
  go_ret2
  exact ⟨by rw [unhide HV, unhide HO]; rfl, b13⟩
end Go.Proofs.YtajkbkljonejnaaGreatDoor
