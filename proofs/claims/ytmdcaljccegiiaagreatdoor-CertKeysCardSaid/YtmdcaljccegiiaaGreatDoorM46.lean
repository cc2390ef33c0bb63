/- Certify of the document's own. -/
import Derived.Test.YtmdcaljccegiiaaGreatDoorM45
import Derived.Shelf.Strings.AsciiSet
import Derived.Test.YtmdcaljccegiiaaGreatDoorM00
import Derived.BigQuiet
import Derived.Deep.DeepCutAuto
namespace Go.Proofs.YtmdcaljccegiiaaGreatDoor
open Go.RowKit
set_option linter.unusedVariables false
set_option linter.unusedSimpArgs false
set_option maxRecDepth 100000

set_option maxHeartbeats 4000000 in
theorem rcertify_any (p q : ByteArray) (k : Int) (body beside : ByteArray) (w : World) :
    Calls Tryz.prog 9 #[.agg #[.string p, .string q], .int .i64 k, .string body, .string beside] w fun e w' => e = .returned (.tuple #[.agg #[.string (certS p q k body beside), .string (certR p q k body beside)], .int .i64 (certE p q k body beside)]) ∧ Below w.heap.size w w' := by
  have n0 : ∀ W, Calls Tryz.prog 20 #[.agg #[.string p, .string q]] W fun e w' => ((secE p q ≠ 0 ∧ e = .returned (.tuple #[.string ⟨#[]⟩, .pointer none, .int .i64 (secE p q)])) ∨ (secE p q = 0 ∧ ∃ g, e = .returned (.tuple #[.string (secM p q), .pointer (some ⟨g, 0, none⟩), .int .i64 0]) ∧ IntAt w' g (secD p q))) ∧ Below W.heap.size W w' := fun W => (rown_any p q W).mono fun e w' h => ⟨by
    cases h.1 with
    | bad h0 he => exact .inl ⟨h0, he⟩
    | good g h0 he hi => exact .inr ⟨h0, g, he, hi⟩, h.2⟩
  have N0 := hide n0
  have HLT := hide (fun h => secD_lt (p := p) (q := q) h)
  obtain ⟨W1, hW1⟩ : ∃ W1, W1 = (w.alloc (.cells #[.string p, .string q] 25)).alloc (.cells #[.string ⟨#[]⟩, .string ⟨#[]⟩] 32) := ⟨_, rfl⟩
  have hB1 : Below w.heap.size w W1 := by rw [hW1]; exact ((Below.refl _ _).alloc (Nat.le_refl _) _).alloc (by simp) _
  have hX1 : W1.heap[w.heap.size]? = some (.cells #[.string p, .string q] 25 (0, 0)) := by
    rw [hW1]
    have h0 := heap_alloc_new w (.cells #[.string p, .string q] 25)
    exact (((Below.refl _ _).alloc (Nat.le_refl _) (.cells #[.string ⟨#[]⟩, .string ⟨#[]⟩] 32) : Below (w.alloc (.cells #[.string p, .string q] 25)).heap.size (w.alloc (.cells #[.string p, .string q] 25)) _).block _ (by simp)).trans h0
  have hX2 : W1.heap[w.heap.size + 1]? = some (.cells #[.string ⟨#[]⟩, .string ⟨#[]⟩] 32 (0, 0)) := by
    rw [hW1]
    have h0 := heap_alloc_new (w.alloc (.cells #[.string p, .string q] 25)) (.cells #[.string ⟨#[]⟩, .string ⟨#[]⟩] 32)
    rw [show (w.alloc (.cells #[.string p, .string q] 25)).heap.size = w.heap.size + 1 by simp] at h0
    exact h0
  have hl1 : w.heap.size + 1 < W1.heap.size := by rw [hW1]; simp
  have hX : ∀ W, Below W1.heap.size W1 W → W.heap[w.heap.size + 1]? = some (.cells #[.string ⟨#[]⟩, .string ⟨#[]⟩] 32 (0, 0)) := fun W hb => (hb.block _ hl1).trans hX2
  have c0 : W1.cell? ⟨w.heap.size, 0, none⟩ = some (.string p) := cell_of_row _ _ 0 _ _ _ hX1
  have c1 : W1.cell? ⟨w.heap.size, 1, none⟩ = some (.string q) := cell_of_row _ _ 1 _ _ _ hX1
  have hW : ∀ (W : World) (x y : ByteArray) (v : Value) (er : Int), v = .tuple #[.agg #[.string x, .string y], .int .i64 er] → Below W1.heap.size W1 W → Below w.heap.size w ((W.setCell ⟨w.heap.size + 1, 0, none⟩ (.string x)).setCell ⟨w.heap.size + 1, 1, none⟩ (.string y)) ∧ ((W.setCell ⟨w.heap.size + 1, 0, none⟩ (.string x)).setCell ⟨w.heap.size + 1, 1, none⟩ (.string y)).cell? ⟨w.heap.size + 1, 0, none⟩ = some (.string x) ∧ ((W.setCell ⟨w.heap.size + 1, 0, none⟩ (.string x)).setCell ⟨w.heap.size + 1, 1, none⟩ (.string y)).cell? ⟨w.heap.size + 1, 1, none⟩ = some (.string y) := fun W x y v er hv hb => by
    have h := hX W hb
    have k := hB1.trans (hb.mono hB1.size)
    refine ⟨(k.setCell (p := ⟨w.heap.size + 1, 0, none⟩) (Nat.le_succ _) _).setCell (p := ⟨w.heap.size + 1, 1, none⟩) (Nat.le_succ _) _, ?_, ?_⟩
    · rw [cell_of_row _ _ 0 _ _ _ (set_rowM (set_rowM h))]; rfl
    · rw [cell_of_row _ _ 1 _ _ _ (set_rowM (set_rowM h))]; rfl
  have hfz : ∀ W, Below W1.heap.size W1 W → W.frozen? ⟨w.heap.size + 1, 0, none⟩ = false ∧ W.frozen? ⟨w.heap.size + 1, 1, none⟩ = false ∧ W.cell? ⟨w.heap.size + 1, 0, none⟩ = some (.string ⟨#[]⟩) ∧ W.cell? ⟨w.heap.size + 1, 1, none⟩ = some (.string ⟨#[]⟩) := fun W hb => by
    have h := hX W hb
    exact ⟨by simp [World.frozen?, h], by simp [World.frozen?, h], cell_of_row _ _ 0 _ _ _ h, cell_of_row _ _ 1 _ _ _ h⟩
  have HX := hide hX; have HW := hide hW; have HF := hide hfz; have HW1 := hide hW1; have HB1 := hide hB1
  clear hX hW hfz hW1 hX1 hX2 hl1 n0 hB1
  have C1 := hide (fun h => cert_secE (p := p) (q := q) (k := k) (body := body) (beside := beside) h)
  have C2 := hide (fun h hk => cert_kind (p := p) (q := q) (k := k) (body := body) (beside := beside) h hk)
  have C3 := hide (fun h hk hl => cert_long (p := p) (q := q) (k := k) (body := body) (beside := beside) h hk hl)
  have C4 := hide (fun h hk hl => cert_ok (p := p) (q := q) (k := k) (body := body) (beside := beside) h hk hl)
  have HP := hide (fun (h : secE p q = 0) => powE_laid (secE_isMod h) k (bodyT body) beside)
  have HMz := hide (fun (h : secE p q = 0) => secM_size h)
  generalize certE p q k body beside = ce at *
  generalize certS p q k body beside = cs at *
  generalize certR p q k body beside = cr at *
  generalize secE p q = se at *
  generalize secM p q = sm at *
  generalize secD p q = sd at *
  go_enter Tryz.func9, Tryz.ntmps9
  go_upto_region 1 with fail
  rw [← unhide HW1]
  go_wp2_with fail
  refine (unhide N0 _).mono ?_
  rintro e y ⟨hc, k1⟩
  clear c0 c1
  have K1 := hide k1
  obtain ⟨f0, f1, f2, f3⟩ := unhide HF y k1
  rcases hc with ⟨hne, rfl⟩ | ⟨h0, g, rfl, hI⟩
  · obtain ⟨rfl, rfl, rfl⟩ := unhide C1 hne
    have t1 : (ce != 0) = true := by simpa using hne
    obtain ⟨q1, q2, q3⟩ := unhide HW y ⟨#[]⟩ ⟨#[]⟩ _ ce rfl k1
    have HQ := hide q1
    clear hne k1 q1 C1 C2 C3 C4 HP HMz HLT
    go_wp2
    exact bodyPost_ret (v := .tuple #[.agg #[.string ⟨#[]⟩, .string ⟨#[]⟩], .int .i64 ce]) (by simp [results, Tryz.results9, go_sem, q2, q3]) rfl ⟨rfl, unhide HQ⟩
  · have HNA := hide hI
    have HL := hide (unhide HLT h0)
    have C2 := hide (unhide C2 h0)
    have C3 := hide (unhide C3 h0)
    have C4 := hide (unhide C4 h0)
    have HP := hide (unhide HP h0)
    have hmz := unhide HMz h0
    clear h0 hI HMz C1 HLT
    by_cases hk : 1 ≤ k ∧ k ≤ 4
    case neg =>
      obtain ⟨rfl, rfl, rfl⟩ := unhide C2 hk
      have hkc : Hid (k < 1 ∨ (1 ≤ k ∧ 4 < k)) := hide (by omega)
      obtain ⟨q1, q2, q3⟩ := unhide HW y ⟨#[]⟩ ⟨#[]⟩ _ 4 rfl k1
      have HQ := hide q1
      clear hk k1 q1 C2 C3 C4 HP hmz
      rcases unhide hkc with hc | ⟨hc, hc2⟩
      · clear hkc
        go_wp2
        exact bodyPost_ret (v := .tuple #[.agg #[.string ⟨#[]⟩, .string ⟨#[]⟩], .int .i64 4]) (by simp [results, Tryz.results9, go_sem, q2, q3]) rfl ⟨rfl, unhide HQ⟩
      · clear hkc
        go_wp2
        exact bodyPost_ret (v := .tuple #[.agg #[.string ⟨#[]⟩, .string ⟨#[]⟩], .int .i64 4]) (by simp [results, Tryz.results9, go_sem, q2, q3]) rfl ⟨rfl, unhide HQ⟩
    case pos =>
    have hk1 := hk.1
    have hk2 := hk.2
    by_cases hlong : 1000 < body.size ∨ 65535 < beside.size
    case pos =>
      obtain ⟨rfl, rfl, rfl⟩ := unhide C3 hk hlong
      obtain ⟨q1, q2, q3⟩ := unhide HW y ⟨#[]⟩ ⟨#[]⟩ _ 2 rfl k1
      have HQ := hide q1
      have hcs : Hid ((1000 : Int) < (body.size : Int) ∨ ((body.size : Int) ≤ 1000 ∧ (65535 : Int) < (beside.size : Int))) := hide (by omega)
      clear hk k1 q1 C2 C3 C4 HP hmz hlong
      rcases unhide hcs with hc | ⟨hc, hc2⟩
      · clear hcs
        go_wp2
        exact bodyPost_ret (v := .tuple #[.agg #[.string ⟨#[]⟩, .string ⟨#[]⟩], .int .i64 2]) (by simp [results, Tryz.results9, go_sem, q2, q3]) rfl ⟨rfl, unhide HQ⟩
      · clear hcs
        go_wp2
        exact bodyPost_ret (v := .tuple #[.agg #[.string ⟨#[]⟩, .string ⟨#[]⟩], .int .i64 2]) (by simp [results, Tryz.results9, go_sem, q2, q3]) rfl ⟨rfl, unhide HQ⟩
    case neg =>
    obtain ⟨rfl, hcs, hcr⟩ := unhide C4 hk hlong
    have n3 := fun W => rlaid_any sm.size k body beside W (by omega) (by omega) (by omega) (by omega)
    have h1 : (body.size : Int) ≤ 1000 := by omega
    have h2 : (beside.size : Int) ≤ 65535 := by omega
    have HPE := unhide HP
    have n4 := fun W (h : IntAt W g sd) => rpower_any sm (laidW sm.size k (bodyT body) beside) g sd W h (unhide HL)
    rw [HPE, ← hcs] at n4
    rw [← hcr] at n3
    generalize laidW sm.size k (bodyT body) beside = lw at *
    have N3 := hide n3; have N4 := hide n4
    clear hk C2 C3 C4 HP hmz hlong hcs hcr n3 n4 HPE HL f0 f1 f2 f3
    go_wp2_with fail
    refine (unhide N3 _).mono ?_
    rintro e y3 ⟨rfl, k3⟩
    have HNA3 := hide ((unhide HNA).below k3)
    have K3 := hide (ext_callB (unhide K1) k3)
    clear k1 k3
    go_wp2_with fail
    refine (unhide N4 _ (unhide HNA3)).mono ?_
    rintro e y4 ⟨rfl, k4⟩
    have k5 := ext_callB (unhide K3) k4
    obtain ⟨f0, f1, f2, f3⟩ := unhide HF y4 k5
    obtain ⟨q1, q2, q3⟩ := unhide HW y4 cs cr _ 0 rfl k5
    have HQ := hide q1
    clear k4 k5 q1
    go_wp2
    exact bodyPost_ret (v := .tuple #[.agg #[.string cs, .string cr], .int .i64 0]) (by simp [results, Tryz.results9, go_sem, q2, q3]) rfl ⟨rfl, unhide HQ⟩
end Go.Proofs.YtmdcaljccegiiaaGreatDoor
namespace Go.Proofs
open Go.Shelf
def Tryz.lays227_ren : Go.Shelf.Ren := ⟨fun | 227 => 46 | n => n, fun | 9 => 9 | 116 => 81 | 4 => 4 | 0 => 0 | 3 => 3 | 5 => 5 | n => n, fun | n => n⟩
theorem Tryz.lays227 : Go.Proofs.Lays.n227 Tryz.prog Tryz.lays227_ren := {
  mixed := by kernel_rfl
  f227 := Tryz.func46.trans (congrArg some (by kernel_rfl))
  t0 := Tryz.underlying0
  a0 := Tryz.isAgg0
  z0 := Tryz.sizeOf0
  v0 := Tryz.zeroValue0
  t3 := Tryz.underlying3
  a3 := Tryz.isAgg3
  z3 := Tryz.sizeOf3
  v3 := Tryz.zeroValue3
  t4 := Tryz.underlying4
  a4 := Tryz.isAgg4
  z4 := Tryz.sizeOf4
  v4 := Tryz.zeroValue4
  t5 := Tryz.underlying5
  a5 := Tryz.isAgg5
  z5 := Tryz.sizeOf5
  v5 := Tryz.zeroValue5
  t9 := Tryz.underlying9
  a9 := Tryz.isAgg9
  z9 := Tryz.sizeOf9
  v9 := Tryz.zeroValue9
  t116 := Tryz.underlying81
  a116 := Tryz.isAgg81
  z116 := Tryz.sizeOf81 }
def Tryz.lays228_ren : Go.Shelf.Ren := ⟨fun | 228 => 76 | n => n, fun | 124 => 85 | 5 => 5 | 4 => 4 | 0 => 0 | 116 => 81 | n => n, fun | n => n⟩
theorem Tryz.lays228 : Go.Proofs.Lays.n228 Tryz.prog Tryz.lays228_ren := {
  mixed := by kernel_rfl
  f228 := Tryz.func76.trans (congrArg some (by kernel_rfl))
  t0 := Tryz.underlying0
  a0 := Tryz.isAgg0
  z0 := Tryz.sizeOf0
  v0 := Tryz.zeroValue0
  t4 := Tryz.underlying4
  a4 := Tryz.isAgg4
  z4 := Tryz.sizeOf4
  v4 := Tryz.zeroValue4
  t5 := Tryz.underlying5
  a5 := Tryz.isAgg5
  z5 := Tryz.sizeOf5
  v5 := Tryz.zeroValue5
  t116 := Tryz.underlying81
  a116 := Tryz.isAgg81
  z116 := Tryz.sizeOf81
  t124 := Tryz.underlying85
  a124 := Tryz.isAgg85
  z124 := Tryz.sizeOf85
  v124 := Tryz.zeroValue85 }
end Go.Proofs
namespace Go.Proofs.YtmdcaljccegiiaaGreatDoor
open Go.RowKit
set_option linter.unusedVariables false

def digitsT : ByteArray := ⟨#[48, 49, 50, 51, 52, 53, 54, 55, 56, 57]⟩
/-- is a byte a digit? -/
def isDig (b : UInt8) : Bool := digitsT.data.toList.contains b
set_option maxRecDepth 100000 in
theorem isDig_iff (b : UInt8) : isDig b = true ↔ 48 ≤ b.toNat ∧ b.toNat ≤ 57 := by
  have h : ∀ n : Fin 256, isDig (UInt8.ofNat n.val) = decide (48 ≤ n.val ∧ n.val ≤ 57) := by decide
  have hb := h ⟨b.toNat, b.toNat_lt⟩
  simp only [UInt8.ofNat_toNat] at hb
  rw [hb, decide_eq_true_iff]
def allDig (s : ByteArray) : Bool := s.data.toList.all isDig
/-- the set of digits, in a block -/
def SetAt (w : World) (g : Nat) : Prop := ∀ x : UInt8, w.cell? ⟨g, x.toNat, none⟩ = some (.bool (isDig x))
theorem contains_any (g : Nat) (x : UInt8) (w : World) (h : SetAt w g) :
    Calls Tryz.prog 76 #[.pointer (some ⟨g, 0, none⟩), .int .u8 x.toNat] w fun e w' => e = .returned (.bool (isDig x)) ∧ w' = w :=
  Any.asciiSet_contains Tryz.lays228 g x (isDig x) w (h x)

/-- a byte of a text, as the walk reads it -/
theorem byte_run (st : ByteArray) (i : Nat) (x : UInt8) (hx : st.data.toList[i]? = some x) (wx : World) : (Instr.index 9 (.string st) (.int .i64 (i : Int))).run Tryz.prog wx = .ok (.int .u8 x.toNat) wx := by
  have hi : i < st.size := by
    have := (List.getElem?_eq_some_iff.1 hx).1
    simpa using this
  rw [run_index_string wx 9 st .i64 (i : Int) Tryz.underlying9, dif_pos ⟨by omega, by omega⟩]
  have e : st[(i : Int).toNat]'(by simpa using hi) = x := by
    have h2 := (List.getElem?_eq_some_iff.1 hx).2
    have h3 : st.data[i]'hi = x := by simpa using h2
    exact h3
  simp only [e]
theorem extract_list (s : ByteArray) (a b : Nat) : (s.extract a b).data.toList = (s.data.toList.drop a).take (b - a) := by
  rw [ByteArray.data_extract, Array.toList_extract, List.extract_eq_take_drop]
theorem slice_to (st : ByteArray) (j : Nat) (h : j ≤ st.size) (wx : World) : (Instr.slice 9 (.string st) none (some (.int .i64 (j : Int))) none).run Tryz.prog wx = .ok (.string (st.extract 0 j)) wx := by
  have hx := run_slice_string_to_if (P := Tryz.prog) wx 9 st .i64 (j : Int) Tryz.underlying9
  rw [if_pos ⟨by omega, by omega⟩, Int.toNat_natCast] at hx
  exact hx
theorem slice_from (st : ByteArray) (j : Nat) (h : j ≤ st.size) (wx : World) : (Instr.slice 9 (.string st) (some (.int .i64 (j : Int))) none none).run Tryz.prog wx = .ok (.string (st.extract j st.size)) wx := by
  have hx := run_slice_string_from_if (P := Tryz.prog) wx 9 st .i64 (j : Int) Tryz.underlying9
  rw [if_pos ⟨by omega, by omega⟩, Int.toNat_natCast] at hx
  exact hx
def restDig (s : ByteArray) (m : Nat) : Prop := (s.data.toList.drop m).all isDig = true
def lastBad (s : ByteArray) (m : Nat) : Prop := m = 0 ∨ ∃ x, s.data.toList[m - 1]? = some x ∧ isDig x = false
theorem all_drop (l : List UInt8) (m : Nat) (x : UInt8) (hx : l[m]? = some x) (h : (l.drop (m + 1)).all isDig = true) (hd : isDig x = true) : (l.drop m).all isDig = true := by
  obtain ⟨hlt, he⟩ := List.getElem?_eq_some_iff.1 hx
  rw [List.drop_eq_getElem_cons hlt, List.all_cons, he, hd, h]
  rfl

set_option maxRecDepth 100000 in
set_option maxHeartbeats 1000000 in
theorem trimR_any (s : ByteArray) (g : Nat) (w : World) (h : SetAt w g) (hs : (s.size : Int) ≤ 9223372036854775807) :
    Calls Tryz.prog 48 #[.string s, .pointer (some ⟨g, 0, none⟩)] w fun e w' => w' = w ∧ ∃ m, m ≤ s.size ∧ e = .returned (.string (s.extract 0 m)) ∧ restDig s m ∧ lastBad s m := by
  have N1 := hide (fun x => contains_any g x w h)
  clear h
  go_enter Tryz.func48, Tryz.ntmps48
  go_wp2
  go_loopw [0] (fun t wr => wr = w ∧ ∃ m, m ≤ s.size ∧ t = .string (s.extract 0 m) ∧ restDig s m) (fun t _ => match t with | .string st => st.size | _ => 0)
  case atStart => exact ⟨rfl, s.size, Nat.le_refl _, by rw [show s.extract 0 s.size = s from by simp], by unfold restDig; rw [List.drop_of_length_le (by simp)]; rfl⟩
  case round =>
    obtain ⟨rfl, m, hm, rfl, hall⟩ := hrel
    have hez : (s.extract 0 m).size = m := by rw [ByteArray.size_extract]; omega
    have HALL := hide hall
    clear hall
    by_cases h0 : m = 0
    · subst h0
      have hez' : ((s.extract 0 0).size : Int) = 0 := by omega
      have HST := hide (show s.extract 0 0 = s.extract 0 0 from rfl)
      generalize hst : s.extract 0 0 = st at *
      have HS := hide hst
      clear hst hez hm
      go_wp2
      go_ret
      exact ⟨by first | rfl | trivial, 0, Nat.zero_le _, by rw [unhide HS]; rfl, unhide HALL, (.inl rfl : lastBad s 0)⟩
    · obtain ⟨n, rfl⟩ : ∃ n, m = n + 1 := ⟨m - 1, by omega⟩
      have hl : n < s.data.toList.length := by simp; omega
      obtain ⟨x, hx⟩ : ∃ x, s.data.toList[n]? = some x := ⟨_, List.getElem?_eq_getElem hl⟩
      have hx2 : (s.extract 0 (n + 1)).data.toList[n]? = some x := by rw [extract_list, List.drop_zero, List.getElem?_take, if_pos (by omega)]; exact hx
      have hbr := fun wx => byte_run (s.extract 0 (n + 1)) n x hx2 wx
      have hsl := fun wx => slice_to (s.extract 0 (n + 1)) n (by omega) wx
      have hee : (s.extract 0 (n + 1)).extract 0 n = s.extract 0 n := by
        rw [ByteArray.extract_extract]
        congr 1
        omega
      rw [hee] at hsl
      have HX := hide hx
      have HS := hide (show s.extract 0 (n + 1) = s.extract 0 (n + 1) from rfl)
      generalize hst : s.extract 0 (n + 1) = st at *
      have HST := hide hst
      have hezi : (st.size : Int) = (n : Int) + 1 := by omega
      have hnI : (n : Int) ≤ 9223372036854775806 := by omega
      have hn0 : (0 : Int) ≤ (n : Int) := by omega
      have HZ := hide hez
      have HM := hide hm
      clear hst hx2 hee hl hx hez h0 hm
      cases hd : isDig x with
      | true =>
        have n1 := unhide N1 x
        rw [hd] at n1
        have M1 := hide n1
        have HD := hide (all_drop s.data.toList n x (unhide HX) (unhide HALL) hd)
        clear n1 hd
        go_wp2_with fail
        refine (unhide M1).mono ?_
        rintro e w1 ⟨rfl, rfl⟩
        go_wp2
        go_roundw
        case rel => exact ⟨by first | rfl | trivial, n, by have := unhide HM; omega, rfl, unhide HD⟩
        case measure =>
          have h1 := unhide HZ
          have h2 : (s.extract 0 n).size = n := by rw [ByteArray.size_extract]; have := unhide HM; omega
          simp only []
          omega
      | false =>
        have n1 := unhide N1 x
        rw [hd] at n1
        have M1 := hide n1
        have HD := hide (show lastBad s (n + 1) from .inr ⟨x, unhide HX, hd⟩)
        clear n1 hd
        go_wp2_with fail
        refine (unhide M1).mono ?_
        rintro e w1 ⟨rfl, rfl⟩
        go_wp2
        go_ret
        exact ⟨by first | rfl | trivial, n + 1, unhide HM, by rw [unhide HST]; rfl, unhide HALL, unhide HD⟩

def headDig (s : ByteArray) (k : Nat) : Prop := (s.data.toList.take k).all isDig = true
def nextBad (s : ByteArray) (k : Nat) : Prop := k = s.size ∨ ∃ x, s.data.toList[k]? = some x ∧ isDig x = false
theorem all_take (l : List UInt8) (m : Nat) (x : UInt8) (hx : l[m]? = some x) (h : (l.take m).all isDig = true) (hd : isDig x = true) : (l.take (m + 1)).all isDig = true := by
  obtain ⟨hlt, he⟩ := List.getElem?_eq_some_iff.1 hx
  rw [List.take_succ_eq_append_getElem hlt, List.all_append, h, he]
  simp [hd]
set_option maxRecDepth 100000 in
set_option maxHeartbeats 1000000 in
theorem trimL_any (s : ByteArray) (g : Nat) (w : World) (h : SetAt w g) (hs : (s.size : Int) ≤ 9223372036854775807) :
    Calls Tryz.prog 47 #[.string s, .pointer (some ⟨g, 0, none⟩)] w fun e w' => w' = w ∧ ∃ k, k ≤ s.size ∧ e = .returned (.string (s.extract k s.size)) ∧ headDig s k ∧ nextBad s k := by
  have N1 := hide (fun x => contains_any g x w h)
  clear h
  go_enter Tryz.func47, Tryz.ntmps47
  go_wp2
  go_loopw [0] (fun t wr => wr = w ∧ ∃ k, k ≤ s.size ∧ t = .string (s.extract k s.size) ∧ headDig s k) (fun t _ => match t with | .string st => st.size | _ => 0)
  case atStart => exact ⟨rfl, 0, Nat.zero_le _, by rw [show s.extract 0 s.size = s from by simp], rfl⟩
  case round =>
    obtain ⟨rfl, k, hk, rfl, hall⟩ := hrel
    have hez : (s.extract k s.size).size = s.size - k := by rw [ByteArray.size_extract]; omega
    have HALL := hide hall
    clear hall
    by_cases h0 : k = s.size
    · have hez' : ((s.extract k s.size).size : Int) = 0 := by omega
      have HK := hide (show nextBad s k from .inl h0)
      generalize hst : s.extract k s.size = st at *
      have HS := hide hst
      clear hst hez h0
      go_wp2
      go_ret
      exact ⟨by first | rfl | trivial, k, hk, by rw [unhide HS]; rfl, unhide HALL, unhide HK⟩
    · have hl : k < s.data.toList.length := by simp; omega
      obtain ⟨x, hx⟩ : ∃ x, s.data.toList[k]? = some x := ⟨_, List.getElem?_eq_getElem hl⟩
      have hx2 : (s.extract k s.size).data.toList[0]? = some x := by
        rw [extract_list, List.getElem?_take, if_pos (by omega), List.getElem?_drop]
        exact hx
      have hbr := fun wx => byte_run (s.extract k s.size) 0 x hx2 wx
      have hsl := fun wx => slice_from (s.extract k s.size) 1 (by omega) wx
      have hee : (s.extract k s.size).extract 1 (s.extract k s.size).size = s.extract (k + 1) s.size := by
        rw [hez, ByteArray.extract_extract]
        congr 1
        omega
      rw [hee] at hsl
      have HX := hide hx
      generalize hst : s.extract k s.size = st at *
      have HST := hide hst
      have hezi : (0 : Int) < (st.size : Int) := by omega
      have HZ := hide hez
      have HM := hide (show k + 1 ≤ s.size by omega)
      simp only [Int.cast_ofNat_Int] at hbr hsl
      clear hst hx2 hee hl hx hez h0 hk
      cases hd : isDig x with
      | true =>
        have n1 := unhide N1 x
        rw [hd] at n1
        have M1 := hide n1
        have HD := hide (show headDig s (k + 1) from all_take s.data.toList k x (unhide HX) (unhide HALL) hd)
        clear n1 hd
        go_wp2_with fail
        refine (unhide M1).mono ?_
        rintro e w1 ⟨rfl, rfl⟩
        go_wp2
        go_roundw
        case rel => exact ⟨by first | rfl | trivial, k + 1, unhide HM, rfl, unhide HD⟩
        case measure =>
          have h1 := unhide HZ
          have h2 : (s.extract (k + 1) s.size).size = s.size - (k + 1) := by rw [ByteArray.size_extract]; have := unhide HM; omega
          have h3 := unhide HM
          simp only []
          omega
      | false =>
        have n1 := unhide N1 x
        rw [hd] at n1
        have M1 := hide n1
        have HD := hide (show nextBad s k from .inr ⟨x, unhide HX, hd⟩)
        clear n1 hd
        go_wp2_with fail
        refine (unhide M1).mono ?_
        rintro e w1 ⟨rfl, rfl⟩
        go_wp2
        go_ret
        exact ⟨by first | rfl | trivial, k, by have := unhide HM; omega, by rw [unhide HST]; rfl, unhide HALL, unhide HD⟩

/-- both cuts together: nothing is left just where all is digits -/
theorem trim_empty (s : ByteArray) (m k : Nat) (hm : m ≤ s.size) (hr : restDig s m) (hb : lastBad s m) (hk : k ≤ (s.extract 0 m).size) (hh : headDig (s.extract 0 m) k) (hn : nextBad (s.extract 0 m) k) :
    ((s.extract 0 m).extract k (s.extract 0 m).size).toList.isEmpty = allDig s := by
  have hez : (s.extract 0 m).size = m := by rw [ByteArray.size_extract]; omega
  have hle : ((s.extract 0 m).extract k (s.extract 0 m).size).toList.length = m - k := by
    rw [Lib.toList_data]
    have : ((s.extract 0 m).extract k (s.extract 0 m).size).size = m - k := by rw [ByteArray.size_extract, hez]; omega
    rw [Array.length_toList]
    exact this
  cases ha : allDig s with
  | true =>
    rw [List.isEmpty_iff, ← List.length_eq_zero_iff, hle]
    rcases hb with hb | ⟨x, hx, hd⟩
    · omega
    · exfalso
      have := List.all_eq_true.1 ha x (List.mem_of_getElem? hx)
      rw [hd] at this
      cases this
  | false =>
    rw [List.isEmpty_eq_false_iff]
    intro e
    have hmk : m - k = 0 := by rw [← hle, e]; rfl
    have hkm : k = m := by omega
    have : allDig s = true := by
      unfold allDig
      rw [← List.take_append_drop m s.data.toList, List.all_append]
      have h1 : (s.data.toList.take m).all isDig = true := by
        have := hh
        unfold headDig at this
        rw [extract_list, List.drop_zero, List.take_take] at this
        rw [show min k (m - 0) = m by omega] at this
        exact this
      rw [h1]
      exact hr
    rw [ha] at this
    cases this

set_option maxRecDepth 100000 in
theorem zeroSet : ∀ w, (zeroValue 81).run Tryz.prog w = .ok (.agg (Array.replicate 256 (.bool false))) w := fun w => Tryz.zeroValue81 w
theorem makeSet_any (w : World) : Calls Tryz.prog 46 #[.string digitsT] w fun e w' => e = .returned (.tuple #[.agg (Lib.setCells digitsT.data.toList), .bool true]) ∧ w' = w.alloc (.cells (Lib.setCells digitsT.data.toList) 81) :=
  Any.strings_makeASCIISet Tryz.lays227 zeroSet (by kernel_rfl) digitsT w (by decide) (fun j b hb => by
    have hm := List.mem_of_getElem? hb
    have : ∀ b ∈ digitsT.data.toList, b.toNat < 128 := by decide
    exact this b hm)

set_option maxRecDepth 100000 in
set_option maxHeartbeats 1000000 in
theorem trimD_any (s : ByteArray) (w : World) (hs : (s.size : Int) ≤ 9223372036854775807) :
    Calls Tryz.prog 23 #[.string s, .string digitsT] w fun e w' => Below w.heap.size w w' ∧ ∃ t, e = .returned (.string t) ∧ t.toList.isEmpty = allDig s := by
  by_cases h0 : s.size = 0
  · have hse : s.toList.isEmpty = true := by
      rw [Lib.toList_data, List.isEmpty_iff]
      exact List.length_eq_zero_iff.1 (by simpa using h0)
    go_enter Tryz.func23, Tryz.ntmps23
    go_wp2
    go_ret
    refine ⟨Below.refl _ _, s, rfl, ?_⟩
    rw [hse, allDig]
    rw [Lib.toList_data] at hse
    rw [List.isEmpty_iff.1 hse]; rfl
  · have hse : s.toList.isEmpty = false := by
      rw [Lib.toList_data, List.isEmpty_eq_false_iff]
      exact fun e => h0 (by have := congrArg List.length e; simpa using this)
    have hde : digitsT.toList.isEmpty = false := by rw [Lib.toList_data]; rfl
    have hd10 : (digitsT.size : Int) = 10 := rfl
    have N1 := hide (makeSet_any w)
    have hcs : (Lib.setCells digitsT.data.toList).size = 256 := by rfl
    have hone := Lib.setCells_one digitsT.data.toList
    have hat : ∀ x : UInt8, ((w.alloc (.cells (Lib.setCells digitsT.data.toList) 81)).alloc (.cells (Lib.setCells digitsT.data.toList) 81)).cell? ⟨w.heap.size + 1, x.toNat, none⟩ = some (.bool (digitsT.data.toList.contains x)) := fun x => by
      rw [World.cell?_alloc_at _ _ _ _ (by simp), Lib.setCells_at]
    have hset : SetAt ((w.alloc (.cells (Lib.setCells digitsT.data.toList) 81)).alloc (.cells (Lib.setCells digitsT.data.toList) 81)) (w.heap.size + 1) := hat
    clear hat
    generalize hdt : digitsT = dt at hde hd10 N1 ⊢
    rw [hdt] at hcs hone hset
    generalize hcc : Lib.setCells dt.data.toList = cs at *
    have hsc : (storeCells ⟨w.heap.size + 1, 0, none⟩ cs.toList 0).run Tryz.prog ((w.alloc (.cells cs 81)).alloc (.cells Tryz.zeroCells81 81)) = .ok () ((w.alloc (.cells cs 81)).alloc (.cells cs 81)) := by
      have := run_storeCells_new (P := Tryz.prog) (w.alloc (.cells cs 81)) 81 Tryz.zeroCells81 cs (by rw [hcs]; rfl) (by rw [hcs]; rfl) hone
      simpa using this
    obtain ⟨w2, hw2⟩ : ∃ w2, w2 = (w.alloc (.cells cs 81)).alloc (.cells cs 81) := ⟨_, rfl⟩
    have hb2 : Below w.heap.size w w2 := by
      rw [hw2]; exact ((Below.refl _ _).alloc (Nat.le_refl _) _).alloc (by simp) _
    rw [← hw2] at hsc hset
    clear hw2
    have N2 := hide (trimR_any s (w.heap.size + 1) w2 hset hs)
    have N3 := hide (fun (t : ByteArray) (ht : (t.size : Int) ≤ 9223372036854775807) => trimL_any t (w.heap.size + 1) w2 hset ht)
    go_enter Tryz.func23, Tryz.ntmps23
    go_wp2_with fail
    refine (unhide N1).mono ?_
    rintro e w1 ⟨rfl, rfl⟩
    go_upto_region 6 with fail
    go_wp2_with fail
    refine (unhide N2).mono ?_
    rintro e w1 ⟨rfl, m, hm, rfl, hr, hb⟩
    have hz : ((s.extract 0 m).size : Int) ≤ 9223372036854775807 := by rw [ByteArray.size_extract]; omega
    have hN3 := hide (unhide N3 _ hz)
    go_wp2_with fail
    refine (unhide hN3).mono ?_
    rintro e w1 ⟨rfl, k, hk, rfl, hh, hn⟩
    have he := trim_empty s m k hm hr hb hk hh hn
    generalize (s.extract 0 m).extract k (s.extract 0 m).size = t at *
    go_wp2
    go_ret
    exact ⟨hb2, t, rfl, he⟩
end Go.Proofs.YtmdcaljccegiiaaGreatDoor
