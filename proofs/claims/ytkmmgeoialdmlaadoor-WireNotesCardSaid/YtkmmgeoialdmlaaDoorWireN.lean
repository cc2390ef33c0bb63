/- The library's Builder and Repeat; numbers as texts. -/
import Derived.Test.YtkmmgeoialdmlaaDoorRepeat
import Derived.Test.YtkmmgeoialdmlaaDoorLayI
import Derived.Test.YtkmmgeoialdmlaaDoorWireF
import Derived.Laws.AppendOwn
import Derived.Lib.AppendStr
namespace Go.Proofs.YtkmmgeoialdmlaaDoor
open Go.RowKit Go.Shelf
set_option linter.unusedVariables false

theorem info_partsY {P : Program} {t : TypeId} {z : Value} {s b : Nat} (h : (P.info? t).map (fun i => (i.zero, i.size, i.bytes)) = some (some z, s, b)) : ∃ i, P.info? t = some i ∧ i.zero = some z ∧ i.size = s ∧ i.bytes = b := by
  cases hi : P.info? t with
  | none => rw [hi] at h; cases h
  | some i => rw [hi] at h; simp at h; exact ⟨i, rfl, h.1, h.2.1, h.2.2⟩
theorem infoByteY : (Tryd.prog.info? 5).map (fun i => (i.zero, i.size, i.bytes)) = some (some (.int .u8 0), 1, 1) := by kernel_rfl
theorem copyCheckY_any (B b : Nat) (bs : List Value) (w : World) (h : Lib.IsBuilder 43 5 B b bs w) :
    Calls Tryd.prog 34 #[.pointer (some ⟨b, 0, none⟩)] w fun e w' => e = .returned (.tuple #[]) ∧ (Lib.BuilderAt 43 5 B b (.pointer (some ⟨b, 0, none⟩)) bs w' ∧ Below B w w') ∧ (∀ g, g ≠ b → w'.heap[g]? = w.heap[g]?) ∧ w'.cell? ⟨b, 1, none⟩ = w.cell? ⟨b, 1, none⟩ ∧ w'.heap.size = w.heap.size := by
  rcases h with h | h
  · refine (Any.Builder_copyCheck_fresh { Tryd.lays105 with } Tryd.Builder_Extra_105.toX72 b w h.cell0 h.shape h.frozen0).mono ?_
    rintro e w' ⟨rfl, rfl⟩
    exact ⟨rfl, ⟨h.used _, (Below.refl B w).setCell (p := ⟨b, 0, none⟩) h.1 _⟩, fun g hg => by simp [World.setCell, Array.getElem?_modify, Ne.symm hg], World.cell?_setCell_other _ _ _ _ (by simp), by simp⟩
  · refine (Any.Builder_copyCheck_used { Tryd.lays105 with } Tryd.Builder_Extra_105.toX72 b w h.cell0).mono ?_
    rintro e w' ⟨rfl, rfl⟩
    exact ⟨rfl, ⟨h, Below.refl B _⟩, fun g hg => rfl, rfl, rfl⟩
set_option maxHeartbeats 2000000 in
set_option maxRecDepth 100000 in
theorem writeY_any (B b : Nat) (bs : List Value) (s : ByteArray) (w : World) (h : Lib.IsBuilder 43 5 B b bs w)
    (hlen : bs.length + s.size ≤ 140737488355328) (hBw : B ≤ w.heap.size) :
    Calls Tryd.prog 17 #[.pointer (some ⟨b, 0, none⟩), .string s] w fun e w' => e = .returned (.tuple #[.int .i64 s.size, .nilIface]) ∧ (Lib.BuilderAt 43 5 B b (.pointer (some ⟨b, 0, none⟩)) (bs ++ Lib.strCells s) w' ∧ Below B w w') ∧ w.heap.size ≤ w'.heap.size ∧ ∀ g, g < w.heap.size → g ≠ b → (∀ v, w.cell? ⟨b, 1, none⟩ = some v → v.ownBlock ≠ some g) → w'.heap[g]? = w.heap[g]? := by
  obtain ⟨i0, hi, hz0, hz1, hz2⟩ := info_partsY infoByteY
  go_enter Tryd.func17, Tryd.ntmps17
  go_wp2_with (go_at_call 34; refine (copyCheckY_any B b bs _ h).mono ?_)
  rintro e w1 ⟨rfl, ⟨h1', hb1⟩, hoth, hc1, hsz1⟩
  obtain ⟨hB, v, hbk, hown, hne⟩ := h1'
  have c0 : w1.cell? ⟨b, 0, none⟩ = some (.pointer (some ⟨b, 0, none⟩)) := by rw [Lib.cell_of_heap hbk]; rfl
  have c1 : w1.cell? ⟨b, 1, none⟩ = some v := by rw [Lib.cell_of_heap hbk]; rfl
  have HO := hide hoth
  have HC1 := hide (hc1.symm.trans c1)
  have HSZ := hide hsz1
  clear hoth hc1 hsz1
  go_wp2_with (at_builtin; refine Lib.wpList_append_own_string _ rfl _ _ 41 9 rfl B 5 i0 Tryd.underlying41 Tryd.underlying9 hi hz0 hz1 hz2 v _ _ rfl hown s rfl ?c3 ?c4 ?c5 ?_)
  case c3 => unfold maxLen; omega
  case c4 => omega
  case c5 => have := hb1.size; omega
  intro v' w2 hown' hgrow _
  have hlt : b < w1.heap.size := by
    rcases Nat.lt_or_ge b w1.heap.size with h' | h'
    · exact h'
    · simp [Array.getElem?_eq_none h'] at hbk
  have hb2 : w2.heap[b]? = some (.cells #[.pointer (some ⟨b, 0, none⟩), v] 43 (0, 0)) := by
    rw [hgrow.block b hlt (fun e => hne e.symm)]
    exact hbk
  have d0 : w2.cell? ⟨b, 0, none⟩ = some (.pointer (some ⟨b, 0, none⟩)) := by rw [Lib.cell_of_heap hb2]; rfl
  have d1 : w2.cell? ⟨b, 1, none⟩ = some v := by rw [Lib.cell_of_heap hb2]; rfl
  have f1 : w2.frozen? ⟨b, 1, none⟩ = false := Lib.frozen_of_heap hb2 1
  obtain ⟨ao, n', cap, rfl⟩ : ∃ ao n' cap, v' = .slice ao n' cap := by
    rcases hown'.2 with ⟨hv, _⟩ | ⟨g, cap, cur, hv, _⟩
    · exact ⟨_, _, _, hv⟩
    · exact ⟨_, _, _, hv⟩
  have HG := hide hgrow
  go_wp2
  go_ret2
  refine ⟨rfl, ⟨?_, ?_⟩, ?_, ?_⟩
  · exact Lib.BuilderAt.put (T := 43) (e := 5) hB hb2 (bs' := bs ++ Lib.strCells s) (by rw [List.length_append, Lib.strCells_length]; exact hown') Tryd.Builder_Extra_105.neB5
  · exact (hb1.grown hgrow (by have := hb1.size; omega) (fun k hk => (hown.lt k hk).1)).setCell (p := ⟨b, 1, none⟩) hB _
  · have := hgrow.size; have := unhide HSZ; simp; omega
  · intro g hg hgb hgv
    have e1 : w2.heap[g]? = w1.heap[g]? := hgrow.block g (by rw [unhide HSZ]; exact hg) (fun e => hgv v (unhide HC1) e.symm)
    rw [← unhide HO g hgb, ← e1]
    simp [World.setCell, Array.getElem?_modify, Ne.symm hgb]
theorem builderY_any (B b : Nat) (l : List UInt8) (w : World) (h : Lib.IsBuilder 43 5 B b (Lib.byteCells l) w) (hBw : B ≤ w.heap.size) :
    Calls Tryd.prog 19 #[.pointer (some ⟨b, 0, none⟩)] w fun e w' => e = .returned (.string ⟨l.toArray⟩) ∧ Below B w w' :=
  Any.Builder_String_any { Tryd.lays105 with } Tryd.Builder_Extra_105 B b l w h hBw
def zero48 (n : Nat) : ByteArray := ⟨(List.replicate n (48 : UInt8)).toArray⟩
theorem repeat48 (n : Nat) : (⟨(Lib.repeatL (⟨#[48]⟩ : ByteArray).data.toList n).toArray⟩ : ByteArray) = zero48 n := by
  unfold zero48
  congr 2
  induction n with
  | zero => rfl
  | succ n ih => simp only [Lib.repeatL, ih]; rfl
theorem repeat48_any (c : Nat) (w : World) (hc : c ≤ 10000) : Calls Tryd.prog 36 #[.string ⟨#[48]⟩, .int .i64 (c : Int)] w fun e w' => e = .returned (.string (zero48 c)) ∧ Below w.heap.size w w' := by
  have h1 : (⟨#[48]⟩ : ByteArray).size = 1 := rfl
  have := Any.strings_Repeat Tryd.lays105 Tryd.Builder_Extra_105 ⟨#[48]⟩ c w (by omega) (by rw [h1]; omega)
  rw [repeat48] at this
  exact this
/-- how a number is written, with zeros ahead -/
def numS (n : Int) (k : Nat) : ByteArray := zero48 (k - (Lib.itoa n).length) ++ ⟨(Lib.itoa n).toArray⟩
theorem itoa_len (n : Int) (h0 : -9223372036854775808 ≤ n) (h1 : n ≤ 9223372036854775807) : (Lib.itoa n).length ≤ 21 := by
  have hd : ∀ u : Nat, u < 10 ^ 20 → (Lib.decDigits u).length ≤ 20 := fun u hu => by rw [decDigits_length]; exact nDigits_le 19 u hu
  have h20 : (10 : Nat) ^ 20 = 100000000000000000000 := by decide
  unfold Lib.itoa
  split
  · have := hd n.natAbs (by omega)
    rw [List.length_cons]; omega
  · have := hd n.toNat (by omega)
    omega
set_option maxRecDepth 100000 in
set_option maxHeartbeats 2000000 in
theorem number_any (n : Int) (k : Nat) (h0 : -9223372036854775808 ≤ n) (h1 : n ≤ 9223372036854775807) (hk : k ≤ 9999) (w : World) (ht : Pow10 w) :
    Calls Tryd.prog 18 #[.int .i64 n, .int .i64 (k : Int)] w fun e w' => e = .returned (.string (numS n k)) ∧ Below w.heap.size w w' := by
  have N1 := hide (itoa_any n h0 h1 w ht)
  have hl := itoa_len n h0 h1
  obtain ⟨s, hs⟩ : ∃ s : ByteArray, s = ⟨(Lib.itoa n).toArray⟩ := ⟨_, rfl⟩
  have hz : s.size = (Lib.itoa n).length := by rw [hs]; simp [ByteArray.size]
  have hN : numS n k = zero48 (k - s.size) ++ s := by unfold numS; rw [hz, ← hs]
  rw [← hs] at N1
  rw [hN]
  have N2 := hide (fun w => repeat48_any (k - s.size) w (by omega))
  have hm : max 0 ((k : Int) - (s.size : Int)) = ((k - s.size : Nat) : Int) := by omega
  have hzz : (zero48 (k - s.size)).size = k - s.size := by
    show (List.replicate (k - s.size) (48 : UInt8)).toArray.size = _
    rw [List.size_toArray, List.length_replicate]
  have hsi : (s.size : Int) ≤ 21 := by omega
  have hzi : ((zero48 (k - s.size)).size : Int) ≤ 9999 := by omega
  have hki : (k : Int) ≤ 9999 := by omega
  generalize zero48 (k - s.size) = z at *
  generalize k - s.size = d at *
  clear hs hN hz hl hzz h0 h1 hk
  go_enter Tryd.func18, Tryd.ntmps18
  go_wp2_with fail
  refine (unhide N1).mono ?_
  rintro e w1 ⟨rfl, b1⟩
  go_wp2_with fail
  refine (unhide N2 _).mono ?_
  rintro e w2 ⟨rfl, b2⟩
  go_wp2
  go_ret
  exact ⟨rfl, b1.trans (b2.mono b1.size)⟩
end Go.Proofs.YtkmmgeoialdmlaaDoor
