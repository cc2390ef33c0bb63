/- CertifyKey of the program. -/
import Derived.Test.YtckkhpegimkefaaGreatDoorM41
import Derived.Test.YtckkhpegimkefaaGreatDoorM36
import Derived.Test.YtckkhpegimkefaaGreatDoorM03
import Derived.Shelf.Strings.Prefix
namespace Go.Proofs.YtckkhpegimkefaaGreatDoor
open Go.RowKit
set_option linter.unusedVariables false
set_option linter.unusedSimpArgs false
set_option maxRecDepth 100000

/-- what CertifyKey answers -/
def ckE (p q : ByteArray) (k : Int) (o : ByteArray) (t : Int) (m beside : ByteArray) : Int := if keyE o t m = 0 then certE p q k (keyS o t m) beside else keyE o t m
def ckS (p q : ByteArray) (k : Int) (o : ByteArray) (t : Int) (m beside : ByteArray) : ByteArray := if keyE o t m = 0 then certS p q k (keyS o t m) beside else ⟨#[]⟩
def ckR (p q : ByteArray) (k : Int) (o : ByteArray) (t : Int) (m beside : ByteArray) : ByteArray := if keyE o t m = 0 then certR p q k (keyS o t m) beside else ⟨#[]⟩
theorem cell_at {w : World} {g j : Nat} {cs : Array Value} {e : TypeId} {fr : Nat × Nat} {v : Value} (h : w.heap[g]? = some (.cells cs e fr)) (hv : cs[j]? = some v) : w.cell? ⟨g, j, none⟩ = some v := by
  rw [cell_of_row _ _ j _ _ _ h, hv]
set_option maxHeartbeats 4000000 in
theorem certifyKey_any (p q : ByteArray) (k : Int) (o : ByteArray) (t : Int) (m beside : ByteArray) (w : World) (hos : o.size ≤ maxLen) (ht : t ≤ 9223372036854775807) :
    Calls Tryz.prog 16 #[.agg #[.string p, .string q], .int .i64 k, .agg #[.string o, .int .i64 t, .string m], .string beside] w fun e w' => e = .returned (.tuple #[.agg #[.string (ckS p q k o t m beside), .string (ckR p q k o t m beside)], .int .i64 (ckE p q k o t m beside)]) ∧ Below w.heap.size w w' := by
  obtain ⟨Wa, hWa⟩ : ∃ Wa, Wa = w.alloc (.cells #[.string p, .string q] 34) := ⟨_, rfl⟩
  obtain ⟨Wb, hWb⟩ : ∃ Wb, Wb = Wa.alloc (.cells #[.string o, .int .i64 t, .string m] 48) := ⟨_, rfl⟩
  obtain ⟨W1, hW1⟩ : ∃ W1, W1 = Wb.alloc (.cells #[.string ⟨#[]⟩, .string ⟨#[]⟩] 26) := ⟨_, rfl⟩
  have hsa : Wa.heap.size = w.heap.size + 1 := by rw [hWa]; simp
  have hsb : Wb.heap.size = w.heap.size + 2 := by rw [hWb]; simp; omega
  have hs1 : W1.heap.size = w.heap.size + 3 := by rw [hW1]; simp; omega
  have hBa : Below w.heap.size w Wa := by rw [hWa]; exact (Below.refl _ _).alloc (Nat.le_refl _) _
  have hBb : Below Wa.heap.size Wa Wb := by rw [hWb]; exact (Below.refl _ _).alloc (Nat.le_refl _) _
  have hBc : Below Wb.heap.size Wb W1 := by rw [hW1]; exact (Below.refl _ _).alloc (Nat.le_refl _) _
  have hXa : Wa.heap[w.heap.size]? = some (.cells #[.string p, .string q] 34 (0, 0)) := by rw [hWa]; exact heap_alloc_new _ _
  have hXb : Wb.heap[w.heap.size + 1]? = some (.cells #[.string o, .int .i64 t, .string m] 48 (0, 0)) := by rw [hWb, ← hsa]; exact heap_alloc_new _ _
  have hXc : W1.heap[w.heap.size + 2]? = some (.cells #[.string ⟨#[]⟩, .string ⟨#[]⟩] 26 (0, 0)) := by rw [hW1, ← hsb]; exact heap_alloc_new _ _
  have hX1 : W1.heap[w.heap.size]? = some (.cells #[.string p, .string q] 34 (0, 0)) := (hBc.block _ (by omega)).trans ((hBb.block _ (by omega)).trans hXa)
  have hX2 : W1.heap[w.heap.size + 1]? = some (.cells #[.string o, .int .i64 t, .string m] 48 (0, 0)) := (hBc.block _ (by omega)).trans hXb
  have hB1 : Below w.heap.size w W1 := hBa.trans ((hBb.trans (hBc.mono (by omega))).mono (by omega))
  have HC : Hid (∀ W, Below W1.heap.size W1 W → W.cell? ⟨w.heap.size, 0, none⟩ = some (.string p) ∧ W.cell? ⟨w.heap.size, 1, none⟩ = some (.string q) ∧ W.cell? ⟨w.heap.size + 1, 0, none⟩ = some (.string o) ∧ W.cell? ⟨w.heap.size + 1, 1, none⟩ = some (.int .i64 t) ∧ W.cell? ⟨w.heap.size + 1, 2, none⟩ = some (.string m)) := hide (fun W hb => by
    have h1 := (hb.block _ (by omega)).trans hX1
    have h2 := (hb.block _ (by omega)).trans hX2
    exact ⟨cell_at h1 rfl, cell_at h1 rfl, cell_at h2 rfl, cell_at h2 rfl, cell_at h2 rfl⟩)
  have HW : Hid (∀ (W : World) (x y : ByteArray), Below W1.heap.size W1 W → W.frozen? ⟨w.heap.size + 2, 0, none⟩ = false ∧ W.frozen? ⟨w.heap.size + 2, 1, none⟩ = false ∧ W.cell? ⟨w.heap.size + 2, 0, none⟩ = some (.string ⟨#[]⟩) ∧ W.cell? ⟨w.heap.size + 2, 1, none⟩ = some (.string ⟨#[]⟩) ∧
      Below w.heap.size w ((W.setCell ⟨w.heap.size + 2, 0, none⟩ (.string x)).setCell ⟨w.heap.size + 2, 1, none⟩ (.string y)) ∧
      ((W.setCell ⟨w.heap.size + 2, 0, none⟩ (.string x)).setCell ⟨w.heap.size + 2, 1, none⟩ (.string y)).cell? ⟨w.heap.size + 2, 0, none⟩ = some (.string x) ∧
      ((W.setCell ⟨w.heap.size + 2, 0, none⟩ (.string x)).setCell ⟨w.heap.size + 2, 1, none⟩ (.string y)).cell? ⟨w.heap.size + 2, 1, none⟩ = some (.string y)) := hide (fun W x y hb => by
    have h := (hb.block _ (by omega)).trans hXc
    have kk := hB1.trans (hb.mono hB1.size)
    refine ⟨by simp [World.frozen?, h], by simp [World.frozen?, h], cell_at h rfl, cell_at h rfl, (kk.setCell (p := ⟨w.heap.size + 2, 0, none⟩) (Nat.le_add_right _ _) _).setCell (p := ⟨w.heap.size + 2, 1, none⟩) (Nat.le_add_right _ _) _, ?_, ?_⟩
    · rw [cell_of_row _ _ 0 _ _ _ (set_rowM (set_rowM h))]; rfl
    · rw [cell_of_row _ _ 1 _ _ _ (set_rowM (set_rowM h))]; rfl)
  obtain ⟨c0, c1, c2, c3, c4⟩ := unhide HC W1 (Below.refl _ _)
  rw [hWb, hWa] at hW1
  have HW1 := hide hW1
  have N0 := hide (fun W => ckeyText_any o t m W hos ht)
  have N1 := hide (fun W => certify_any p q k (keyS o t m) beside W)
  have HE : Hid (keyE o t m ≠ 0 → ckE p q k o t m beside = keyE o t m ∧ ckS p q k o t m beside = ⟨#[]⟩ ∧ ckR p q k o t m beside = ⟨#[]⟩ ∧ keyS o t m = ⟨#[]⟩) := hide (fun h => by unfold ckE ckS ckR keyS; rw [if_neg h, if_neg h, if_neg h, if_neg h]; exact ⟨rfl, rfl, rfl, rfl⟩)
  have HY : Hid (keyE o t m = 0 → ckE p q k o t m beside = certE p q k (keyS o t m) beside ∧ ckS p q k o t m beside = certS p q k (keyS o t m) beside ∧ ckR p q k o t m beside = certR p q k (keyS o t m) beside) := hide (fun h => by unfold ckE ckS ckR; rw [if_pos h, if_pos h, if_pos h]; exact ⟨rfl, rfl, rfl⟩)
  clear hWa hWb hW1 hsa hsb hs1 hBa hBb hBc hXa hXb hXc hX1 hX2 hB1 hos ht
  generalize ckE p q k o t m beside = ce at *
  generalize ckS p q k o t m beside = cs at *
  generalize ckR p q k o t m beside = cr at *
  generalize certE p q k (keyS o t m) beside = ze at *
  generalize certS p q k (keyS o t m) beside = zs at *
  generalize certR p q k (keyS o t m) beside = zr at *
  generalize keyE o t m = ke at *
  generalize keyS o t m = ks at *
  by_cases h0 : ke = 0
  case neg =>
    obtain ⟨rfl, rfl, rfl, rfl⟩ := unhide HE h0
    have t1 : (ce != 0) = true := by simpa using h0
    clear HE HY h0
    go_enter Tryz.func16, Tryz.ntmps16
    go_upto_region 1 with fail
    rw [← unhide HW1]
    go_wp2_with fail
    refine (unhide N0 _).mono ?_
    rintro e y ⟨rfl, k1⟩
    clear c0 c1 c2 c3 c4
    obtain ⟨f0, f1, g0, g1, hF, r0, r1⟩ := unhide HW y ⟨#[]⟩ ⟨#[]⟩ k1
    have HF := hide hF
    clear k1 hF
    go_wp2
    exact bodyPost_ret (v := .tuple #[.agg #[.string ⟨#[]⟩, .string ⟨#[]⟩], .int .i64 ce]) (by simp [results, Tryz.results16, go_sem, r0, r1]) rfl ⟨rfl, unhide HF⟩
  case pos =>
    subst h0
    obtain ⟨rfl, rfl, rfl⟩ := unhide HY rfl
    clear HE HY
    go_enter Tryz.func16, Tryz.ntmps16
    go_upto_region 1 with fail
    rw [← unhide HW1]
    go_wp2_with fail
    refine (unhide N0 _).mono ?_
    rintro e y ⟨rfl, k1⟩
    clear c0 c1 c2 c3 c4
    obtain ⟨c0, c1, c2, c3, c4⟩ := unhide HC y k1
    have K1 := hide k1
    clear k1
    go_wp2_with fail
    refine (unhide N1 _).mono ?_
    rintro e y2 ⟨rfl, k2⟩
    clear c0 c1 c2 c3 c4
    obtain ⟨f0, f1, g0, g1, hF, r0, r1⟩ := unhide HW y2 cs cr (ext_callB (unhide K1) k2)
    have HF := hide hF
    clear k2 hF
    go_wp2
    exact bodyPost_ret (v := .tuple #[.agg #[.string cs, .string cr], .int .i64 ce]) (by simp [results, Tryz.results16, go_sem, r0, r1]) rfl ⟨rfl, unhide HF⟩
end Go.Proofs.YtckkhpegimkefaaGreatDoor
namespace Go.Proofs.YtckkhpegimkefaaGreatDoor
open Go.RowKit
set_option linter.unusedVariables false
set_option linter.unusedSimpArgs false
set_option maxRecDepth 100000

theorem key_back {o m : ByteArray} {t : Int} (h : keyE o t m = 0) : rkE (keyS o t m) = 0 ∧ rkO (keyS o t m) = o ∧ rkT (keyS o t m) = t ∧ rkM (keyS o t m) = m := by
  obtain ⟨hb, hn⟩ := keyE_zero h
  have ht := (numE_two t).1 hn
  have ho := digitsB_size (keyB_parts hb).1
  obtain ⟨tn, rfl⟩ := Int.eq_ofNat_of_zero_le ht.1
  have hnt : numS (tn : Int) 2 = strOfNums (bigL tn 2) := by
    rw [numS_yes ⟨by decide, by decide, by omega, by rw [show ((256 : Int) ^ (2 : Int).toNat) = 65536 from rfl]; omega⟩]
    rfl
  have hS : keyS o (tn : Int) m = strOfNums [(o.size : Int)] ++ o ++ strOfNums (bigL tn 2) ++ m := by unfold keyS; rw [if_pos h, hnt]
  have hxz : (strOfNums (bigL tn 2)).data.toList.length = 2 := by
    rw [show (strOfNums (bigL tn 2)).data.toList.length = (strOfNums (bigL tn 2)).size by simp, strOfNums_size, bigL_length]
  have hol : o.data.toList.length = o.size := by simp
  have hL : (keyS o (tn : Int) m).data.toList = UInt8.ofNat o.size :: (o.data.toList ++ ((strOfNums (bigL tn 2)).data.toList ++ m.data.toList)) := by
    rw [hS]
    simp only [ByteArray.data_append, Array.toList_append]
    rw [show (strOfNums [(o.size : Int)]).data.toList = [UInt8.ofNat o.size] by simp [strOfNums]]
    simp
  have hz : (keyS o (tn : Int) m).size = o.size + m.size + 3 := by
    have h1 := congrArg List.length hL
    rw [List.length_cons, List.length_append, List.length_append, hxz, hol] at h1
    have h2 : (keyS o (tn : Int) m).data.toList.length = (keyS o (tn : Int) m).size := by simp
    have h3 : m.data.toList.length = m.size := by simp
    omega
  have hkN : kN (keyS o (tn : Int) m) = o.size := by
    unfold kN
    rw [hL]
    show o.size % 256 = o.size
    omega
  have hR : (kRest (keyS o (tn : Int) m) o.size).data.toList = (strOfNums (bigL tn 2)).data.toList ++ m.data.toList := by
    unfold kRest
    rw [extract_list, hL, Nat.add_comm, List.drop_succ_cons, ← hol, List.drop_append_length, hol, List.take_of_length_le (by rw [List.length_append, hxz]; simp; omega)]
  have hRz : (kRest (keyS o (tn : Int) m) o.size).size = m.size + 2 := by unfold kRest; rw [ByteArray.size_extract]; omega
  have hO : kO (keyS o (tn : Int) m) o.size = o := by
    apply ByteArray.ext
    apply Array.toList_inj.1
    unfold kO
    rw [extract_list, hL, List.drop_succ_cons, List.drop_zero, show 1 + o.size - 1 = o.data.toList.length by omega, List.take_append_length]
  have hX : ((kRest (keyS o (tn : Int) m) o.size).extract 0 2).data.toList = (strOfNums (bigL tn 2)).data.toList := by
    rw [extract_list, hR, List.drop_zero, show 2 - 0 = (strOfNums (bigL tn 2)).data.toList.length by omega, List.take_append_length]
  have hT : kT (keyS o (tn : Int) m) o.size = tn := by
    unfold kT
    rw [hX, valN_strR, Nat.mod_eq_of_lt (by show tn < 65536; omega)]
  have hM : kM (keyS o (tn : Int) m) o.size = m := by
    apply ByteArray.ext
    apply Array.toList_inj.1
    unfold kM
    rw [extract_list, hR, hRz]
    generalize (strOfNums (bigL tn 2)).data.toList = X at hxz ⊢
    have e : List.drop 2 (X ++ m.data.toList) = m.data.toList := by rw [← hxz, List.drop_append_length]
    rw [e, List.take_of_length_le (by simp)]
  have hrb : rkB (keyS o (tn : Int) m) = true := by
    unfold rkB
    rw [hkN, hO, hM, hb, decide_eq_true ⟨by omega, by omega⟩]
    rfl
  obtain ⟨e1, e2, e3, e4⟩ := rk_yes hrb
  rw [hkN] at e2 e3 e4
  rw [hO] at e2
  rw [hT] at e3
  rw [hM] at e4
  exact ⟨e1, e2, e3, e4⟩
/-- a block that lies -/
def At (w : World) (b : Nat) (cs : Array Value) (e : TypeId) : Prop := w.heap[b]? = some (.cells cs e (0, 0))
theorem At.lt {w : World} {b : Nat} {cs : Array Value} {e : TypeId} (h : At w b cs e) : b < w.heap.size := (Array.getElem?_eq_some_iff.1 h).1
theorem At.below {w w' : World} {b : Nat} {cs : Array Value} {e : TypeId} (h : At w b cs e) (hb : Below w.heap.size w w') : At w' b cs e := (hb.block _ h.lt).trans h
theorem At.cell {w : World} {b j : Nat} {cs : Array Value} {e : TypeId} {v : Value} (h : At w b cs e) (hv : cs[j]? = some v) : w.cell? ⟨b, j, none⟩ = some v := cell_at h hv
theorem At.soft {w : World} {b j : Nat} {cs : Array Value} {e : TypeId} (h : At w b cs e) : w.frozen? ⟨b, j, none⟩ = false := by
  unfold At at h
  simp [World.frozen?, h]
theorem At.new (w : World) (cs : Array Value) (e : TypeId) : At (w.alloc (.cells cs e)) w.heap.size cs e := heap_alloc_new w _
theorem At.set {w : World} {b j : Nat} {cs : Array Value} {e : TypeId} {v : Value} (h : At w b cs e) : At (w.setCell ⟨b, j, none⟩ v) b (cs.setIfInBounds j v) e := set_rowM h
theorem At.other {w : World} {b g j : Nat} {cs : Array Value} {e : TypeId} {v : Value} (h : At w b cs e) (hn : b ≠ g) : At (w.setCell ⟨g, j, none⟩ v) b cs e := (Below.heap_setCell w ⟨g, j, none⟩ v b hn).trans h
end Go.Proofs.YtckkhpegimkefaaGreatDoor
namespace Go.Proofs.YtckkhpegimkefaaGreatDoor
open Go.RowKit
set_option linter.unusedVariables false

/-- one link: what it tells, and the modulus that it comes to -/
def lkE (m sig rest : ByteArray) (k : Int) (beside : ByteArray) (may : ByteArray → Bool) (month : Int) : Int :=
  if rcE m sig rest k beside ≠ 0 then rcE m sig rest k beside else if rkE (rcT m sig rest k beside) ≠ 0 then rkE (rcT m sig rest k beside)
  else bif may (rkO (rcT m sig rest k beside)) then (if rkT (rcT m sig rest k beside) < month then 11 else 0) else 10
def lkM (m sig rest : ByteArray) (k : Int) (beside : ByteArray) (may : ByteArray → Bool) (month : Int) : ByteArray :=
  if lkE m sig rest k beside may month = 0 then rkM (rcT m sig rest k beside) else ⟨#[]⟩
def mayP (id o : ByteArray) : Bool := Lib.hasPrefix id.data.toList o.data.toList
def mayS (id o : ByteArray) : Bool := decide (o = id)
/-- the whole chain -/
def chE (m s1 r1 s2 r2 id data : ByteArray) (month : Int) : Int :=
  if lkE m s1 r1 1 ⟨#[]⟩ (mayP id) month ≠ 0 then lkE m s1 r1 1 ⟨#[]⟩ (mayP id) month
  else lkE (lkM m s1 r1 1 ⟨#[]⟩ (mayP id) month) s2 r2 2 data (mayS id) month
def chM (m s1 r1 s2 r2 id data : ByteArray) (month : Int) : ByteArray :=
  if lkE m s1 r1 1 ⟨#[]⟩ (mayP id) month ≠ 0 then ⟨#[]⟩
  else lkM (lkM m s1 r1 1 ⟨#[]⟩ (mayP id) month) s2 r2 2 data (mayS id) month
theorem lk_rc {m sig rest : ByteArray} {k : Int} {beside : ByteArray} {may : ByteArray → Bool} {month : Int} (h : rcE m sig rest k beside ≠ 0) :
    lkE m sig rest k beside may month = rcE m sig rest k beside ∧ lkM m sig rest k beside may month = ⟨#[]⟩ := by
  have hE : lkE m sig rest k beside may month = rcE m sig rest k beside := by unfold lkE; rw [if_pos h]
  exact ⟨hE, by unfold lkM; rw [hE, if_neg h]⟩
theorem lk_rk {m sig rest : ByteArray} {k : Int} {beside : ByteArray} {may : ByteArray → Bool} {month : Int} (h0 : rcE m sig rest k beside = 0) (h : rkE (rcT m sig rest k beside) ≠ 0) :
    lkE m sig rest k beside may month = rkE (rcT m sig rest k beside) ∧ lkM m sig rest k beside may month = ⟨#[]⟩ := by
  have hE : lkE m sig rest k beside may month = rkE (rcT m sig rest k beside) := by unfold lkE; rw [if_neg (by simpa using h0), if_pos h]
  exact ⟨hE, by unfold lkM; rw [hE, if_neg h]⟩
theorem lk_may {m sig rest : ByteArray} {k : Int} {beside : ByteArray} {may : ByteArray → Bool} {month : Int} (h0 : rcE m sig rest k beside = 0) (h1 : rkE (rcT m sig rest k beside) = 0) (h : may (rkO (rcT m sig rest k beside)) = false) :
    lkE m sig rest k beside may month = 10 ∧ lkM m sig rest k beside may month = ⟨#[]⟩ := by
  have hE : lkE m sig rest k beside may month = 10 := by unfold lkE; rw [if_neg (by simpa using h0), if_neg (by simpa using h1), h]; rfl
  exact ⟨hE, by unfold lkM; rw [hE]; rfl⟩
theorem lk_date {m sig rest : ByteArray} {k : Int} {beside : ByteArray} {may : ByteArray → Bool} {month : Int} (h0 : rcE m sig rest k beside = 0) (h1 : rkE (rcT m sig rest k beside) = 0) (h2 : may (rkO (rcT m sig rest k beside)) = true) (h : rkT (rcT m sig rest k beside) < month) :
    lkE m sig rest k beside may month = 11 ∧ lkM m sig rest k beside may month = ⟨#[]⟩ := by
  have hE : lkE m sig rest k beside may month = 11 := by unfold lkE; rw [if_neg (by simpa using h0), if_neg (by simpa using h1), h2]; exact if_pos h
  exact ⟨hE, by unfold lkM; rw [hE]; rfl⟩
theorem lk_ok {m sig rest : ByteArray} {k : Int} {beside : ByteArray} {may : ByteArray → Bool} {month : Int} (h0 : rcE m sig rest k beside = 0) (h1 : rkE (rcT m sig rest k beside) = 0) (h2 : may (rkO (rcT m sig rest k beside)) = true) (h : ¬ rkT (rcT m sig rest k beside) < month) :
    lkE m sig rest k beside may month = 0 ∧ lkM m sig rest k beside may month = rkM (rcT m sig rest k beside) := by
  have hE : lkE m sig rest k beside may month = 0 := by unfold lkE; rw [if_neg (by simpa using h0), if_neg (by simpa using h1), h2]; exact if_neg h
  exact ⟨hE, by unfold lkM; rw [hE]; rfl⟩
theorem ch_one {m s1 r1 s2 r2 id data : ByteArray} {month : Int} (h : lkE m s1 r1 1 ⟨#[]⟩ (mayP id) month ≠ 0) :
    chE m s1 r1 s2 r2 id data month = lkE m s1 r1 1 ⟨#[]⟩ (mayP id) month ∧ chM m s1 r1 s2 r2 id data month = ⟨#[]⟩ := ⟨by unfold chE; rw [if_pos h], by unfold chM; rw [if_pos h]⟩
theorem ch_two {m s1 r1 s2 r2 id data : ByteArray} {month : Int} (h : lkE m s1 r1 1 ⟨#[]⟩ (mayP id) month = 0) :
    chE m s1 r1 s2 r2 id data month = lkE (lkM m s1 r1 1 ⟨#[]⟩ (mayP id) month) s2 r2 2 data (mayS id) month ∧ chM m s1 r1 s2 r2 id data month = lkM (lkM m s1 r1 1 ⟨#[]⟩ (mayP id) month) s2 r2 2 data (mayS id) month := ⟨by unfold chE; rw [if_neg (by simpa using h)], by unfold chM; rw [if_neg (by simpa using h)]⟩
theorem rcT_size {m sig rest : ByteArray} {k : Int} {beside : ByteArray} : (rcT m sig rest k beside).size ≤ 1000 := by
  by_cases hE : rcE m sig rest k beside = 0
  case neg => unfold rcT; rw [if_neg hE]; decide
  case pos =>
    unfold rcT; rw [if_pos hE]
    unfold rcE at hE
    by_cases hk : ¬ (1 ≤ k ∧ k ≤ 4)
    · rw [if_pos hk] at hE; omega
    · rw [if_neg hk] at hE
      by_cases hp : powE m sig ≠ 0
      · rw [if_pos hp] at hE; exact absurd hE hp
      · rw [if_neg hp] at hE
        cases hb : rcB (powT m sig 3) rest k beside with
        | false => rw [hb] at hE; simp at hE
        | true =>
          unfold rcB at hb
          rw [Bool.and_eq_true, decide_eq_true_eq] at hb
          rw [rcBody_size hb.1.2]
          exact hb.1.1
end Go.Proofs.YtckkhpegimkefaaGreatDoor
namespace Go.Proofs.YtckkhpegimkefaaGreatDoor
open Go.RowKit
set_option linter.unusedVariables false
set_option linter.unusedSimpArgs false
set_option maxRecDepth 100000

theorem eq_bytes {a b : ByteArray} : (a.toList == b.toList) = decide (a = b) := by
  have h := @ne_bytes a b
  rw [bne] at h
  cases hx : (a.toList == b.toList) <;> cases hy : decide (a = b) <;> simp_all
theorem mayP_any (id o : ByteArray) (g : Nat) (w : World) (hc : w.cell? ⟨g, 0, none⟩ = some (.string id)) :
    Calls Tryz.prog 18 #[.string o, .pointer (some ⟨g, 0, none⟩)] w fun e w' => e = .returned (.bool (mayP id o)) ∧ w' = w := by
  have N1 := hide (fun W => Any.strings_HasPrefix { Tryz.lays105 with } id o W)
  go_enter Tryz.func18, Tryz.ntmps18
  go_wp2_with fail
  refine (unhide N1 _).mono ?_
  rintro e y ⟨rfl, hy⟩
  have hy' := hy.symm
  subst hy'
  go_wp2
  go_ret
  exact ⟨rfl, rfl⟩
theorem mayS_any (id o : ByteArray) (g : Nat) (w : World) (hc : w.cell? ⟨g, 0, none⟩ = some (.string id)) :
    Calls Tryz.prog 20 #[.string o, .pointer (some ⟨g, 0, none⟩)] w fun e w' => e = .returned (.bool (mayS id o)) ∧ w' = w := by
  have t1 : (o.toList == id.toList) = mayS id o := eq_bytes
  go_enter Tryz.func20, Tryz.ntmps20
  go_wp2
  go_ret
  exact ⟨ret_bool (by first | rfl | assumption | simp [t1]), rfl⟩

set_option maxHeartbeats 4000000 in
theorem link_any (m sig rest : ByteArray) (k : Int) (beside : ByteArray) (month : Int) (f : FuncId) (hf : f = 18 ∨ f = 20) (g : Nat) (may : ByteArray → Bool) (w : World) (hr : rest.size ≤ 2097152) (hb : beside.size ≤ 2097152)
    (hm : ∀ (o : ByteArray) (W : World), Below w.heap.size w W → Calls Tryz.prog f #[.string o, .pointer (some ⟨g, 0, none⟩)] W fun e w' => e = .returned (.bool (may o)) ∧ w' = W) :
    Calls Tryz.prog 17 #[.string m, .int .i64 k, .agg #[.string sig, .string rest], .string beside, .int .i64 month, .func (.func f) #[] #[.pointer (some ⟨g, 0, none⟩)]] w fun e w' => e = .returned (.tuple #[.string (lkM m sig rest k beside may month), .int .i64 (lkE m sig rest k beside may month)]) ∧ Below w.heap.size w w' := by
  obtain ⟨W1, hW1⟩ : ∃ W1, W1 = w.alloc (.cells #[.string sig, .string rest] 26) := ⟨_, rfl⟩
  have hB1 : Below w.heap.size w W1 := by rw [hW1]; exact (Below.refl _ _).alloc (Nat.le_refl _) _
  have hX1 : W1.heap[w.heap.size]? = some (.cells #[.string sig, .string rest] 26 (0, 0)) := by rw [hW1]; exact heap_alloc_new _ _
  have c0 := cell_of_row _ _ 0 _ _ _ hX1
  have c1 := cell_of_row _ _ 1 _ _ _ hX1
  have HW1 := hide hW1; have HB1 := hide hB1
  clear hW1 hB1 hX1
  have N1 := hide (fun W => recover_any m sig rest k beside W hr hb)
  have N2 := hide (fun W => creadKey_any (rcT m sig rest k beside) W (Nat.le_trans rcT_size (by decide)))
  have HM := hide (hm (rkO (rcT m sig rest k beside)))
  have L1 := hide (fun h => lk_rc (m := m) (sig := sig) (rest := rest) (k := k) (beside := beside) (may := may) (month := month) h)
  have L2 := hide (fun h h1 => lk_rk (m := m) (sig := sig) (rest := rest) (k := k) (beside := beside) (may := may) (month := month) h h1)
  have L3 := hide (fun h h1 h2 => lk_may (m := m) (sig := sig) (rest := rest) (k := k) (beside := beside) (may := may) (month := month) h h1 h2)
  have L4 := hide (fun h h1 h2 h3 => lk_date (m := m) (sig := sig) (rest := rest) (k := k) (beside := beside) (may := may) (month := month) h h1 h2 h3)
  have L5 := hide (fun h h1 h2 h3 => lk_ok (m := m) (sig := sig) (rest := rest) (k := k) (beside := beside) (may := may) (month := month) h h1 h2 h3)
  clear hm hr hb
  generalize lkE m sig rest k beside may month = le at *
  generalize lkM m sig rest k beside may month = lm at *
  generalize rcE m sig rest k beside = re at *
  generalize rcT m sig rest k beside = rt at *
  generalize rkE rt = ke at *
  generalize rkO rt = ko at *
  generalize rkT rt = kt at *
  generalize rkM rt = km at *
  generalize may ko = mb at *
  rcases hf with rfl | rfl
  all_goals
    go_enter Tryz.func17, Tryz.ntmps17
    go_upto_region 1 with fail
    rw [← unhide HW1]
    go_wp2_with fail
    refine (unhide N1 _).mono ?_
    rintro e y1 ⟨rfl, k1⟩
    have HK1 := hide ((unhide HB1).trans (k1.mono (unhide HB1).size))
    clear k1 c0 c1
    by_cases h0 : re = 0
    case neg =>
      obtain ⟨rfl, rfl⟩ := unhide L1 h0
      have t1 : (le != 0) = true := by simpa using h0
      clear L1 L2 L3 L4 L5 h0
      go_wp2
      go_ret2
      exact ⟨rfl, unhide HK1⟩
    case pos =>
      subst h0
      clear L1
      go_wp2_with fail
      refine (unhide N2 _).mono ?_
      rintro e y2 ⟨rfl, k2⟩
      have hk2 := ext_callB (unhide HK1) k2
      obtain ⟨y3, hy3⟩ : ∃ y', y' = y2.alloc (.cells #[.string ko, .int .i64 kt, .string km] 48) := ⟨_, rfl⟩
      have hz3 : y3.heap[y2.heap.size]? = some (.cells #[.string ko, .int .i64 kt, .string km] 48 (0, 0)) := by rw [hy3]; exact heap_alloc_new _ _
      have hk3 : Below w.heap.size w y3 := by rw [hy3]; exact hk2.alloc hk2.size _
      have d0 := cell_of_row _ _ 0 _ _ _ hz3
      have d1 := cell_of_row _ _ 1 _ _ _ hz3
      have d2 := cell_of_row _ _ 2 _ _ _ hz3
      have HK3 := hide hk3; have HY3 := hide hy3
      simp only [List.getElem?_toArray, List.getElem?_cons_zero, List.getElem?_cons_succ] at d0 d1 d2
      rw [hy3] at d0 d1 d2
      clear k2 hk2 hy3 hz3 hk3 HK1 HW1 HB1 N1
      by_cases h1 : ke = 0
      case neg =>
        obtain ⟨rfl, rfl⟩ := unhide L2 (by first | rfl | trivial) h1
        have t1 : (le != 0) = true := by simpa using h1
        clear L2 L3 L4 L5 h1
        go_wp2
        go_ret2
        exact ⟨rfl, by rw [← unhide HY3]; exact unhide HK3⟩
      case pos =>
        subst h1
        clear L2
        go_wp2_with fail
        rw [← unhide HY3] at d0 d1 d2 ⊢
        refine (unhide HM _ (unhide HK3)).mono ?_
        rintro e y4 ⟨rfl, hy4⟩
        have hy4' := hy4.symm
        subst hy4'
        clear hy4
        cases mb with
        | false =>
          obtain ⟨rfl, rfl⟩ := unhide L3 (by first | rfl | trivial) (by first | rfl | trivial) (by first | rfl | trivial)
          clear L3 L4 L5
          go_wp2
          go_ret2
          exact ⟨rfl, unhide HK3⟩
        | true =>
          by_cases h2 : kt < month
          · obtain ⟨rfl, rfl⟩ := unhide L4 (by first | rfl | trivial) (by first | rfl | trivial) (by first | rfl | trivial) h2
            clear L3 L4 L5
            go_wp2
            go_ret2
            exact ⟨rfl, unhide HK3⟩
          · obtain ⟨rfl, rfl⟩ := unhide L5 (by first | rfl | trivial) (by first | rfl | trivial) (by first | rfl | trivial) (by first | exact h2 | omega)
            clear L3 L4 L5
            go_wp2
            go_ret2
            exact ⟨rfl, unhide HK3⟩

set_option maxHeartbeats 4000000 in
theorem chain_any (m s1 r1 s2 r2 id data : ByteArray) (month : Int) (w : World) (hr1 : r1.size ≤ 2097152) (hr2 : r2.size ≤ 2097152) (hd : data.size ≤ 2097152) :
    Calls Tryz.prog 6 #[.string m, .agg #[.string s1, .string r1], .agg #[.string s2, .string r2], .string id, .string data, .int .i64 month] w fun e w' => e = .returned (.tuple #[.string (chM m s1 r1 s2 r2 id data month), .int .i64 (chE m s1 r1 s2 r2 id data month)]) ∧ Below w.heap.size w w' := by
  obtain ⟨Wa, hWa⟩ : ∃ W1, W1 = w.alloc (.cells #[.string s1, .string r1] 26) := ⟨_, rfl⟩
  obtain ⟨Wb, hWb⟩ : ∃ W1, W1 = Wa.alloc (.cells #[.string s2, .string r2] 26) := ⟨_, rfl⟩
  obtain ⟨Wc, hWc⟩ : ∃ W1, W1 = Wb.alloc (.cells #[.string id] 9) := ⟨_, rfl⟩
  have ba : Below w.heap.size w Wa := by rw [hWa]; exact (Below.refl _ _).alloc (Nat.le_refl _) _
  have bb : Below Wa.heap.size Wa Wb := by rw [hWb]; exact (Below.refl _ _).alloc (Nat.le_refl _) _
  have bc : Below Wb.heap.size Wb Wc := by rw [hWc]; exact (Below.refl _ _).alloc (Nat.le_refl _) _
  have la : Wa.heap.size = w.heap.size + 1 := by rw [hWa]; simp
  have lb : Wb.heap.size = w.heap.size + 2 := by rw [hWb]; simp [la]
  have lc : Wc.heap.size = w.heap.size + 3 := by rw [hWc]; simp [lb]
  have xa : At Wa w.heap.size #[.string s1, .string r1] 26 := by rw [hWa]; exact At.new _ _ _
  have xb : At Wb (w.heap.size + 1) #[.string s2, .string r2] 26 := by have h := At.new Wa #[.string s2, .string r2] 26; rw [← hWb, la] at h; exact h
  have xc : At Wc (w.heap.size + 2) #[.string id] 9 := by have h := At.new Wb #[.string id] 9; rw [← hWc, lb] at h; exact h
  have xa' := (xa.below bb).below bc
  have xb' := xb.below bc
  have hB : Below w.heap.size w Wc := (ba.trans (bb.mono ba.size)).trans (bc.mono (by omega))
  have HC : Hid (∀ W, Below Wc.heap.size Wc W → W.cell? ⟨w.heap.size, 0, none⟩ = some (.string s1) ∧ W.cell? ⟨w.heap.size, 1, none⟩ = some (.string r1) ∧ W.cell? ⟨w.heap.size + 1, 0, none⟩ = some (.string s2) ∧ W.cell? ⟨w.heap.size + 1, 1, none⟩ = some (.string r2) ∧ W.cell? ⟨w.heap.size + 2, 0, none⟩ = some (.string id)) := hide (fun W h =>
    ⟨(xa'.below h).cell rfl, (xa'.below h).cell rfl, (xb'.below h).cell rfl, (xb'.below h).cell rfl, (xc.below h).cell rfl⟩)
  have N1 : Hid (∀ W, Below Wc.heap.size Wc W → Calls Tryz.prog 17 #[.string m, .int .i64 1, .agg #[.string s1, .string r1], .string ⟨#[]⟩, .int .i64 month, .func (.func 18) #[] #[.pointer (some ⟨w.heap.size + 2, 0, none⟩)]] W fun e w' => e = .returned (.tuple #[.string (lkM m s1 r1 1 ⟨#[]⟩ (mayP id) month), .int .i64 (lkE m s1 r1 1 ⟨#[]⟩ (mayP id) month)]) ∧ Below W.heap.size W w') :=
    hide (fun W h => link_any m s1 r1 1 ⟨#[]⟩ month 18 (Or.inl rfl) (w.heap.size + 2) (mayP id) W hr1 (by decide) (fun o W2 h2 => mayP_any id o _ W2 (unhide HC W2 (ext_callB h h2)).2.2.2.2))
  have N2 : Hid (∀ (mm : ByteArray) W, Below Wc.heap.size Wc W → Calls Tryz.prog 17 #[.string mm, .int .i64 2, .agg #[.string s2, .string r2], .string data, .int .i64 month, .func (.func 20) #[] #[.pointer (some ⟨w.heap.size + 2, 0, none⟩)]] W fun e w' => e = .returned (.tuple #[.string (lkM mm s2 r2 2 data (mayS id) month), .int .i64 (lkE mm s2 r2 2 data (mayS id) month)]) ∧ Below W.heap.size W w') :=
    hide (fun mm W h => link_any mm s2 r2 2 data month 20 (Or.inr rfl) (w.heap.size + 2) (mayS id) W hr2 hd (fun o W2 h2 => mayS_any id o _ W2 (unhide HC W2 (ext_callB h h2)).2.2.2.2))
  have HB := hide hB
  have HWc : Hid (Wc = ((w.alloc (.cells #[.string s1, .string r1] 26)).alloc (.cells #[.string s2, .string r2] 26)).alloc (.cells #[.string id] 9)) := hide (by rw [hWc, hWb, hWa])
  obtain ⟨c0, c1, c2, c3, c4⟩ := unhide HC Wc (Below.refl _ _)
  have C1 := hide (fun h => ch_one (m := m) (s1 := s1) (r1 := r1) (s2 := s2) (r2 := r2) (id := id) (data := data) (month := month) h)
  have C2 := hide (fun h => ch_two (m := m) (s1 := s1) (r1 := r1) (s2 := s2) (r2 := r2) (id := id) (data := data) (month := month) h)
  have N2 := hide (unhide N2 (lkM m s1 r1 1 ⟨#[]⟩ (mayP id) month))
  clear xa xb xc xa' xb' ba bb bc hWa hWb hWc hB hr1 hr2 hd
  generalize lkE (lkM m s1 r1 1 ⟨#[]⟩ (mayP id) month) s2 r2 2 data (mayS id) month = e2 at *
  generalize lkM (lkM m s1 r1 1 ⟨#[]⟩ (mayP id) month) s2 r2 2 data (mayS id) month = m2 at *
  generalize lkE m s1 r1 1 ⟨#[]⟩ (mayP id) month = e1 at *
  generalize lkM m s1 r1 1 ⟨#[]⟩ (mayP id) month = m1 at *
  generalize chE m s1 r1 s2 r2 id data month = ce at *
  generalize chM m s1 r1 s2 r2 id data month = cm at *
  clear la lb lc
  go_enter Tryz.func6, Tryz.ntmps6
  go_upto_region 1 with fail
  rw [← unhide HWc]
  go_wp2_with fail
  refine (unhide N1 _ (Below.refl _ _)).mono ?_
  rintro e y1 ⟨rfl, k1⟩
  clear c0 c1 c2 c3 c4
  obtain ⟨c0, c1, c2, c3, c4⟩ := unhide HC y1 k1
  have K1 := hide k1
  have HF := hide ((unhide HB).trans (k1.mono (unhide HB).size))
  clear k1
  by_cases h0 : e1 = 0
  case neg =>
    obtain ⟨rfl, rfl⟩ := unhide C1 h0
    have t1 : (ce != 0) = true := by simpa using h0
    clear C1 C2 h0
    go_wp2
    go_ret2
    exact ⟨rfl, unhide HF⟩
  case pos =>
    subst h0
    obtain ⟨rfl, rfl⟩ := unhide C2 (by first | rfl | trivial)
    clear C1 C2
    go_wp2_with fail
    refine (unhide N2 _ (unhide K1)).mono ?_
    rintro e y2 ⟨rfl, k2⟩
    have HF2 := hide ((unhide HB).trans ((ext_callB (unhide K1) k2).mono (unhide HB).size))
    clear k2 c0 c1 c2 c3 c4
    go_wp2
    go_ret2
    exact ⟨rfl, unhide HF2⟩
end Go.Proofs.YtckkhpegimkefaaGreatDoor
