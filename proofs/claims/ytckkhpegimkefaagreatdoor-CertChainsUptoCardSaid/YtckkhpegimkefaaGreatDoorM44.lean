/- CertifyKey of the program. -/
import Derived.Test.YtckkhpegimkefaaGreatDoorM43
import Derived.Test.YtckkhpegimkefaaGreatDoorM38
namespace Go.Proofs.YtckkhpegimkefaaGreatDoor
open Go.RowKit
set_option linter.unusedVariables false
set_option linter.unusedSimpArgs false
set_option maxRecDepth 100000

/-- what CertifyKey answers -/
def ckE (p q : ByteArray) (k : Int) (o : ByteArray) (t : Int) (m beside : ByteArray) : Int := if keyE o t m = 0 then certE p q k (keyS o t m) beside else keyE o t m
def ckS (p q : ByteArray) (k : Int) (o : ByteArray) (t : Int) (m beside : ByteArray) : ByteArray := if keyE o t m = 0 then certS p q k (keyS o t m) beside else ⟨#[]⟩
def ckR (p q : ByteArray) (k : Int) (o : ByteArray) (t : Int) (m beside : ByteArray) : ByteArray := if keyE o t m = 0 then certR p q k (keyS o t m) beside else ⟨#[]⟩
theorem cell_at {w : World} {g j : Nat} {cs : Array Value} {e : TypeId} {fr : Nat × Nat} {v : Value} (h : w.heap[g]? = some (.cells cs e fr)) (hv : cs[j]? = some v) : w.cell? ⟨g, j, none⟩ = some v := by
  rw [cell_of_row _ _ j _ _ _ h, hv]
set_option maxHeartbeats 4000000 in
theorem certifyKey_any (p q : ByteArray) (k : Int) (o : ByteArray) (t : Int) (m beside : ByteArray) (w : World) (hos : o.size ≤ maxLen) (ht : t ≤ 9223372036854775807) :
    Calls Tryz.prog 16 #[.agg #[.string p, .string q], .int .i64 k, .agg #[.string o, .int .i64 t, .string m], .string beside] w fun e w' => e = .returned (.tuple #[.agg #[.string (ckS p q k o t m beside), .string (ckR p q k o t m beside)], .int .i64 (ckE p q k o t m beside)]) ∧ Below w.heap.size w w' := by
  obtain ⟨Wa, hWa⟩ : ∃ Wa, Wa = w.alloc (.cells #[.string p, .string q] 34) := ⟨_, rfl⟩
  obtain ⟨Wb, hWb⟩ : ∃ Wb, Wb = Wa.alloc (.cells #[.string o, .int .i64 t, .string m] 48) := ⟨_, rfl⟩
  obtain ⟨W1, hW1⟩ : ∃ W1, W1 = Wb.alloc (.cells #[.string ⟨#[]⟩, .string ⟨#[]⟩] 26) := ⟨_, rfl⟩
  have hsa : Wa.heap.size = w.heap.size + 1 := by rw [hWa]; simp
  have hsb : Wb.heap.size = w.heap.size + 2 := by rw [hWb]; simp; omega
  have hs1 : W1.heap.size = w.heap.size + 3 := by rw [hW1]; simp; omega
  have hBa : Below w.heap.size w Wa := by rw [hWa]; exact (Below.refl _ _).alloc (Nat.le_refl _) _
  have hBb : Below Wa.heap.size Wa Wb := by rw [hWb]; exact (Below.refl _ _).alloc (Nat.le_refl _) _
  have hBc : Below Wb.heap.size Wb W1 := by rw [hW1]; exact (Below.refl _ _).alloc (Nat.le_refl _) _
  have hXa : Wa.heap[w.heap.size]? = some (.cells #[.string p, .string q] 34 (0, 0)) := by rw [hWa]; exact heap_alloc_new _ _
  have hXb : Wb.heap[w.heap.size + 1]? = some (.cells #[.string o, .int .i64 t, .string m] 48 (0, 0)) := by rw [hWb, ← hsa]; exact heap_alloc_new _ _
  have hXc : W1.heap[w.heap.size + 2]? = some (.cells #[.string ⟨#[]⟩, .string ⟨#[]⟩] 26 (0, 0)) := by rw [hW1, ← hsb]; exact heap_alloc_new _ _
  have hX1 : W1.heap[w.heap.size]? = some (.cells #[.string p, .string q] 34 (0, 0)) := (hBc.block _ (by omega)).trans ((hBb.block _ (by omega)).trans hXa)
  have hX2 : W1.heap[w.heap.size + 1]? = some (.cells #[.string o, .int .i64 t, .string m] 48 (0, 0)) := (hBc.block _ (by omega)).trans hXb
  have hB1 : Below w.heap.size w W1 := hBa.trans ((hBb.trans (hBc.mono (by omega))).mono (by omega))
  have HC : Hid (∀ W, Below W1.heap.size W1 W → W.cell? ⟨w.heap.size, 0, none⟩ = some (.string p) ∧ W.cell? ⟨w.heap.size, 1, none⟩ = some (.string q) ∧ W.cell? ⟨w.heap.size + 1, 0, none⟩ = some (.string o) ∧ W.cell? ⟨w.heap.size + 1, 1, none⟩ = some (.int .i64 t) ∧ W.cell? ⟨w.heap.size + 1, 2, none⟩ = some (.string m)) := hide (fun W hb => by
    have h1 := (hb.block _ (by omega)).trans hX1
    have h2 := (hb.block _ (by omega)).trans hX2
    exact ⟨cell_at h1 rfl, cell_at h1 rfl, cell_at h2 rfl, cell_at h2 rfl, cell_at h2 rfl⟩)
  have HW : Hid (∀ (W : World) (x y : ByteArray), Below W1.heap.size W1 W → W.frozen? ⟨w.heap.size + 2, 0, none⟩ = false ∧ W.frozen? ⟨w.heap.size + 2, 1, none⟩ = false ∧ W.cell? ⟨w.heap.size + 2, 0, none⟩ = some (.string ⟨#[]⟩) ∧ W.cell? ⟨w.heap.size + 2, 1, none⟩ = some (.string ⟨#[]⟩) ∧
      Below w.heap.size w ((W.setCell ⟨w.heap.size + 2, 0, none⟩ (.string x)).setCell ⟨w.heap.size + 2, 1, none⟩ (.string y)) ∧
      ((W.setCell ⟨w.heap.size + 2, 0, none⟩ (.string x)).setCell ⟨w.heap.size + 2, 1, none⟩ (.string y)).cell? ⟨w.heap.size + 2, 0, none⟩ = some (.string x) ∧
      ((W.setCell ⟨w.heap.size + 2, 0, none⟩ (.string x)).setCell ⟨w.heap.size + 2, 1, none⟩ (.string y)).cell? ⟨w.heap.size + 2, 1, none⟩ = some (.string y)) := hide (fun W x y hb => by
    have h := (hb.block _ (by omega)).trans hXc
    have kk := hB1.trans (hb.mono hB1.size)
    refine ⟨by simp [World.frozen?, h], by simp [World.frozen?, h], cell_at h rfl, cell_at h rfl, (kk.setCell (p := ⟨w.heap.size + 2, 0, none⟩) (Nat.le_add_right _ _) _).setCell (p := ⟨w.heap.size + 2, 1, none⟩) (Nat.le_add_right _ _) _, ?_, ?_⟩
    · rw [cell_of_row _ _ 0 _ _ _ (set_rowM (set_rowM h))]; rfl
    · rw [cell_of_row _ _ 1 _ _ _ (set_rowM (set_rowM h))]; rfl)
  obtain ⟨c0, c1, c2, c3, c4⟩ := unhide HC W1 (Below.refl _ _)
  rw [hWb, hWa] at hW1
  have HW1 := hide hW1
  have N0 := hide (fun W => ckeyText_any o t m W hos ht)
  have N1 := hide (fun W => certify_any p q k (keyS o t m) beside W)
  have HE : Hid (keyE o t m ≠ 0 → ckE p q k o t m beside = keyE o t m ∧ ckS p q k o t m beside = ⟨#[]⟩ ∧ ckR p q k o t m beside = ⟨#[]⟩ ∧ keyS o t m = ⟨#[]⟩) := hide (fun h => by unfold ckE ckS ckR keyS; rw [if_neg h, if_neg h, if_neg h, if_neg h]; exact ⟨rfl, rfl, rfl, rfl⟩)
  have HY : Hid (keyE o t m = 0 → ckE p q k o t m beside = certE p q k (keyS o t m) beside ∧ ckS p q k o t m beside = certS p q k (keyS o t m) beside ∧ ckR p q k o t m beside = certR p q k (keyS o t m) beside) := hide (fun h => by unfold ckE ckS ckR; rw [if_pos h, if_pos h, if_pos h]; exact ⟨rfl, rfl, rfl⟩)
  clear hWa hWb hW1 hsa hsb hs1 hBa hBb hBc hXa hXb hXc hX1 hX2 hB1 hos ht
  generalize ckE p q k o t m beside = ce at *
  generalize ckS p q k o t m beside = cs at *
  generalize ckR p q k o t m beside = cr at *
  generalize certE p q k (keyS o t m) beside = ze at *
  generalize certS p q k (keyS o t m) beside = zs at *
  generalize certR p q k (keyS o t m) beside = zr at *
  generalize keyE o t m = ke at *
  generalize keyS o t m = ks at *
  by_cases h0 : ke = 0
  case neg =>
    obtain ⟨rfl, rfl, rfl, rfl⟩ := unhide HE h0
    have t1 : (ce != 0) = true := by simpa using h0
    clear HE HY h0
    go_enter Tryz.func16, Tryz.ntmps16
    go_upto_region 1 with fail
    rw [← unhide HW1]
    go_wp2_with fail
    refine (unhide N0 _).mono ?_
    rintro e y ⟨rfl, k1⟩
    clear c0 c1 c2 c3 c4
    obtain ⟨f0, f1, g0, g1, hF, r0, r1⟩ := unhide HW y ⟨#[]⟩ ⟨#[]⟩ k1
    have HF := hide hF
    clear k1 hF
    go_wp2
    exact bodyPost_ret (v := .tuple #[.agg #[.string ⟨#[]⟩, .string ⟨#[]⟩], .int .i64 ce]) (by simp [results, Tryz.results16, go_sem, r0, r1]) rfl ⟨rfl, unhide HF⟩
  case pos =>
    subst h0
    obtain ⟨rfl, rfl, rfl⟩ := unhide HY rfl
    clear HE HY
    go_enter Tryz.func16, Tryz.ntmps16
    go_upto_region 1 with fail
    rw [← unhide HW1]
    go_wp2_with fail
    refine (unhide N0 _).mono ?_
    rintro e y ⟨rfl, k1⟩
    clear c0 c1 c2 c3 c4
    obtain ⟨c0, c1, c2, c3, c4⟩ := unhide HC y k1
    have K1 := hide k1
    clear k1
    go_wp2_with fail
    refine (unhide N1 _).mono ?_
    rintro e y2 ⟨rfl, k2⟩
    clear c0 c1 c2 c3 c4
    obtain ⟨f0, f1, g0, g1, hF, r0, r1⟩ := unhide HW y2 cs cr (ext_callB (unhide K1) k2)
    have HF := hide hF
    clear k2 hF
    go_wp2
    exact bodyPost_ret (v := .tuple #[.agg #[.string cs, .string cr], .int .i64 ce]) (by simp [results, Tryz.results16, go_sem, r0, r1]) rfl ⟨rfl, unhide HF⟩
end Go.Proofs.YtckkhpegimkefaaGreatDoor
namespace Go.Proofs.YtckkhpegimkefaaGreatDoor
open Go.RowKit
set_option linter.unusedVariables false
set_option linter.unusedSimpArgs false
set_option maxRecDepth 100000

theorem key_back {o m : ByteArray} {t : Int} (h : keyE o t m = 0) : rkE (keyS o t m) = 0 ∧ rkO (keyS o t m) = o ∧ rkT (keyS o t m) = t ∧ rkM (keyS o t m) = m := by
  obtain ⟨hb, hn⟩ := keyE_zero h
  have ht := (numE_two t).1 hn
  have ho := digitsB_size (keyB_parts hb).1
  obtain ⟨tn, rfl⟩ := Int.eq_ofNat_of_zero_le ht.1
  have hnt : numS (tn : Int) 2 = strOfNums (bigL tn 2) := by
    rw [numS_yes ⟨by decide, by decide, by omega, by rw [show ((256 : Int) ^ (2 : Int).toNat) = 65536 from rfl]; omega⟩]
    rfl
  have hS : keyS o (tn : Int) m = strOfNums [(o.size : Int)] ++ o ++ strOfNums (bigL tn 2) ++ m := by unfold keyS; rw [if_pos h, hnt]
  have hxz : (strOfNums (bigL tn 2)).data.toList.length = 2 := by
    rw [show (strOfNums (bigL tn 2)).data.toList.length = (strOfNums (bigL tn 2)).size by simp, strOfNums_size, bigL_length]
  have hol : o.data.toList.length = o.size := by simp
  have hL : (keyS o (tn : Int) m).data.toList = UInt8.ofNat o.size :: (o.data.toList ++ ((strOfNums (bigL tn 2)).data.toList ++ m.data.toList)) := by
    rw [hS]
    simp only [ByteArray.data_append, Array.toList_append]
    rw [show (strOfNums [(o.size : Int)]).data.toList = [UInt8.ofNat o.size] by simp [strOfNums]]
    simp
  have hz : (keyS o (tn : Int) m).size = o.size + m.size + 3 := by
    have h1 := congrArg List.length hL
    rw [List.length_cons, List.length_append, List.length_append, hxz, hol] at h1
    have h2 : (keyS o (tn : Int) m).data.toList.length = (keyS o (tn : Int) m).size := by simp
    have h3 : m.data.toList.length = m.size := by simp
    omega
  have hkN : kN (keyS o (tn : Int) m) = o.size := by
    unfold kN
    rw [hL]
    show o.size % 256 = o.size
    omega
  have hR : (kRest (keyS o (tn : Int) m) o.size).data.toList = (strOfNums (bigL tn 2)).data.toList ++ m.data.toList := by
    unfold kRest
    rw [extract_list, hL, Nat.add_comm, List.drop_succ_cons, ← hol, List.drop_append_length, hol, List.take_of_length_le (by rw [List.length_append, hxz]; simp; omega)]
  have hRz : (kRest (keyS o (tn : Int) m) o.size).size = m.size + 2 := by unfold kRest; rw [ByteArray.size_extract]; omega
  have hO : kO (keyS o (tn : Int) m) o.size = o := by
    apply ByteArray.ext
    apply Array.toList_inj.1
    unfold kO
    rw [extract_list, hL, List.drop_succ_cons, List.drop_zero, show 1 + o.size - 1 = o.data.toList.length by omega, List.take_append_length]
  have hX : ((kRest (keyS o (tn : Int) m) o.size).extract 0 2).data.toList = (strOfNums (bigL tn 2)).data.toList := by
    rw [extract_list, hR, List.drop_zero, show 2 - 0 = (strOfNums (bigL tn 2)).data.toList.length by omega, List.take_append_length]
  have hT : kT (keyS o (tn : Int) m) o.size = tn := by
    unfold kT
    rw [hX, valN_strR, Nat.mod_eq_of_lt (by show tn < 65536; omega)]
  have hM : kM (keyS o (tn : Int) m) o.size = m := by
    apply ByteArray.ext
    apply Array.toList_inj.1
    unfold kM
    rw [extract_list, hR, hRz]
    generalize (strOfNums (bigL tn 2)).data.toList = X at hxz ⊢
    have e : List.drop 2 (X ++ m.data.toList) = m.data.toList := by rw [← hxz, List.drop_append_length]
    rw [e, List.take_of_length_le (by simp)]
  have hrb : rkB (keyS o (tn : Int) m) = true := by
    unfold rkB
    rw [hkN, hO, hM, hb, decide_eq_true ⟨by omega, by omega⟩]
    rfl
  obtain ⟨e1, e2, e3, e4⟩ := rk_yes hrb
  rw [hkN] at e2 e3 e4
  rw [hO] at e2
  rw [hT] at e3
  rw [hM] at e4
  exact ⟨e1, e2, e3, e4⟩
/-- a block that lies -/
def At (w : World) (b : Nat) (cs : Array Value) (e : TypeId) : Prop := w.heap[b]? = some (.cells cs e (0, 0))
theorem At.lt {w : World} {b : Nat} {cs : Array Value} {e : TypeId} (h : At w b cs e) : b < w.heap.size := (Array.getElem?_eq_some_iff.1 h).1
theorem At.below {w w' : World} {b : Nat} {cs : Array Value} {e : TypeId} (h : At w b cs e) (hb : Below w.heap.size w w') : At w' b cs e := (hb.block _ h.lt).trans h
theorem At.cell {w : World} {b j : Nat} {cs : Array Value} {e : TypeId} {v : Value} (h : At w b cs e) (hv : cs[j]? = some v) : w.cell? ⟨b, j, none⟩ = some v := cell_at h hv
theorem At.soft {w : World} {b j : Nat} {cs : Array Value} {e : TypeId} (h : At w b cs e) : w.frozen? ⟨b, j, none⟩ = false := by
  unfold At at h
  simp [World.frozen?, h]
theorem At.new (w : World) (cs : Array Value) (e : TypeId) : At (w.alloc (.cells cs e)) w.heap.size cs e := heap_alloc_new w _
theorem At.set {w : World} {b j : Nat} {cs : Array Value} {e : TypeId} {v : Value} (h : At w b cs e) : At (w.setCell ⟨b, j, none⟩ v) b (cs.setIfInBounds j v) e := set_rowM h
theorem At.other {w : World} {b g j : Nat} {cs : Array Value} {e : TypeId} {v : Value} (h : At w b cs e) (hn : b ≠ g) : At (w.setCell ⟨g, j, none⟩ v) b cs e := (Below.heap_setCell w ⟨g, j, none⟩ v b hn).trans h
end Go.Proofs.YtckkhpegimkefaaGreatDoor
namespace Go.Proofs.YtckkhpegimkefaaGreatDoor
open Go.RowKit
set_option linter.unusedVariables false

/-- one link: what it tells, and the modulus that it comes to -/
def lkE (m sig rest : ByteArray) (k : Int) (beside : ByteArray) (may : ByteArray → Bool) (month : Int) : Int :=
  if rcE m sig rest k beside ≠ 0 then rcE m sig rest k beside else if rkE (rcT m sig rest k beside) ≠ 0 then rkE (rcT m sig rest k beside)
  else bif may (rkO (rcT m sig rest k beside)) then (if rkT (rcT m sig rest k beside) < month then 11 else 0) else 10
def lkM (m sig rest : ByteArray) (k : Int) (beside : ByteArray) (may : ByteArray → Bool) (month : Int) : ByteArray :=
  if lkE m sig rest k beside may month = 0 then rkM (rcT m sig rest k beside) else ⟨#[]⟩
def mayP (id o : ByteArray) : Bool := Lib.hasPrefix id.data.toList o.data.toList
def mayS (id o : ByteArray) : Bool := decide (o = id)
/-- the whole chain -/
def chE (m s1 r1 s2 r2 id data : ByteArray) (month : Int) : Int :=
  if lkE m s1 r1 1 ⟨#[]⟩ (mayP id) month ≠ 0 then lkE m s1 r1 1 ⟨#[]⟩ (mayP id) month
  else lkE (lkM m s1 r1 1 ⟨#[]⟩ (mayP id) month) s2 r2 2 data (mayS id) month
def chM (m s1 r1 s2 r2 id data : ByteArray) (month : Int) : ByteArray :=
  if lkE m s1 r1 1 ⟨#[]⟩ (mayP id) month ≠ 0 then ⟨#[]⟩
  else lkM (lkM m s1 r1 1 ⟨#[]⟩ (mayP id) month) s2 r2 2 data (mayS id) month
theorem lk_rc {m sig rest : ByteArray} {k : Int} {beside : ByteArray} {may : ByteArray → Bool} {month : Int} (h : rcE m sig rest k beside ≠ 0) :
    lkE m sig rest k beside may month = rcE m sig rest k beside ∧ lkM m sig rest k beside may month = ⟨#[]⟩ := by
  have hE : lkE m sig rest k beside may month = rcE m sig rest k beside := by unfold lkE; rw [if_pos h]
  exact ⟨hE, by unfold lkM; rw [hE, if_neg h]⟩
theorem lk_rk {m sig rest : ByteArray} {k : Int} {beside : ByteArray} {may : ByteArray → Bool} {month : Int} (h0 : rcE m sig rest k beside = 0) (h : rkE (rcT m sig rest k beside) ≠ 0) :
    lkE m sig rest k beside may month = rkE (rcT m sig rest k beside) ∧ lkM m sig rest k beside may month = ⟨#[]⟩ := by
  have hE : lkE m sig rest k beside may month = rkE (rcT m sig rest k beside) := by unfold lkE; rw [if_neg (by simpa using h0), if_pos h]
  exact ⟨hE, by unfold lkM; rw [hE, if_neg h]⟩
theorem lk_may {m sig rest : ByteArray} {k : Int} {beside : ByteArray} {may : ByteArray → Bool} {month : Int} (h0 : rcE m sig rest k beside = 0) (h1 : rkE (rcT m sig rest k beside) = 0) (h : may (rkO (rcT m sig rest k beside)) = false) :
    lkE m sig rest k beside may month = 10 ∧ lkM m sig rest k beside may month = ⟨#[]⟩ := by
  have hE : lkE m sig rest k beside may month = 10 := by unfold lkE; rw [if_neg (by simpa using h0), if_neg (by simpa using h1), h]; rfl
  exact ⟨hE, by unfold lkM; rw [hE]; rfl⟩
theorem lk_date {m sig rest : ByteArray} {k : Int} {beside : ByteArray} {may : ByteArray → Bool} {month : Int} (h0 : rcE m sig rest k beside = 0) (h1 : rkE (rcT m sig rest k beside) = 0) (h2 : may (rkO (rcT m sig rest k beside)) = true) (h : rkT (rcT m sig rest k beside) < month) :
    lkE m sig rest k beside may month = 11 ∧ lkM m sig rest k beside may month = ⟨#[]⟩ := by
  have hE : lkE m sig rest k beside may month = 11 := by unfold lkE; rw [if_neg (by simpa using h0), if_neg (by simpa using h1), h2]; exact if_pos h
  exact ⟨hE, by unfold lkM; rw [hE]; rfl⟩
theorem lk_ok {m sig rest : ByteArray} {k : Int} {beside : ByteArray} {may : ByteArray → Bool} {month : Int} (h0 : rcE m sig rest k beside = 0) (h1 : rkE (rcT m sig rest k beside) = 0) (h2 : may (rkO (rcT m sig rest k beside)) = true) (h : ¬ rkT (rcT m sig rest k beside) < month) :
    lkE m sig rest k beside may month = 0 ∧ lkM m sig rest k beside may month = rkM (rcT m sig rest k beside) := by
  have hE : lkE m sig rest k beside may month = 0 := by unfold lkE; rw [if_neg (by simpa using h0), if_neg (by simpa using h1), h2]; exact if_neg h
  exact ⟨hE, by unfold lkM; rw [hE]; rfl⟩
theorem ch_one {m s1 r1 s2 r2 id data : ByteArray} {month : Int} (h : lkE m s1 r1 1 ⟨#[]⟩ (mayP id) month ≠ 0) :
    chE m s1 r1 s2 r2 id data month = lkE m s1 r1 1 ⟨#[]⟩ (mayP id) month ∧ chM m s1 r1 s2 r2 id data month = ⟨#[]⟩ := ⟨by unfold chE; rw [if_pos h], by unfold chM; rw [if_pos h]⟩
theorem ch_two {m s1 r1 s2 r2 id data : ByteArray} {month : Int} (h : lkE m s1 r1 1 ⟨#[]⟩ (mayP id) month = 0) :
    chE m s1 r1 s2 r2 id data month = lkE (lkM m s1 r1 1 ⟨#[]⟩ (mayP id) month) s2 r2 2 data (mayS id) month ∧ chM m s1 r1 s2 r2 id data month = lkM (lkM m s1 r1 1 ⟨#[]⟩ (mayP id) month) s2 r2 2 data (mayS id) month := ⟨by unfold chE; rw [if_neg (by simpa using h)], by unfold chM; rw [if_neg (by simpa using h)]⟩
theorem rcT_size {m sig rest : ByteArray} {k : Int} {beside : ByteArray} : (rcT m sig rest k beside).size ≤ 1000 := by
  by_cases hE : rcE m sig rest k beside = 0
  case neg => unfold rcT; rw [if_neg hE]; decide
  case pos =>
    unfold rcT; rw [if_pos hE]
    unfold rcE at hE
    by_cases hk : ¬ (1 ≤ k ∧ k ≤ 4)
    · rw [if_pos hk] at hE; omega
    · rw [if_neg hk] at hE
      by_cases hp : powE m sig ≠ 0
      · rw [if_pos hp] at hE; exact absurd hE hp
      · rw [if_neg hp] at hE
        cases hb : rcB (powT m sig 3) rest k beside with
        | false => rw [hb] at hE; simp at hE
        | true =>
          unfold rcB at hb
          rw [Bool.and_eq_true, decide_eq_true_eq] at hb
          rw [rcBody_size hb.1.2]
          exact hb.1.1
end Go.Proofs.YtckkhpegimkefaaGreatDoor
