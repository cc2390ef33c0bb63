/- The document's card does orders: (Card).Do of the reference, where they are done. (Made by drafts/genRCd2.py.) -/
import Derived.Test.YtajkbkljonejnaaGreatDoorM42
import Derived.Test.YtajkbkljonejnaaGreatDoorM41
import Derived.Test.YtajkbkljonejnaaGreatDoorM00
namespace Go.Proofs.YtajkbkljonejnaaGreatDoor
open Go.RowKit
set_option linter.unusedVariables false
set_option linter.unusedSimpArgs false
set_option maxRecDepth 100000
theorem readE_first {t : ByteArray} (h : 10 ≤ t.size) (he : readE (t.extract 1 9) = 0) : byteAt t 1 ≤ 127 ∧ valN (t.extract 1 9).data.toList ≤ 9223372036854775807 := by
  have hs : (t.extract 1 9).size = 8 := by rw [ByteArray.size_extract]; omega
  have hv : valN (t.extract 1 9).data.toList ≤ 9223372036854775807 := by
    unfold readE at he
    rw [if_neg (by omega)] at he
    by_cases hc : 9223372036854775807 < valN (t.extract 1 9).data.toList
    · rw [if_pos hc] at he; cases he
    · omega
  refine ⟨?_, hv⟩
  have hl : (t.extract 1 9).data.toList.length = 8 := by
    have e : (t.extract 1 9).data.toList.length = (t.extract 1 9).size := by rw [Array.length_toList]; rfl
    omega
  cases hd : (t.extract 1 9).data.toList with
  | nil => rw [hd] at hl; cases hl
  | cons b r =>
    rw [hd] at hl hv; rw [valN_cons] at hv
    have hr : r.length = 7 := by simpa using hl
    rw [hr] at hv
    have hb : byteAt t 1 = b.toNat := by
      have e2 : byteAt (t.extract 1 9) 0 = b.toNat := by unfold byteAt; rw [hd]; rfl
      rw [← e2]
      unfold byteAt
      simp only [ByteArray.data_extract, Array.toList_extract, List.extract_eq_take_drop, List.getD_eq_getElem?_getD]
      rw [List.getElem?_take_of_lt (by decide), List.getElem?_drop]
    have e : (256 : Nat) ^ 7 = 72057594037927936 := rfl; rw [e] at hv
    omega
theorem readV_valR {s : ByteArray} (h8 : s.size ≤ 8) (hv : valN s.data.toList ≤ 9223372036854775807) : readV s = (valN s.data.toList : Int) := by
  unfold readV
  rw [if_neg (by omega), if_neg (by omega)]
theorem stepFR {t : ByteArray} {b b1 b0 : Nat} (h0 : t.size ≠ 0) (hn : ¬ (t.size < 10 ∨ t.size < 10 + b)) (hb : b < 256) (hb1 : b1 ≤ 127) (hb0 : b0 < 256) :
    wrap64 (b : Int) = (b : Int) ∧ wrap64 (10 + (b : Int)) = 10 + (b : Int) ∧ ¬ (t.size : Int) < 10 ∧ ¬ (t.size : Int) < 10 + (b : Int) ∧ ¬ (127 : Int) < (b1 : Int) ∧ 9 < t.size ∧ 1 < t.size ∧ (9 : Int) ≤ (t.size : Int) ∧ 9 ≤ t.size ∧ (10 : Int) ≤ 10 + (b : Int) ∧ 10 + (b : Int) ≤ (t.size : Int) ∧ 10 ≤ 10 + b ∧ 10 + b ≤ t.size ∧ (10 + (b : Int)).toNat = 10 + b ∧ (0 : Int) < (t.size : Int) ∧ 0 < t.size ∧ IntKind.i64.wrap ((b0 : Nat) : Int) = (b0 : Int) ∧ wrap64 ((b0 : Nat) : Int) = (b0 : Int) ∧ (t.extract (10 + b) t.size).size = t.size - (10 + b) := by
  refine ⟨by unfold wrap64; omega, by unfold wrap64; omega, by omega, by omega, by omega, by omega, by omega, by omega, by omega, by omega, by omega, by omega, by omega, by omega, by omega, by omega, by rw [IntKind.wrap_i64]; omega, by unfold wrap64; omega, by rw [ByteArray.size_extract]; omega⟩
theorem stepA {a t2 t o b : Nat} (h : a + t ≤ o) (h2 : t2 = t - (10 + b)) (h3 : 10 + b ≤ t) (h9 : 9 < t) : a + 1 + t2 ≤ o := by omega
theorem stepL {t2 t b : Nat} (h2 : t2 = t - (10 + b)) (h9 : 9 < t) : t2 < t := by omega
theorem wrapJ {j n : Nat} (h : j < n) (hn : n ≤ 8) : wrap64 ((j : Int) + 1) = ((j + 1 : Nat) : Int) := by unfold wrap64; omega
theorem stepMR {a t o : Nat} (h : a + 1 + t ≤ o) (ho : o ≤ 4096) : a + 1 ≤ maxLen ∧ (a + 1) * 32 ≤ 140737488355328 := by
  unfold maxLen; omega
theorem ent_rvalue (args : Array Value) (w : World) : (callFunc 35 args).run Tryz.prog w = .ok (.enter 35 args) w := by kernel_rfl
theorem ent_rderive (args : Array Value) (w : World) : (callFunc 36 args).run Tryz.prog w = .ok (.enter 36 args) w := by kernel_rfl
theorem ent_rzeros (args : Array Value) (w : World) : (callFunc 38 args).run Tryz.prog w = .ok (.enter 38 args) w := by kernel_rfl
theorem ent_rhide (args : Array Value) (w : World) : (callFunc 37 args).run Tryz.prog w = .ok (.enter 37 args) w := by kernel_rfl
theorem ent_rseal (args : Array Value) (w : World) : (callFunc 39 args).run Tryz.prog w = .ok (.enter 39 args) w := by kernel_rfl
theorem results_ctR {P : Program} {fn : Func} {p q : Tmp} {ty : TypeId} (h : fn.results = #[.cell p ty, .tmp q]) (tmps : Array Value) (w : World) (g : Nat) (t : TypeId) (cs : Array Value) (fr : Nat × Nat) (d : TypeDesc) (v : Value)
    (hp : tmps.getD p undef = .pointer (some ⟨g, 0, none⟩)) (hq : tmps.getD q undef = v) (hg : w.heap[g]? = some (.cells cs t fr))
    (hu : P.underlying ty = some d) (hd : (match d with | .struct _ | .array _ _ => true | _ => false) = true) (hi : (P.info? ty).map (·.size) = some cs.size) :
    (results fn tmps).run P w = .ok (.tuple #[.agg cs, v]) w := by
  have hp' : tmps[p]?.getD undef = .pointer (some ⟨g, 0, none⟩) := by simpa using hp
  have hq' : tmps[q]?.getD undef = v := by simpa using hq
  simp [results, h, hp', hq', asAddr, run_loadVar_row w g t ty cs fr d hg hu hd hi]
set_option maxHeartbeats 16000000 in
theorem rdo_done (id pin key : ByteArray) (pu on ru tr ve : Int) (sp sq : ByteArray) (ao : Option Addr) (n cap : Nat) (k : Ks) (x : Pay) (s : ByteArray) (l : List XOrder) (w : World) (hk16 : k.key.size = 16)
    (hsz : ¬ (s.size < 10 ∨ 4096 < s.size)) (hnum : ¬ numO s ≤ k.orders) (hright : rightO k s = true) (hread : readO ((openO k s).size + 1) (openO k s) = some l) (hord : ordersE k.key (numO s) l = 0) (hsame : ordersV k.key (numO s) l = s) :
    Calls Tryz.prog 14 #[.agg (rcL id pin key pu on ru tr ve sp sq ao n cap k x), .string s] w fun e w' => e = .returned (.tuple #[.agg (rcL id pin key pu on ru tr ve sp sq ao n cap (l.foldl (orderedK tr) { k with orders := numO s }) x), .int .i64 0]) ∧ Below w.heap.size w w' := by
  obtain ⟨W2, hW2⟩ : ∃ W2, W2 = (w.alloc (.cells (rcL id pin key pu on ru tr ve sp sq ao n cap k x) 47)).alloc (.cells rcZ 47) := ⟨_, rfl⟩
  have hs1 : (w.alloc (.cells (rcL id pin key pu on ru tr ve sp sq ao n cap k x) 47)).heap.size = w.heap.size + 1 := by simp
  have hX1 : W2.heap[w.heap.size]? = some (.cells (rcL id pin key pu on ru tr ve sp sq ao n cap k x) 47) := by rw [hW2, heap_alloc_oldK _ _ (by omega)]; exact heap_alloc_new _ _
  have hX2 : W2.heap[w.heap.size + 1]? = some (.cells rcZ 47) := by
    rw [hW2]; have := heap_alloc_new (w.alloc (.cells (rcL id pin key pu on ru tr ve sp sq ao n cap k x) 47)) (.cells rcZ 47); rw [hs1] at this; exact this
  have hB2 : Below w.heap.size w W2 := by rw [hW2]; exact ((Below.refl _ _).alloc (Nat.le_refl _) _).alloc (by simp) _
  obtain ⟨g1, hg1⟩ : ∃ g1, g1 = w.heap.size := ⟨_, rfl⟩; obtain ⟨g2, hg2⟩ : ∃ g2, g2 = w.heap.size + 1 := ⟨_, rfl⟩; rw [← hg1] at hX1; rw [← hg2] at hX2; have hl1 := block_ltR hX1; have hl2 := block_ltR hX2
  have hC : ∀ W : World, Below W2.heap.size W2 W → W.heap[g1]? = some (.cells (rcL id pin key pu on ru tr ve sp sq ao n cap k x) 47) ∧ W.heap[g2]? = some (.cells rcZ 47) := fun W hb => ⟨(hb.block _ hl1).trans hX1, (hb.block _ hl2).trans hX2⟩
  have hc : ∀ W : World, Below W2.heap.size W2 W → W.cell? ⟨g1, 16, none⟩ = some (.int .i64 k.orders) ∧ W.cell? ⟨g1, 24, none⟩ = some (.string k.key) := fun W hb => by
    have h := (hC W hb).1
    unfold rcL at h
    refine ⟨?_, ?_⟩ <;> simp [World.cell?, h]
  have i1 : ¬ (s.size : Int) < 10 := by omega
  have i2 : ¬ (4096 : Int) < (s.size : Int) := by omega
  have i3 : (2 : Int) ≤ (s.size : Int) := by omega
  have i4 : 2 ≤ s.size := by omega
  have hsm2 : (s.size : Int) ≤ 9223372036854775807 := by omega
  have j1 : (2 : Int) ≤ (s.size : Int) - 8 := by omega
  have j2 : 2 ≤ s.size - 8 := by omega
  have j4 : s.size - 8 ≤ s.size := by omega
  have j6 : ((s.size : Int) - 8).toNat = s.size - 8 := by omega
  have j7 : (0 : Int) ≤ (s.size : Int) - 8 := by omega
  have j9 : ¬ (s.size : Int) < 8 := by omega
  have j8 : (s.size : Int) - 8 ≤ (s.size : Int) := by omega
  obtain ⟨nm, hnm⟩ : ∃ nm, nm = numO s := ⟨_, rfl⟩; obtain ⟨tn, htn⟩ : ∃ tn, tn = s.extract 0 2 := ⟨_, rfl⟩
  have htn2 : tn.size = 2 := by rw [htn, ByteArray.size_extract]; omega
  have htw : twoS nm = tn := by rw [hnm, htn]; exact twoS_back (by rw [← htn]; exact htn2)
  have hvn : valN tn.data.toList < 65536 := by
    have e : tn.data.toList.length = tn.size := by simp
    exact valN_twoD (by omega)
  have N1 : Hid (∀ W, Calls Tryz.prog 35 #[.string tn] W fun e w' => e = .returned (.int .i64 nm) ∧ w' = W) := hide (fun W => by
    have h := value_any tn W (by omega) (by omega)
    have e : (valN tn.data.toList : Int) = nm := by rw [hnm]; unfold numO; rw [← htn]; exact (readV_valR (by omega) (by omega)).symm
    rw [e] at h; exact h)
  obtain ⟨ok, hok⟩ : ∃ ok, ok = okeyS k.key (numO s) := ⟨_, rfl⟩
  have hok16 : ok.size = 16 := by rw [hok]; exact okeyS_size _ _
  obtain ⟨op, hop⟩ : ∃ op, op = openO k s := ⟨_, rfl⟩
  have hop2 : op = hideS ok zeros8 (s.extract 2 (s.size - 8)) := by rw [hop, hok]; rfl
  have hops : op.size ≤ 4096 := by rw [hop2, hideS_size, ByteArray.size_extract]; omega
  have N2 : Hid (∀ W, Calls Tryz.prog 36 #[.string k.key, .string ⟨#[111, 114, 100, 101, 114, 115]⟩, .string tn] W fun e w' => e = .returned (.string ok) ∧ Below W.heap.size W w') := hide (fun W => by
    have h := rderive_any k.key ordersWord tn hk16 (by decide) (by omega) W
    have e : deriveS k.key ordersWord tn = ok := by rw [hok, ← htw, hnm]; rfl
    rw [e] at h; exact h)
  have N3 : Hid (∀ W, Calls Tryz.prog 38 #[.int .i64 8] W fun e w' => e = .returned (.string zeros8) ∧ Below W.heap.size W w') := hide (fun W => (rzeros_any 8 (by decide) W).mono (by rintro e w' ⟨h1, h2⟩; exact ⟨h1, by rw [h2]; exact Below.refl _ _⟩))
  have N4 : Hid (∀ W, Calls Tryz.prog 37 #[.string ok, .string zeros8, .string (s.extract 2 (s.size - 8))] W fun e w' => e = .returned (.string op) ∧ Below W.heap.size W w') := hide (fun W => by
    have h := rhide_any ok zeros8 (s.extract 2 (s.size - 8)) hok16 (by decide) (by rw [ByteArray.size_extract]; omega) W
    rw [← hop2] at h; exact h)
  obtain ⟨SL, hS⟩ : ∃ SL, SL = s.extract (s.size - 8) s.size := ⟨_, rfl⟩
  have N5 : Hid (∀ W, Calls Tryz.prog 39 #[.string ok, .string (tn ++ op)] W fun e w' => e = .returned (.string SL) ∧ Below W.heap.size W w') := hide (fun W => by
    have h := rseal_any ok (tn ++ op) hok16 (by rw [ByteArray.size_append]; omega) W
    have e : sealS ok (tn ++ op) = SL := by
      have hr : decide (s.extract (s.size - 8) s.size = sealS (okeyS k.key (numO s)) (twoS (numO s) ++ openO k s)) = true := hright; have hr2 := of_decide_eq_true hr; rw [← hok, ← hop, ← hnm, htw, ← hS] at hr2; exact hr2.symm
    rw [e] at h; exact h)
  have ha := fun W => run_string_add_sum (P := Tryz.prog) W tn op (by omega)
  have hread2 : readO (op.size + 1) op = some l := by rw [hop]; exact hread
  have N7 : Hid (∀ ar cr W, RowOrder W ar l → Calls Tryz.prog 40 #[.string k.key, .int .i64 nm, .slice ar l.length cr] W fun e w' => e = .returned (.tuple #[.string s, .int .i64 0]) ∧ Below W.heap.size W w') := hide (fun ar cr W hr => by
    have h := rorders_any k.key (numO s) l ar cr W hr; rw [hord, hsame, ← hnm] at h
    exact h)
  have hnle : ¬ nm ≤ k.orders := by rw [hnm]; exact hnum
  obtain ⟨kN, hkN⟩ : ∃ kN, kN = l.foldl (orderedK tr) { k with orders := nm } := ⟨_, rfl⟩; rw [← hnm, ← hkN]; have e0 : s.extract 0 2 = tn := htn.symm; have e8 : s.extract (s.size - 8) s.size = SL := hS.symm; have HW2 := hide hW2; have HB2 := hide hB2; have H1 := hide hg1; have H2 := hide hg2; have HC := hide hC; have Hc := hide hc; have HRD := hide hread2; have HKN := hide hkN; have HOPS := hide hops; have HSZ := hide hsz; have HL1 := hide hl1; have HL2 := hide hl2; have HOKK := hide (ordersE_zero hord); clear hs1 hX1 hX2 hB2 hW2 hg1 hg2 hC hc hread2 hkN hops hsz hl1 hl2 hop2 hop hok hok16 htn htn2 htw hvn hS hnm hk16 hnum hright hread hord hsame; obtain ⟨c16, c24⟩ := unhide Hc W2 (Below.refl _ _)
  go_enter Tryz.func14, Tryz.ntmps14
  unfold rcL
  go_upto_region 1 with fail
  have HWu := unhide HW2
  unfold rcL rcZ at HWu
  rw [← HWu]; clear HWu; rw [← unhide H2, ← unhide H1]
  go_wp2_with fail
  refine (unhide N1 _).mono ?_; rintro r y1 ⟨rfl, hy⟩; have hy' := hy.symm; subst hy'
  go_upto_region 6 with fail
  refine wp_drawnB (by kernel_rfl) 175 (by rfl) (by kernel_rfl) (by kernel_rfl) 6 (vals [.pointer (some ⟨g1, 24, none⟩), .string k.key, .string s, .string tn, .string ok, .string ok]) (fun x => x) (Below.refl W2.heap.size W2) ?_ ?_
  · refine ⟨?_, ?_, ?_, ?_, ?_, ?_, trivial⟩
    · intro S ac wx hJ hS hw hoff; obtain ⟨_, hb⟩ := hJ.same (i := 0) (by decide) hS; have eT2 : ac.eval (.tmp 2) = .pointer (some ⟨g1, 0, none⟩) := (hoff 2 (by kernel_rfl)).trans rfl; have gT2 := evT eT2; refine Does.value (.pointer (some ⟨g1, 24, none⟩)) _ ?_ (hJ.val (i := 0) (by decide) hS hw _ rfl _ hb); clear hJ hw hoff; go_simp
    · intro S ac wx hJ hS hw hoff; obtain ⟨_, hb⟩ := hJ.same (i := 1) (by decide) hS; have eT34 : ac.eval (.tmp 34) = .pointer (some ⟨g1, 24, none⟩) := hJ.v 0 (by decide) (hw 0 (by kernel_rfl)); have c24 := (unhide Hc _ hb).2; have gT34 := evT eT34; refine Does.value (.string k.key) _ ?_ (hJ.val (i := 1) (by decide) hS hw _ rfl _ hb); clear hJ hw hoff; go_simp
    · intro S ac wx hJ hS hw hoff; obtain ⟨_, hb⟩ := hJ.same (i := 2) (by decide) hS; have eT1 : ac.eval (.tmp 1) = .string s := (hoff 1 (by kernel_rfl)).trans rfl; have gT1 := evT eT1; refine Does.value (.string s) _ ?_ (hJ.val (i := 2) (by decide) hS hw _ rfl _ hb); clear hJ hw hoff; go_simp
    · intro S ac wx hJ hS hw hoff; obtain ⟨_, hb⟩ := hJ.same (i := 3) (by decide) hS; have eT36 : ac.eval (.tmp 36) = .string s := hJ.v 2 (by decide) (hw 2 (by kernel_rfl)); have gT36 := evT eT36; refine Does.value (.string tn) _ ?_ (hJ.val (i := 3) (by decide) hS hw _ rfl _ hb); clear hJ hw hoff; go_simp
    · intro S ac wx hJ hS hw hoff; obtain ⟨_, hb⟩ := hJ.same (i := 4) (by decide) hS; have eT35 : ac.eval (.tmp 35) = .string k.key := hJ.v 1 (by decide) (hw 1 (by kernel_rfl)); have eT37 : ac.eval (.tmp 37) = .string tn := hJ.v 3 (by decide) (hw 3 (by kernel_rfl)); refine does_call3 36 (.tmp 35) (.const (.string ⟨#[111, 114, 100, 101, 114, 115]⟩)) (.tmp 37) _ rfl _ _ _ eT35 rfl eT37 ent_rderive (unhide N2 wx) ?_; rintro e wy ⟨rfl, hy⟩; exact ⟨_, rfl, hJ.val (i := 4) (by decide) hS hw _ rfl _ (hb.trans (hy.mono hb.size))⟩
    · intro S ac wx hJ hS hw hoff; obtain ⟨_, hb⟩ := hJ.same (i := 5) (by decide) hS; have eT38 : ac.eval (.tmp 38) = .string ok := hJ.v 4 (by decide) (hw 4 (by kernel_rfl)); have gT38 := evT eT38; refine Does.value (.string ok) _ ?_ (hJ.val (i := 5) (by decide) hS hw _ rfl _ hb); clear hJ hw hoff; go_simp
  · intro ac wx S hdf hsz hoff hall hJ; have hb := hJ.all; have hh34 : ac.tmps.getD 34 undef = .pointer (some ⟨g1, 24, none⟩) := hJ.v 0 (by decide) (hall 0 (by decide)); have hh35 : ac.tmps.getD 35 undef = .string k.key := hJ.v 1 (by decide) (hall 1 (by decide)); have hh36 : ac.tmps.getD 36 undef = .string s := hJ.v 2 (by decide) (hall 2 (by decide)); have hh37 : ac.tmps.getD 37 undef = .string tn := hJ.v 3 (by decide) (hall 3 (by decide)); have hh38 : ac.tmps.getD 38 undef = .string ok := hJ.v 4 (by decide) (hall 4 (by decide)); have hh7 : ac.tmps.getD 7 undef = .string ok := hJ.v 5 (by decide) (hall 5 (by decide)); have hmix := mix_eq [false, false, false, false, false, false, false, true, false, false, false, false, false, false, false, false, false, false, false, false, false, false, false, false, false, false, false, false, false, false, false, false, false, false, true, true, true, true, true, false, false, false, false, false, false, false, false, false, false, false, false, false, false, false, false, false, false, false, false, false, false, false, false, false, false, false, false, false, false, false, false, false, false, false, false, false, false, false, false, false, false, false, false, false, false, false, false, false, false, false, false, false, false, false, false, false, false, false, false, false, false, false, false, false, false, false, false, false, false, false, false, false, false, false, false, false, false, false, false, false, false, false, false, false, false, false, false, false, false, false, false, false, false, false, false, false, false, false, false, false, false, false, false, false, false, false, false, false, false, false, false, false, false, false, false, false, false, false, false, false, false, false, false, false, false, false, false, false, false, false, false, false, false, false, false] rfl rfl hsz hdf (by kernel_rfl) hoff; clear hoff hall hsz hdf hJ
    simp only [mixL, Nat.reduceAdd, hh34, hh35, hh36, hh37, hh38, hh7] at hmix
    rw [hmix]; clear hmix hh34 hh35 hh36 hh37 hh38 hh7; have HB6 := hide hb; clear hb c16 c24
    go_upto_region 8 with fail
    refine wp_drawnB (by kernel_rfl) 175 (by rfl) (by kernel_rfl) (by kernel_rfl) 7 (vals [.string ok, .string zeros8, .string s, .int .i64 ((s.size : Int) - 8), .string (s.extract 2 (s.size - 8)), .string op, .string op]) (fun x => x) (unhide HB6) ?_ ?_
    · refine ⟨?_, ?_, ?_, ?_, ?_, ?_, ?_, trivial⟩
      · intro S ac wx hJ hS hw hoff; obtain ⟨_, hb⟩ := hJ.same (i := 0) (by decide) hS; have eT7 : ac.eval (.tmp 7) = .string ok := (hoff 7 (by kernel_rfl)).trans rfl; have gT7 := evT eT7; refine Does.value (.string ok) _ ?_ (hJ.val (i := 0) (by decide) hS hw _ rfl _ hb); clear hJ hw hoff; go_simp
      · intro S ac wx hJ hS hw hoff; obtain ⟨_, hb⟩ := hJ.same (i := 1) (by decide) hS; refine does_call1 38 (.const (.int .i64 8)) _ rfl _ rfl ent_rzeros (unhide N3 wx) ?_; rintro e wy ⟨rfl, hy⟩; exact ⟨_, rfl, hJ.val (i := 1) (by decide) hS hw _ rfl _ (hb.trans (hy.mono hb.size))⟩
      · intro S ac wx hJ hS hw hoff; obtain ⟨_, hb⟩ := hJ.same (i := 2) (by decide) hS; have eT1 : ac.eval (.tmp 1) = .string s := (hoff 1 (by kernel_rfl)).trans rfl; have gT1 := evT eT1; refine Does.value (.string s) _ ?_ (hJ.val (i := 2) (by decide) hS hw _ rfl _ hb); clear hJ hw hoff; go_simp
      · intro S ac wx hJ hS hw hoff; obtain ⟨_, hb⟩ := hJ.same (i := 3) (by decide) hS; have eT8 : ac.eval (.tmp 8) = .int .i64 ((s.size : Int) - 8) := (hoff 8 (by kernel_rfl)).trans rfl; have gT8 := evT eT8; refine Does.value (.int .i64 ((s.size : Int) - 8)) _ ?_ (hJ.val (i := 3) (by decide) hS hw _ rfl _ hb); clear hJ hw hoff; go_simp
      · intro S ac wx hJ hS hw hoff; obtain ⟨_, hb⟩ := hJ.same (i := 4) (by decide) hS; have eT44 : ac.eval (.tmp 44) = .string s := hJ.v 2 (by decide) (hw 2 (by kernel_rfl)); have eT45 : ac.eval (.tmp 45) = .int .i64 ((s.size : Int) - 8) := hJ.v 3 (by decide) (hw 3 (by kernel_rfl)); have gT44 := evT eT44; have gT45 := evT eT45; refine Does.value (.string (s.extract 2 (s.size - 8))) _ ?_ (hJ.val (i := 4) (by decide) hS hw _ rfl _ hb); clear hJ hw hoff; go_simp
      · intro S ac wx hJ hS hw hoff; obtain ⟨_, hb⟩ := hJ.same (i := 5) (by decide) hS; have eT42 : ac.eval (.tmp 42) = .string ok := hJ.v 0 (by decide) (hw 0 (by kernel_rfl)); have eT43 : ac.eval (.tmp 43) = .string zeros8 := hJ.v 1 (by decide) (hw 1 (by kernel_rfl)); have eT46 : ac.eval (.tmp 46) = .string (s.extract 2 (s.size - 8)) := hJ.v 4 (by decide) (hw 4 (by kernel_rfl)); refine does_call3 37 (.tmp 42) (.tmp 43) (.tmp 46) _ rfl _ _ _ eT42 eT43 eT46 ent_rhide (unhide N4 wx) ?_; rintro e wy ⟨rfl, hy⟩; exact ⟨_, rfl, hJ.val (i := 5) (by decide) hS hw _ rfl _ (hb.trans (hy.mono hb.size))⟩
      · intro S ac wx hJ hS hw hoff; obtain ⟨_, hb⟩ := hJ.same (i := 6) (by decide) hS; have eT47 : ac.eval (.tmp 47) = .string op := hJ.v 5 (by decide) (hw 5 (by kernel_rfl)); have gT47 := evT eT47; refine Does.value (.string op) _ ?_ (hJ.val (i := 6) (by decide) hS hw _ rfl _ hb); clear hJ hw hoff; go_simp
    · intro ac wx S hdf hsz hoff hall hJ; have hb := hJ.all; have hh42 : ac.tmps.getD 42 undef = .string ok := hJ.v 0 (by decide) (hall 0 (by decide)); have hh43 : ac.tmps.getD 43 undef = .string zeros8 := hJ.v 1 (by decide) (hall 1 (by decide)); have hh44 : ac.tmps.getD 44 undef = .string s := hJ.v 2 (by decide) (hall 2 (by decide)); have hh45 : ac.tmps.getD 45 undef = .int .i64 ((s.size : Int) - 8) := hJ.v 3 (by decide) (hall 3 (by decide)); have hh46 : ac.tmps.getD 46 undef = .string (s.extract 2 (s.size - 8)) := hJ.v 4 (by decide) (hall 4 (by decide)); have hh47 : ac.tmps.getD 47 undef = .string op := hJ.v 5 (by decide) (hall 5 (by decide)); have hh9 : ac.tmps.getD 9 undef = .string op := hJ.v 6 (by decide) (hall 6 (by decide)); have hmix := mix_eq [false, false, false, false, false, false, false, false, false, true, false, false, false, false, false, false, false, false, false, false, false, false, false, false, false, false, false, false, false, false, false, false, false, false, false, false, false, false, false, false, false, false, true, true, true, true, true, true, false, false, false, false, false, false, false, false, false, false, false, false, false, false, false, false, false, false, false, false, false, false, false, false, false, false, false, false, false, false, false, false, false, false, false, false, false, false, false, false, false, false, false, false, false, false, false, false, false, false, false, false, false, false, false, false, false, false, false, false, false, false, false, false, false, false, false, false, false, false, false, false, false, false, false, false, false, false, false, false, false, false, false, false, false, false, false, false, false, false, false, false, false, false, false, false, false, false, false, false, false, false, false, false, false, false, false, false, false, false, false, false, false, false, false, false, false, false, false, false, false, false, false, false, false, false, false] rfl rfl hsz hdf (by kernel_rfl) hoff; clear hoff hall hsz hdf hJ
      simp only [mixL, Nat.reduceAdd, hh42, hh43, hh44, hh45, hh46, hh47, hh9] at hmix
      rw [hmix]; clear hmix hh42 hh43 hh44 hh45 hh46 hh47 hh9; have HB8 := hide hb; clear hb HB6
      go_upto_region 9 with fail
      refine wp_drawnB (by kernel_rfl) 175 (by rfl) (by kernel_rfl) (by kernel_rfl) 10 (vals [.string ok, .string s, .string tn, .string op, .string (tn ++ op), .string SL, .string s, .int .i64 ((s.size : Int) - 8), .string SL, .bool false]) (fun x => x) (unhide HB8) ?_ ?_
      · refine ⟨?_, ?_, ?_, ?_, ?_, ?_, ?_, ?_, ?_, ?_, trivial⟩
        · intro S ac wx hJ hS hw hoff; obtain ⟨_, hb⟩ := hJ.same (i := 0) (by decide) hS; have eT7 : ac.eval (.tmp 7) = .string ok := (hoff 7 (by kernel_rfl)).trans rfl; have gT7 := evT eT7; refine Does.value (.string ok) _ ?_ (hJ.val (i := 0) (by decide) hS hw _ rfl _ hb); clear hJ hw hoff; go_simp
        · intro S ac wx hJ hS hw hoff; obtain ⟨_, hb⟩ := hJ.same (i := 1) (by decide) hS; have eT1 : ac.eval (.tmp 1) = .string s := (hoff 1 (by kernel_rfl)).trans rfl; have gT1 := evT eT1; refine Does.value (.string s) _ ?_ (hJ.val (i := 1) (by decide) hS hw _ rfl _ hb); clear hJ hw hoff; go_simp
        · intro S ac wx hJ hS hw hoff; obtain ⟨_, hb⟩ := hJ.same (i := 2) (by decide) hS; have eT49 : ac.eval (.tmp 49) = .string s := hJ.v 1 (by decide) (hw 1 (by kernel_rfl)); have gT49 := evT eT49; refine Does.value (.string tn) _ ?_ (hJ.val (i := 2) (by decide) hS hw _ rfl _ hb); clear hJ hw hoff; go_simp
        · intro S ac wx hJ hS hw hoff; obtain ⟨_, hb⟩ := hJ.same (i := 3) (by decide) hS; have eT9 : ac.eval (.tmp 9) = .string op := (hoff 9 (by kernel_rfl)).trans rfl; have gT9 := evT eT9; refine Does.value (.string op) _ ?_ (hJ.val (i := 3) (by decide) hS hw _ rfl _ hb); clear hJ hw hoff; go_simp
        · intro S ac wx hJ hS hw hoff; obtain ⟨_, hb⟩ := hJ.same (i := 4) (by decide) hS; have eT50 : ac.eval (.tmp 50) = .string tn := hJ.v 2 (by decide) (hw 2 (by kernel_rfl)); have eT51 : ac.eval (.tmp 51) = .string op := hJ.v 3 (by decide) (hw 3 (by kernel_rfl)); have gT50 := evT eT50; have gT51 := evT eT51; refine Does.value (.string (tn ++ op)) _ ?_ (hJ.val (i := 4) (by decide) hS hw _ rfl _ hb); clear hJ hw hoff; go_simp
        · intro S ac wx hJ hS hw hoff; obtain ⟨_, hb⟩ := hJ.same (i := 5) (by decide) hS; have eT48 : ac.eval (.tmp 48) = .string ok := hJ.v 0 (by decide) (hw 0 (by kernel_rfl)); have eT52 : ac.eval (.tmp 52) = .string (tn ++ op) := hJ.v 4 (by decide) (hw 4 (by kernel_rfl)); refine does_call2 39 (.tmp 48) (.tmp 52) _ rfl _ _ eT48 eT52 ent_rseal (unhide N5 wx) ?_; rintro e wy ⟨rfl, hy⟩; exact ⟨_, rfl, hJ.val (i := 5) (by decide) hS hw _ rfl _ (hb.trans (hy.mono hb.size))⟩
        · intro S ac wx hJ hS hw hoff; obtain ⟨_, hb⟩ := hJ.same (i := 6) (by decide) hS; have eT1 : ac.eval (.tmp 1) = .string s := (hoff 1 (by kernel_rfl)).trans rfl; have gT1 := evT eT1; refine Does.value (.string s) _ ?_ (hJ.val (i := 6) (by decide) hS hw _ rfl _ hb); clear hJ hw hoff; go_simp
        · intro S ac wx hJ hS hw hoff; obtain ⟨_, hb⟩ := hJ.same (i := 7) (by decide) hS; have eT8 : ac.eval (.tmp 8) = .int .i64 ((s.size : Int) - 8) := (hoff 8 (by kernel_rfl)).trans rfl; have gT8 := evT eT8; refine Does.value (.int .i64 ((s.size : Int) - 8)) _ ?_ (hJ.val (i := 7) (by decide) hS hw _ rfl _ hb); clear hJ hw hoff; go_simp
        · intro S ac wx hJ hS hw hoff; obtain ⟨_, hb⟩ := hJ.same (i := 8) (by decide) hS; have eT54 : ac.eval (.tmp 54) = .string s := hJ.v 6 (by decide) (hw 6 (by kernel_rfl)); have eT55 : ac.eval (.tmp 55) = .int .i64 ((s.size : Int) - 8) := hJ.v 7 (by decide) (hw 7 (by kernel_rfl)); have gT54 := evT eT54; have gT55 := evT eT55; refine Does.value (.string SL) _ ?_ (hJ.val (i := 8) (by decide) hS hw _ rfl _ hb); clear hJ hw hoff; go_simp
        · intro S ac wx hJ hS hw hoff; obtain ⟨_, hb⟩ := hJ.same (i := 9) (by decide) hS; have eT53 : ac.eval (.tmp 53) = .string SL := hJ.v 5 (by decide) (hw 5 (by kernel_rfl)); have eT56 : ac.eval (.tmp 56) = .string SL := hJ.v 8 (by decide) (hw 8 (by kernel_rfl)); have gT53 := evT eT53; have gT56 := evT eT56; refine Does.value (.bool false) _ ?_ (hJ.val (i := 9) (by decide) hS hw _ rfl _ hb); clear hJ hw hoff; go_simp
      · intro ac wx S hdf hsz hoff hall hJ; have hb := hJ.all; have hh48 : ac.tmps.getD 48 undef = .string ok := hJ.v 0 (by decide) (hall 0 (by decide)); have hh49 : ac.tmps.getD 49 undef = .string s := hJ.v 1 (by decide) (hall 1 (by decide)); have hh50 : ac.tmps.getD 50 undef = .string tn := hJ.v 2 (by decide) (hall 2 (by decide)); have hh51 : ac.tmps.getD 51 undef = .string op := hJ.v 3 (by decide) (hall 3 (by decide)); have hh52 : ac.tmps.getD 52 undef = .string (tn ++ op) := hJ.v 4 (by decide) (hall 4 (by decide)); have hh53 : ac.tmps.getD 53 undef = .string SL := hJ.v 5 (by decide) (hall 5 (by decide)); have hh54 : ac.tmps.getD 54 undef = .string s := hJ.v 6 (by decide) (hall 6 (by decide)); have hh55 : ac.tmps.getD 55 undef = .int .i64 ((s.size : Int) - 8) := hJ.v 7 (by decide) (hall 7 (by decide)); have hh56 : ac.tmps.getD 56 undef = .string SL := hJ.v 8 (by decide) (hall 8 (by decide)); have hh57 : ac.tmps.getD 57 undef = .bool false := hJ.v 9 (by decide) (hall 9 (by decide)); have hmix := mix_eq [false, false, false, false, false, false, false, false, false, false, false, false, false, false, false, false, false, false, false, false, false, false, false, false, false, false, false, false, false, false, false, false, false, false, false, false, false, false, false, false, false, false, false, false, false, false, false, false, true, true, true, true, true, true, true, true, true, true, false, false, false, false, false, false, false, false, false, false, false, false, false, false, false, false, false, false, false, false, false, false, false, false, false, false, false, false, false, false, false, false, false, false, false, false, false, false, false, false, false, false, false, false, false, false, false, false, false, false, false, false, false, false, false, false, false, false, false, false, false, false, false, false, false, false, false, false, false, false, false, false, false, false, false, false, false, false, false, false, false, false, false, false, false, false, false, false, false, false, false, false, false, false, false, false, false, false, false, false, false, false, false, false, false, false, false, false, false, false, false, false, false, false, false, false, false] rfl rfl hsz hdf (by kernel_rfl) hoff; clear hoff hall hsz hdf hJ
        simp only [mixL, Nat.reduceAdd, hh48, hh49, hh50, hh51, hh52, hh53, hh54, hh55, hh56, hh57] at hmix
        rw [hmix]; clear hmix hh48 hh49 hh50 hh51 hh52 hh53 hh54 hh55 hh56 hh57; have HB9 := hide hb; clear hb HB8 N1 N2 N3 N4 N5 ha e0 e8 i1 i2 i3 i4 j1 j2 j4 j6 j7 j8 j9
        go_upto_region 11 with fail
        obtain ⟨y5, hy5⟩ : ∃ y5, y5 = wx := ⟨_, rfl⟩; rw [← hy5]; rw [← hy5] at HB9; clear hy5; obtain ⟨io, hi, hz0, hz1, hz2⟩ := info_partsO infoOrd; have HI := hide hi; have Z0 := hide hz0; have Z1 := hide hz1; have Z2 := hide hz2; have hR0 : RoR y5 op op [] (.slice none 0 0) y5 := ⟨OwnR.nil _ _ _ _ _, Below.refl _ _, by simp, by simp, by simp⟩; have HR0 := hide hR0; clear hi hz0 hz1 hz2 hR0
        go_wp2
        go_loopw [9, 10, 11] (fun s9 s10 _ wr => ∃ t acc, s9 = .string t ∧ RoR y5 op t acc s10 wr) (fun s9 _ _ _ => szOf s9)
        case atStart => exact ⟨op, [], rfl, unhide HR0⟩
        case round =>
          clear HR0; obtain ⟨t, acc, rfl, hR⟩ := hrel
          have hts : t.size ≤ 4096 := by have := hR.l; have := unhide HOPS; omega
          obtain ⟨⟨ra, rc, hv⟩, _⟩ := hR.own.form; subst hv
          by_cases h0 : t.size = 0
          · have hz := isEmptyK (b := true) (decide_eq_true h0)
            have hla : l = acc := by
              have := hR.r; rw [unhide HRD, readO_nil h0] at this
              simpa using this
            subst hla
            have hra : ∀ p, ra = some p → l ≠ [] → y5.heap.size ≤ p.block := fun p hp hn => by
              rcases hR.own.form.2 with e | ⟨q, cq, e, hq, _⟩
              · exact absurd e hn
              · injection e with e1 e2 e3
                rw [hp] at e1
                injection e1 with e1
                rw [e1]; exact hq
            have HRA := hide hra; clear hra; obtain ⟨ra', rc', hv', hrow⟩ := rowOrder_own hR.own (by have := hR.l; have := unhide HOPS; unfold maxLen; omega) (fun x hx => okOrder_any (hR.k x hx))
            injection hv' with f1 f2 f3
            subst f1; subst f3; have HB := hide ((unhide HB9).trans (hR.b.mono (unhide HB9).size)); have c24 := (unhide Hc _ (unhide HB)).2; have HROW := hide hrow; clear hR hrow h0 hts
            go_wp2_with fail
            refine (unhide N7 ra rc _ (unhide HROW)).mono ?_; rintro r y7 ⟨rfl, hb7⟩; have hrow7 := (unhide HROW).below hb7; have HB7 := hide ((unhide HB).trans (hb7.mono (unhide HB).size)); have hg1y : g1 < y5.heap.size := Nat.lt_of_lt_of_le (unhide HL1) (unhide HB9).size; clear hb7 HROW HB c24; have hrw := (unhide HC _ (unhide HB7)).1; have hz2 := (unhide HC _ (unhide HB7)).2
            have c16 : y7.cell? ⟨g1, 16, none⟩ = some (.int .i64 k.orders) := by unfold rcL at hrw; simp [World.cell?, hrw]
            have f16 : y7.frozen? ⟨g1, 16, none⟩ = false := by unfold rcL at hrw; simp [World.frozen?, hrw]
            have hs0 : (y7.setCell ⟨g1, 16, none⟩ (.int .i64 nm)).heap[g1]? = some (.cells (rcL id pin key pu on ru tr ve sp sq ao n cap { k with orders := nm } x) 47) := by
              have h0 := setRow1 hrw 16 (.int .i64 nm)
              unfold rcL at h0
              simp only [List.setIfInBounds_toArray, List.set_cons_succ, List.set_cons_zero] at h0
              exact h0
            have HS0 := hide (And.intro hs0 (Chg.setCell y7 ⟨g1, 16, none⟩ (.int .i64 nm))); have HZ2 := hide hz2; obtain ⟨hro, hokk, hml⟩ := hrow7
            have hrl : ∀ q off, ra = some ⟨q, off, none⟩ → l ≠ [] → q ≠ g1 := fun q off e hn e2 => by
              have hq := unhide HRA _ e hn
              simp only at hq
              rw [e2] at hq; exact absurd hg1y (Nat.not_lt.2 hq)
            have HRL := hide hrl; have HRO := hide hro; have HL8 : Hid (l.length ≤ 8) := hide (unhide HOKK).2.2.1; clear hrw hz2 hs0 hro hokk hml hrl hg1y HRA N7
            have hss : (s.toList == s.toList) = true := by simp
            go_upto_region 21 with fail
            go_wp2
            go_loopw [15, 120] (fun _ s120 wr => ∃ j : Nat, j ≤ l.length ∧ s120 = .int .i64 (j : Int) ∧ wr.heap[g1]? = some (.cells (rcL id pin key pu on ru tr ve sp sq ao n cap ((l.take j).foldl (orderedK tr) { k with orders := nm }) x) 47) ∧ Chg (fun q => q = g1) y7 wr) (fun _ s120 _ => l.length - (intOf s120).toNat)
            case atStart =>
              obtain ⟨q1, q2⟩ := unhide HS0; exact ⟨0, Nat.zero_le _, rfl, q1, q2⟩
            case round =>
              clear c16 f16 HS0 hss; obtain ⟨j, hj, rfl, hX, hch⟩ := hrel; obtain ⟨kj, hkj⟩ : ∃ kj, kj = (l.take j).foldl (orderedK tr) { k with orders := nm } := ⟨_, rfl⟩; rw [← hkj] at hX
              by_cases hjl : j < l.length
              · obtain ⟨od, hx⟩ : ∃ od, l[j]? = some od := ⟨_, List.getElem?_eq_getElem hjl⟩
                have hne0 : l ≠ [] := fun e => by rw [e] at hjl; exact absurd hjl (Nat.not_lt_zero _)
                rcases unhide HRO with hnil | ⟨rb, off, hao, hrb, hrc⟩
                · exact absurd hnil hne0
                have hrbn := unhide HRL rb off hao hne0; subst hao; obtain ⟨r0, r1, r2⟩ := hrc j od hx; have hblk : wr.heap[rb]? = y7.heap[rb]? := hch.block rb hrb hrbn; have t0 : wr.cell? ⟨rb, off + j * 3, none⟩ = some (.int .i64 od.what) := (World.cell?_of_block (w := y7) (a := ⟨rb, off + j * 3, none⟩) hblk).trans r0; have t1 : wr.cell? ⟨rb, off + j * 3 + 1, none⟩ = some (.int .i64 od.n) := (World.cell?_of_block (w := y7) (a := ⟨rb, off + j * 3 + 1, none⟩) hblk).trans r1; have t2 : wr.cell? ⟨rb, off + j * 3 + 2, none⟩ = some (.string od.text) := (World.cell?_of_block (w := y7) (a := ⟨rb, off + j * 3 + 2, none⟩) hblk).trans r2
                have hstep : (l.take (j + 1)).foldl (orderedK tr) { k with orders := nm } = orderedK tr kj od := by
                  rw [hkj, List.take_add_one, hx, List.foldl_append]; rfl
                have hjl2 : (j : Int) < (l.length : Int) := Int.ofNat_lt.2 hjl; have hwj := wrapJ hjl (unhide HL8); obtain ⟨Y, hY⟩ : ∃ Y, Y = wr.alloc (.cells #[.int .i64 od.what, .int .i64 od.n, .string od.text] 94) := ⟨_, rfl⟩; obtain ⟨go, hgo⟩ : ∃ go, go = wr.heap.size := ⟨_, rfl⟩
                have hYb : Below wr.heap.size wr Y := by rw [hY]; exact (Below.refl _ _).alloc (Nat.le_refl _) _
                have hYo : Y.heap[go]? = some (.cells #[.int .i64 od.what, .int .i64 od.n, .string od.text] 94) := by rw [hY, hgo]; exact heap_alloc_new _ _
                have hYr : Y.heap[g1]? = some (.cells (rcL id pin key pu on ru tr ve sp sq ao n cap kj x) 47) := (hYb.block _ (block_ltR hX)).trans hX; have hYc : Chg (fun q => q = g1) y7 Y := hch.trans (Chg.of_below (fun q => q = g1) hYb) (fun q hq => .inl hq)
                have o0 : Y.cell? ⟨go, 0, none⟩ = some (.int .i64 od.what) := by simp [World.cell?, hYo]
                have o1 : Y.cell? ⟨go, 1, none⟩ = some (.int .i64 od.n) := by simp [World.cell?, hYo]
                have o2 : Y.cell? ⟨go, 2, none⟩ = some (.string od.text) := by simp [World.cell?, hYo]
                have z6 : Y.cell? ⟨g1, 6, none⟩ = some (.int .i64 tr) := by unfold rcL at hYr; simp [World.cell?, hYr]
                have z15 : Y.cell? ⟨g1, 15, none⟩ = some (.int .i64 kj.left) := by unfold rcL at hYr; simp [World.cell?, hYr]
                have f15 : Y.frozen? ⟨g1, 15, none⟩ = false := by unfold rcL at hYr; simp [World.frozen?, hYr]
                have z17 : Y.cell? ⟨g1, 17, none⟩ = some (.bool kj.blocked) := by unfold rcL at hYr; simp [World.cell?, hYr]
                have f17 : Y.frozen? ⟨g1, 17, none⟩ = false := by unfold rcL at hYr; simp [World.frozen?, hYr]
                have z19 : Y.cell? ⟨g1, 19, none⟩ = some (.int .i64 kj.purse) := by unfold rcL at hYr; simp [World.cell?, hYr]
                have f19 : Y.frozen? ⟨g1, 19, none⟩ = false := by unfold rcL at hYr; simp [World.frozen?, hYr]
                have z20 : Y.cell? ⟨g1, 20, none⟩ = some (.int .i64 kj.one) := by unfold rcL at hYr; simp [World.cell?, hYr]
                have f20 : Y.frozen? ⟨g1, 20, none⟩ = false := by unfold rcL at hYr; simp [World.frozen?, hYr]
                have z21 : Y.cell? ⟨g1, 21, none⟩ = some (.int .i64 kj.runs) := by unfold rcL at hYr; simp [World.cell?, hYr]
                have f21 : Y.frozen? ⟨g1, 21, none⟩ = false := by unfold rcL at hYr; simp [World.frozen?, hYr]
                have z22 : Y.cell? ⟨g1, 22, none⟩ = some (.int .i64 kj.version) := by unfold rcL at hYr; simp [World.cell?, hYr]
                have f22 : Y.frozen? ⟨g1, 22, none⟩ = false := by unfold rcL at hYr; simp [World.frozen?, hYr]
                have z23 : Y.cell? ⟨g1, 23, none⟩ = some (.string kj.pin) := by unfold rcL at hYr; simp [World.cell?, hYr]
                have f23 : Y.frozen? ⟨g1, 23, none⟩ = false := by unfold rcL at hYr; simp [World.frozen?, hYr]
                have z24 : Y.cell? ⟨g1, 24, none⟩ = some (.string kj.key) := by unfold rcL at hYr; simp [World.cell?, hYr]
                have f24 : Y.frozen? ⟨g1, 24, none⟩ = false := by unfold rcL at hYr; simp [World.frozen?, hYr]
                have HYR := hide hYr; have HYC := hide hYc; have HY := hide hY; have HGO := hide hgo; have HST := hide hstep; have HJ := hide hjl; clear hYb hYo hYr hYc hY hgo hstep hx hne0 hrb hrc hrbn hblk r0 r1 r2 hX hch hkj hj hjl HRO HRL
                go_upto_region 25 with fail
                rw [← unhide HY, ← unhide HGO]; clear t0 t1 t2 HY
                rcases casesO od.what with hw | hw | hw | hw | hw | hw | hw | hw | hw
                · have hk : orderedK tr kj od = (⟨kj.count, kj.last, kj.spent, kj.run, kj.left, kj.orders, kj.blocked, kj.owing, od.n, kj.one, kj.runs, kj.version, kj.key, kj.pin⟩ : Ks) := by unfold orderedK; rw [if_pos hw]
                  have HX : Hid (∀ W, W = (Y.setCell ⟨g1, 19, none⟩ (.int .i64 od.n)) → W.heap[g1]? = some (.cells (rcL id pin key pu on ru tr ve sp sq ao n cap (orderedK tr kj od) x) 47) ∧ Chg (fun q => q = g1) y7 W) := hide (by
                    rintro W rfl; have h0 := (setRow1 (unhide HYR) 19 (.int .i64 od.n))
                    unfold rcL at h0
                    simp only [List.setIfInBounds_toArray, List.set_cons_succ, List.set_cons_zero] at h0
                    rw [hk]
                    exact ⟨h0, (Chg.trans (unhide HYC) (Chg.setCell _ ⟨g1, 19, none⟩ _) (fun q hq => .inl hq))⟩)
                  rw [hw] at o0; clear hw hk HYR HYC
                  go_wp2
                  go_roundw
                  case rel =>
                    obtain ⟨q1, q2⟩ := unhide HX _ rfl; exact ⟨j + 1, unhide HJ, by rw [hwj], by rw [unhide HST]; exact q1, q2⟩
                  case measure =>
                    rw [intOf_intD, intOf_intD, hwj]; exact meas_stepD (unhide HJ)
                · have hk : orderedK tr kj od = (⟨kj.count, kj.last, kj.spent, kj.run, kj.left, kj.orders, kj.blocked, kj.owing, kj.purse, od.n, kj.runs, kj.version, kj.key, kj.pin⟩ : Ks) := by unfold orderedK; rw [if_neg (by rw [hw]; decide), if_pos hw]
                  have HX : Hid (∀ W, W = (Y.setCell ⟨g1, 20, none⟩ (.int .i64 od.n)) → W.heap[g1]? = some (.cells (rcL id pin key pu on ru tr ve sp sq ao n cap (orderedK tr kj od) x) 47) ∧ Chg (fun q => q = g1) y7 W) := hide (by
                    rintro W rfl; have h0 := (setRow1 (unhide HYR) 20 (.int .i64 od.n))
                    unfold rcL at h0
                    simp only [List.setIfInBounds_toArray, List.set_cons_succ, List.set_cons_zero] at h0
                    rw [hk]
                    exact ⟨h0, (Chg.trans (unhide HYC) (Chg.setCell _ ⟨g1, 20, none⟩ _) (fun q hq => .inl hq))⟩)
                  rw [hw] at o0; clear hw hk HYR HYC
                  go_wp2
                  go_roundw
                  case rel =>
                    obtain ⟨q1, q2⟩ := unhide HX _ rfl; exact ⟨j + 1, unhide HJ, by rw [hwj], by rw [unhide HST]; exact q1, q2⟩
                  case measure =>
                    rw [intOf_intD, intOf_intD, hwj]; exact meas_stepD (unhide HJ)
                · have hk : orderedK tr kj od = (⟨kj.count, kj.last, kj.spent, kj.run, kj.left, kj.orders, kj.blocked, kj.owing, kj.purse, kj.one, od.n, kj.version, kj.key, kj.pin⟩ : Ks) := by unfold orderedK; rw [if_neg (by rw [hw]; decide), if_neg (by rw [hw]; decide), if_pos hw]
                  have HX : Hid (∀ W, W = (Y.setCell ⟨g1, 21, none⟩ (.int .i64 od.n)) → W.heap[g1]? = some (.cells (rcL id pin key pu on ru tr ve sp sq ao n cap (orderedK tr kj od) x) 47) ∧ Chg (fun q => q = g1) y7 W) := hide (by
                    rintro W rfl; have h0 := (setRow1 (unhide HYR) 21 (.int .i64 od.n))
                    unfold rcL at h0
                    simp only [List.setIfInBounds_toArray, List.set_cons_succ, List.set_cons_zero] at h0
                    rw [hk]
                    exact ⟨h0, (Chg.trans (unhide HYC) (Chg.setCell _ ⟨g1, 21, none⟩ _) (fun q hq => .inl hq))⟩)
                  rw [hw] at o0; clear hw hk HYR HYC
                  go_wp2
                  go_roundw
                  case rel =>
                    obtain ⟨q1, q2⟩ := unhide HX _ rfl; exact ⟨j + 1, unhide HJ, by rw [hwj], by rw [unhide HST]; exact q1, q2⟩
                  case measure =>
                    rw [intOf_intD, intOf_intD, hwj]; exact meas_stepD (unhide HJ)
                · have hk : orderedK tr kj od = (⟨kj.count, kj.last, kj.spent, kj.run, tr, kj.orders, kj.blocked, kj.owing, kj.purse, kj.one, kj.runs, kj.version, kj.key, kj.pin⟩ : Ks) := by unfold orderedK; rw [if_neg (by rw [hw]; decide), if_neg (by rw [hw]; decide), if_neg (by rw [hw]; decide), if_pos hw]
                  have HX : Hid (∀ W, W = (Y.setCell ⟨g1, 15, none⟩ (.int .i64 tr)) → W.heap[g1]? = some (.cells (rcL id pin key pu on ru tr ve sp sq ao n cap (orderedK tr kj od) x) 47) ∧ Chg (fun q => q = g1) y7 W) := hide (by
                    rintro W rfl; have h0 := (setRow1 (unhide HYR) 15 (.int .i64 tr))
                    unfold rcL at h0
                    simp only [List.setIfInBounds_toArray, List.set_cons_succ, List.set_cons_zero] at h0
                    rw [hk]
                    exact ⟨h0, (Chg.trans (unhide HYC) (Chg.setCell _ ⟨g1, 15, none⟩ _) (fun q hq => .inl hq))⟩)
                  rw [hw] at o0; clear hw hk HYR HYC
                  go_wp2
                  go_roundw
                  case rel =>
                    obtain ⟨q1, q2⟩ := unhide HX _ rfl; exact ⟨j + 1, unhide HJ, by rw [hwj], by rw [unhide HST]; exact q1, q2⟩
                  case measure =>
                    rw [intOf_intD, intOf_intD, hwj]; exact meas_stepD (unhide HJ)
                · have hk : orderedK tr kj od = (⟨kj.count, kj.last, kj.spent, kj.run, kj.left, kj.orders, true, kj.owing, kj.purse, kj.one, kj.runs, kj.version, kj.key, kj.pin⟩ : Ks) := by unfold orderedK; rw [if_neg (by rw [hw]; decide), if_neg (by rw [hw]; decide), if_neg (by rw [hw]; decide), if_neg (by rw [hw]; decide), if_pos hw]
                  have HX : Hid (∀ W, W = (Y.setCell ⟨g1, 17, none⟩ (.bool true)) → W.heap[g1]? = some (.cells (rcL id pin key pu on ru tr ve sp sq ao n cap (orderedK tr kj od) x) 47) ∧ Chg (fun q => q = g1) y7 W) := hide (by
                    rintro W rfl; have h0 := (setRow1 (unhide HYR) 17 (.bool true))
                    unfold rcL at h0
                    simp only [List.setIfInBounds_toArray, List.set_cons_succ, List.set_cons_zero] at h0
                    rw [hk]
                    exact ⟨h0, (Chg.trans (unhide HYC) (Chg.setCell _ ⟨g1, 17, none⟩ _) (fun q hq => .inl hq))⟩)
                  rw [hw] at o0; clear hw hk HYR HYC
                  go_wp2
                  go_roundw
                  case rel =>
                    obtain ⟨q1, q2⟩ := unhide HX _ rfl; exact ⟨j + 1, unhide HJ, by rw [hwj], by rw [unhide HST]; exact q1, q2⟩
                  case measure =>
                    rw [intOf_intD, intOf_intD, hwj]; exact meas_stepD (unhide HJ)
                · have hk : orderedK tr kj od = (⟨kj.count, kj.last, kj.spent, kj.run, kj.left, kj.orders, false, kj.owing, kj.purse, kj.one, kj.runs, kj.version, kj.key, kj.pin⟩ : Ks) := by unfold orderedK; rw [if_neg (by rw [hw]; decide), if_neg (by rw [hw]; decide), if_neg (by rw [hw]; decide), if_neg (by rw [hw]; decide), if_neg (by rw [hw]; decide), if_pos hw]
                  have HX : Hid (∀ W, W = (Y.setCell ⟨g1, 17, none⟩ (.bool false)) → W.heap[g1]? = some (.cells (rcL id pin key pu on ru tr ve sp sq ao n cap (orderedK tr kj od) x) 47) ∧ Chg (fun q => q = g1) y7 W) := hide (by
                    rintro W rfl; have h0 := (setRow1 (unhide HYR) 17 (.bool false))
                    unfold rcL at h0
                    simp only [List.setIfInBounds_toArray, List.set_cons_succ, List.set_cons_zero] at h0
                    rw [hk]
                    exact ⟨h0, (Chg.trans (unhide HYC) (Chg.setCell _ ⟨g1, 17, none⟩ _) (fun q hq => .inl hq))⟩)
                  rw [hw] at o0; clear hw hk HYR HYC
                  go_wp2
                  go_roundw
                  case rel =>
                    obtain ⟨q1, q2⟩ := unhide HX _ rfl; exact ⟨j + 1, unhide HJ, by rw [hwj], by rw [unhide HST]; exact q1, q2⟩
                  case measure =>
                    rw [intOf_intD, intOf_intD, hwj]; exact meas_stepD (unhide HJ)
                · have hk : orderedK tr kj od = (⟨kj.count, kj.last, kj.spent, kj.run, kj.left, kj.orders, kj.blocked, kj.owing, kj.purse, kj.one, kj.runs, od.n, od.text, kj.pin⟩ : Ks) := by unfold orderedK; rw [if_neg (by rw [hw]; decide), if_neg (by rw [hw]; decide), if_neg (by rw [hw]; decide), if_neg (by rw [hw]; decide), if_neg (by rw [hw]; decide), if_neg (by rw [hw]; decide), if_pos hw]
                  have HX : Hid (∀ W, W = ((Y.setCell ⟨g1, 24, none⟩ (.string od.text)).setCell ⟨g1, 22, none⟩ (.int .i64 od.n)).drew → W.heap[g1]? = some (.cells (rcL id pin key pu on ru tr ve sp sq ao n cap (orderedK tr kj od) x) 47) ∧ Chg (fun q => q = g1) y7 W) := hide (by
                    rintro W rfl; have h0 := (setRow1 (setRow1 (unhide HYR) 24 (.string od.text)) 22 (.int .i64 od.n))
                    unfold rcL at h0
                    simp only [List.setIfInBounds_toArray, List.set_cons_succ, List.set_cons_zero] at h0
                    rw [hk]
                    exact ⟨h0, (Chg.trans (Chg.trans (unhide HYC) (Chg.setCell _ ⟨g1, 24, none⟩ _) (fun q hq => .inl hq)) (Chg.setCell _ ⟨g1, 22, none⟩ _) (fun q hq => .inl hq)).drew⟩)
                  rw [hw] at o0; clear hw hk HYR HYC
                  go_upto_region 39 with fail
                  refine wp_drawnT (by kernel_rfl) 175 (by rfl) (by kernel_rfl) (by kernel_rfl) 5 8 (vals [.pointer (some ⟨go, 2, none⟩), .string od.text, .pointer (some ⟨go, 1, none⟩), .int .i64 od.n, .pointer (some ⟨g1, 24, none⟩), undef, .pointer (some ⟨g1, 11, none⟩), .pointer (some ⟨g1, 22, none⟩)]) (Y.drew.setCell ⟨g1, 24, none⟩ (.string od.text)) ((Y.drew.setCell ⟨g1, 24, none⟩ (.string od.text)).setCell ⟨g1, 22, none⟩ (.int .i64 od.n)) ?_ ?_
                  · refine ⟨?_, ?_, ?_, ?_, ?_, ?_, ?_, ?_, ?_, trivial⟩
                    · intro S ac wx hJ hS hw hoff; have eT15 : ac.eval (.tmp 15) = .pointer (some ⟨go, 0, none⟩) := (hoff 15 (by kernel_rfl)).trans rfl; have hJ2 := hJ.val (i := 0) (by decide) (by decide) hw (.pointer (some ⟨go, 2, none⟩)) rfl; have gT15 := evT eT15
                      rcases hJ.worlds with hwx | hwx | hwx
                      all_goals
                        subst hwx; refine Does.value (.pointer (some ⟨go, 2, none⟩)) _ ?_ hJ2; clear hJ hJ2 hw hoff; go_simp
                    · intro S ac wx hJ hS hw hoff; have eT161 : ac.eval (.tmp 161) = .pointer (some ⟨go, 2, none⟩) := hJ.v 0 (by decide) (by decide) (hw 0 (by kernel_rfl)); have hJ2 := hJ.val (i := 1) (by decide) (by decide) hw (.string od.text) rfl; have gT161 := evT eT161
                      rcases hJ.worlds with hwx | hwx | hwx
                      all_goals
                        subst hwx; refine Does.value (.string od.text) _ ?_ hJ2; clear hJ hJ2 hw hoff; go_simp
                    · intro S ac wx hJ hS hw hoff; have eT15 : ac.eval (.tmp 15) = .pointer (some ⟨go, 0, none⟩) := (hoff 15 (by kernel_rfl)).trans rfl; have hJ2 := hJ.val (i := 2) (by decide) (by decide) hw (.pointer (some ⟨go, 1, none⟩)) rfl; have gT15 := evT eT15
                      rcases hJ.worlds with hwx | hwx | hwx
                      all_goals
                        subst hwx; refine Does.value (.pointer (some ⟨go, 1, none⟩)) _ ?_ hJ2; clear hJ hJ2 hw hoff; go_simp
                    · intro S ac wx hJ hS hw hoff; have eT163 : ac.eval (.tmp 163) = .pointer (some ⟨go, 1, none⟩) := hJ.v 2 (by decide) (by decide) (hw 2 (by kernel_rfl)); have hJ2 := hJ.val (i := 3) (by decide) (by decide) hw (.int .i64 od.n) rfl; have gT163 := evT eT163
                      rcases hJ.worlds with hwx | hwx | hwx
                      all_goals
                        subst hwx; refine Does.value (.int .i64 od.n) _ ?_ hJ2; clear hJ hJ2 hw hoff; go_simp
                    · intro S ac wx hJ hS hw hoff; have eT2 : ac.eval (.tmp 2) = .pointer (some ⟨g1, 0, none⟩) := (hoff 2 (by kernel_rfl)).trans rfl; have hJ2 := hJ.val (i := 4) (by decide) (by decide) hw (.pointer (some ⟨g1, 24, none⟩)) rfl; have gT2 := evT eT2
                      rcases hJ.worlds with hwx | hwx | hwx
                      all_goals
                        subst hwx; refine Does.value (.pointer (some ⟨g1, 24, none⟩)) _ ?_ hJ2; clear hJ hJ2 hw hoff; go_simp
                    · intro S ac wx hJ hS hw hoff; have eT162 : ac.eval (.tmp 162) = .string od.text := hJ.v 1 (by decide) (by decide) (hw 1 (by kernel_rfl)); have eT165 : ac.eval (.tmp 165) = .pointer (some ⟨g1, 24, none⟩) := hJ.v 4 (by decide) (by decide) (hw 4 (by kernel_rfl)); obtain ⟨hwx, hJ2⟩ := hJ.one (by decide) hw hS (by kernel_rfl) undef; subst hwx; have gT162 := evT eT162; have gT165 := evT eT165; refine Does.skip _ ?_ hJ2; clear hJ hJ2 hw hoff; go_simp
                    · intro S ac wx hJ hS hw hoff; have eT2 : ac.eval (.tmp 2) = .pointer (some ⟨g1, 0, none⟩) := (hoff 2 (by kernel_rfl)).trans rfl; have hJ2 := hJ.val (i := 6) (by decide) (by decide) hw (.pointer (some ⟨g1, 11, none⟩)) rfl; have gT2 := evT eT2
                      rcases hJ.worlds with hwx | hwx | hwx
                      all_goals
                        subst hwx; refine Does.value (.pointer (some ⟨g1, 11, none⟩)) _ ?_ hJ2; clear hJ hJ2 hw hoff; go_simp
                    · intro S ac wx hJ hS hw hoff; have eT166 : ac.eval (.tmp 166) = .pointer (some ⟨g1, 11, none⟩) := hJ.v 6 (by decide) (by decide) (hw 6 (by kernel_rfl)); have hJ2 := hJ.val (i := 7) (by decide) (by decide) hw (.pointer (some ⟨g1, 22, none⟩)) rfl; have gT166 := evT eT166
                      rcases hJ.worlds with hwx | hwx | hwx
                      all_goals
                        subst hwx; refine Does.value (.pointer (some ⟨g1, 22, none⟩)) _ ?_ hJ2; clear hJ hJ2 hw hoff; go_simp
                    · intro S ac wx hJ hS hw hoff; have eT164 : ac.eval (.tmp 164) = .int .i64 od.n := hJ.v 3 (by decide) (by decide) (hw 3 (by kernel_rfl)); have eT167 : ac.eval (.tmp 167) = .pointer (some ⟨g1, 22, none⟩) := hJ.v 7 (by decide) (by decide) (hw 7 (by kernel_rfl)); obtain ⟨hwx, hJ2⟩ := hJ.two hw hS (by kernel_rfl) undef; subst hwx; have gT164 := evT eT164; have gT167 := evT eT167; refine Does.skip _ ?_ hJ2; clear hJ hJ2 hw hoff; go_simp
                  · intro ac wx S hdf hsz hoff hall hJ; have hwx := hJ.w; rw [hall 8 (by decide)] at hwx; replace hwx : wx = ((Y.drew.setCell ⟨g1, 24, none⟩ (.string od.text)).setCell ⟨g1, 22, none⟩ (.int .i64 od.n)) := hwx; subst hwx; have hh161 : ac.tmps.getD 161 undef = .pointer (some ⟨go, 2, none⟩) := hJ.v 0 (by decide) (by decide) (hall 0 (by decide)); have hh162 : ac.tmps.getD 162 undef = .string od.text := hJ.v 1 (by decide) (by decide) (hall 1 (by decide)); have hh163 : ac.tmps.getD 163 undef = .pointer (some ⟨go, 1, none⟩) := hJ.v 2 (by decide) (by decide) (hall 2 (by decide)); have hh164 : ac.tmps.getD 164 undef = .int .i64 od.n := hJ.v 3 (by decide) (by decide) (hall 3 (by decide)); have hh165 : ac.tmps.getD 165 undef = .pointer (some ⟨g1, 24, none⟩) := hJ.v 4 (by decide) (by decide) (hall 4 (by decide)); have hh166 : ac.tmps.getD 166 undef = .pointer (some ⟨g1, 11, none⟩) := hJ.v 6 (by decide) (by decide) (hall 6 (by decide)); have hh167 : ac.tmps.getD 167 undef = .pointer (some ⟨g1, 22, none⟩) := hJ.v 7 (by decide) (by decide) (hall 7 (by decide)); have hmix := mix_eq [false, false, false, false, false, false, false, false, false, false, false, false, false, false, false, false, false, false, false, false, false, false, false, false, false, false, false, false, false, false, false, false, false, false, false, false, false, false, false, false, false, false, false, false, false, false, false, false, false, false, false, false, false, false, false, false, false, false, false, false, false, false, false, false, false, false, false, false, false, false, false, false, false, false, false, false, false, false, false, false, false, false, false, false, false, false, false, false, false, false, false, false, false, false, false, false, false, false, false, false, false, false, false, false, false, false, false, false, false, false, false, false, false, false, false, false, false, false, false, false, false, false, false, false, false, false, false, false, false, false, false, false, false, false, false, false, false, false, false, false, false, false, false, false, false, false, false, false, false, false, false, false, false, false, false, false, false, false, false, false, false, true, true, true, true, true, true, true, false, false, false, false, false, false, false] rfl rfl hsz hdf (by kernel_rfl) hoff; clear hoff hall hsz hdf hJ
                    simp only [mixL, Nat.reduceAdd, hh161, hh162, hh163, hh164, hh165, hh166, hh167] at hmix
                    rw [hmix]; clear hmix hh161 hh162 hh163 hh164 hh165 hh166 hh167
                    go_wp2
                    go_roundw
                    case rel =>
                      obtain ⟨q1, q2⟩ := unhide HX _ rfl; exact ⟨j + 1, unhide HJ, by rw [hwj], by rw [unhide HST]; exact q1, q2⟩
                    case measure =>
                      rw [intOf_intD, intOf_intD, hwj]; exact meas_stepD (unhide HJ)
                · have hk : orderedK tr kj od = (⟨kj.count, kj.last, kj.spent, kj.run, kj.left, kj.orders, kj.blocked, kj.owing, kj.purse, kj.one, kj.runs, kj.version, kj.key, od.text⟩ : Ks) := by unfold orderedK; rw [if_neg (by rw [hw]; decide), if_neg (by rw [hw]; decide), if_neg (by rw [hw]; decide), if_neg (by rw [hw]; decide), if_neg (by rw [hw]; decide), if_neg (by rw [hw]; decide), if_neg (by rw [hw]; decide), if_pos hw]
                  have HX : Hid (∀ W, W = (Y.setCell ⟨g1, 23, none⟩ (.string od.text)) → W.heap[g1]? = some (.cells (rcL id pin key pu on ru tr ve sp sq ao n cap (orderedK tr kj od) x) 47) ∧ Chg (fun q => q = g1) y7 W) := hide (by
                    rintro W rfl; have h0 := (setRow1 (unhide HYR) 23 (.string od.text))
                    unfold rcL at h0
                    simp only [List.setIfInBounds_toArray, List.set_cons_succ, List.set_cons_zero] at h0
                    rw [hk]
                    exact ⟨h0, (Chg.trans (unhide HYC) (Chg.setCell _ ⟨g1, 23, none⟩ _) (fun q hq => .inl hq))⟩)
                  rw [hw] at o0; clear hw hk HYR HYC
                  go_wp2
                  go_roundw
                  case rel =>
                    obtain ⟨q1, q2⟩ := unhide HX _ rfl; exact ⟨j + 1, unhide HJ, by rw [hwj], by rw [unhide HST]; exact q1, q2⟩
                  case measure =>
                    rw [intOf_intD, intOf_intD, hwj]; exact meas_stepD (unhide HJ)
                · obtain ⟨q1, q2, q3, q4, q5, q6, q7, q8⟩ := hw
                  have hk : orderedK tr kj od = (⟨kj.count, kj.last, kj.spent, kj.run, kj.left, kj.orders, kj.blocked, kj.owing, kj.purse, kj.one, kj.runs, kj.version, kj.key, kj.pin⟩ : Ks) := by unfold orderedK; rw [if_neg q1, if_neg q2, if_neg q3, if_neg q4, if_neg q5, if_neg q6, if_neg q7, if_neg q8]
                  have HX : Hid (∀ W, W = Y → W.heap[g1]? = some (.cells (rcL id pin key pu on ru tr ve sp sq ao n cap (orderedK tr kj od) x) 47) ∧ Chg (fun q => q = g1) y7 W) := hide (by
                    rintro W rfl; have h0 := (unhide HYR); rw [hk]
                    exact ⟨h0, (unhide HYC)⟩)
                  clear hk HYR HYC
                  go_wp2
                  go_roundw
                  case rel =>
                    obtain ⟨q1, q2⟩ := unhide HX _ rfl; exact ⟨j + 1, unhide HJ, by rw [hwj], by rw [unhide HST]; exact q1, q2⟩
                  case measure =>
                    rw [intOf_intD, intOf_intD, hwj]; exact meas_stepD (unhide HJ)
              · have hjl2 : ¬ (j : Int) < (l.length : Int) := fun e => hjl (Int.ofNat_lt.1 e)
                have hkl : kj = kN := by rw [unhide HKN, hkj, List.take_of_length_le (Nat.not_lt.1 hjl)]
                rw [hkl] at hX; have hZ := (hch.block g2 (Nat.lt_of_lt_of_le (unhide HL2) (unhide HB7).size) (by rw [unhide H2, unhide H1]; exact Nat.succ_ne_self _)).trans (unhide HZ2); have hbl : Below w.heap.size w wr := ((unhide HB2).trans ((unhide HB7).mono (unhide HB2).size)).trans (hch.below (Nat.le_trans (unhide HB2).size (unhide HB7).size) (fun q hq => by rw [hq, unhide H1]; exact Nat.le_refl _)); have HX := hide hX; have HZ := hide hZ; have HBL := hide hbl; clear hX hZ hbl hch hkj hj hjl hkl HRO HRL HZ2
                go_wp2_with (first | (refine wpList_load_row rfl _ _ rfl g1 rfl _ _ _ _ (unhide HX) Tryz.underlying47 rfl infoRC ?_) | (refine wpList_store_row rfl _ _ _ rfl g2 (rcL id pin key pu on ru tr ve sp sq ao n cap kN x) rfl rfl _ _ (unhide HZ) infoRC rfl (by simp [rcL, Value.oneCell']) ?_))
                exact bodyPost_ret (v := .tuple #[.agg (rcL id pin key pu on ru tr ve sp sq ao n cap kN x), .int .i64 0]) (results_ctR rfl _ _ g2 47 (rcL id pin key pu on ru tr ve sp sq ao n cap kN x) (0, 0) _ _ rfl rfl (setRow_heap _ _ _ _ _ _ (unhide HZ)) Tryz.underlying47 rfl infoRC) rfl ⟨rfl, setRow_belowC (unhide HBL) (by rw [unhide H2]; exact Nat.le_succ _)⟩
          · have hz := isEmptyK (b := false) (decide_eq_false h0)
            have hne : readO (t.size + 1) t ≠ none := fun e => by
              have := hR.r; rw [unhide HRD, e] at this
              cases this
            have hn12 : ¬ (t.size < 10 ∨ t.size < 10 + byteAt t 9) := fun e => hne (readO_short h0 e)
            have hE : readE (t.extract 1 9) = 0 := by
              by_cases e : readE (t.extract 1 9) = 0
              · exact e
              · exact absurd (readO_bad h0 hn12 e) hne
            obtain ⟨hb1, hv9⟩ := readE_first (by omega) hE
            have NV : Hid (∀ W, Calls Tryz.prog 35 #[.string (t.extract 1 9)] W fun e w' => e = .returned (.int .i64 (readV (t.extract 1 9))) ∧ w' = W) := hide (fun W => by
              have h := value_any (t.extract 1 9) W (by rw [ByteArray.size_extract]; omega) hv9; rw [← readV_valR (by rw [ByteArray.size_extract]; omega) hv9] at h
              exact h)
            have hb9 := byte_lt t 9; have hb0 := byte_lt t 0
            have hgb : ∀ h, ((t[9]'h).toNat : Int) = (byteAt t 9 : Int) := fun h => get_byte t 9 h
            have hgb0 : ∀ h, ((t[0]'h).toNat : Int) = (byteAt t 0 : Int) := fun h => get_byte t 0 h
            have hgb1 : ∀ h, ((t[1]'h).toNat : Int) = (byteAt t 1 : Int) := fun h => get_byte t 1 h
            obtain ⟨b, hb⟩ : ∃ b, b = byteAt t 9 := ⟨_, rfl⟩; obtain ⟨b1, hb1e⟩ : ∃ b1, b1 = byteAt t 1 := ⟨_, rfl⟩; rw [← hb] at hgb hb9 hn12; rw [← hb1e] at hgb1 hb1; obtain ⟨hw1, hw2, k1, k2, k3, h9, h91, i1, i2, i3, i4, i5, i6, i7, i8, i9, hw3, hw4, ht2s'⟩ := stepFR h0 hn12 hb9 hb1 hb0; have hstep := readO_step h0 (by rw [← hb]; exact hn12) hE; rw [← hb] at hstep; obtain ⟨t2, ht2⟩ : ∃ t2, t2 = t.extract (10 + b) t.size := ⟨_, rfl⟩
            have ht2s : t2.size = t.size - (10 + b) := by rw [ht2]; exact ht2s'
            rw [← ht2] at hstep
            have hord : cellsO (ordAt t) = [.int .i64 (byteAt t 0 : Int), .int .i64 (readV (t.extract 1 9)), .string (t.extract 10 (10 + b))] := by rw [hb]; rfl
            have hacc : acc.length + 1 + t2.size ≤ op.size := stepA hR.l ht2s i6 h9
            have HA : Hid (∀ vn wx, OwnR wx y5.heap.size 94 3 cellsO vn (acc ++ [ordAt t]) → Below y5.heap.size y5 wx → RoR y5 op t2 (acc ++ [ordAt t]) vn wx) := hide (fun vn wx hown hbw => by
              refine ⟨hown, hbw, ?_, ?_, fun x hx => ?_⟩
              · rw [hR.r, hstep]
                cases readO (t2.size + 1) t2 with
                | none => rfl
                | some l => simp
              · simp only [List.length_append, List.length_cons, List.length_nil]
                exact hacc
              · rcases List.mem_append.1 hx with h | h
                · exact hR.k x h
                · rw [List.mem_singleton.1 h]; exact ordAt_ok y5 t (by unfold maxLen; omega))
            have HRB := hide hR.b; have HOW := hide hR.own; have HHL : Hid (y5.heap.size ≤ wr.heap.size) := hide hR.b.size; obtain ⟨hm3, hm4⟩ := stepMR hacc (unhide HOPS); have HM3 : Hid (acc.length + 1 ≤ maxLen) := hide hm3; have HM4 : Hid ((acc.length + 1) * 32 ≤ 140737488355328) := hide hm4; have HT2 := hide ht2s; have HORD := hide hord; have HT := hide ht2; have HBB := hide hb; generalize readV (t.extract 1 9) = rv at *; generalize byteAt t 0 = b0 at *; clear hR h0 hts hb hb1e hn12 hstep ht2s ht2s' hord hm3 hm4 hacc hE ht2 hne hv9 hb1
            go_upto_region 16 with fail
            refine wp_drawnA (by kernel_rfl) 175 (by rfl) (by kernel_rfl) (by kernel_rfl) 11 12 14 (fun va => vals [.slice ra acc.length rc, .string t, .int .u8 (b0 : Int), .int .i64 (b0 : Int), .string t, .string (t.extract 1 9), .int .i64 rv, .string t, .int .i64 (10 + (b : Int)), .string (t.extract 10 (10 + b)), .agg #[.int .i64 (b0 : Int), .int .i64 rv, .string (t.extract 10 (10 + b))], .slice (some ⟨wr.heap.size, 0, none⟩) 1 1, va, va]) (wr.drew.alloc (.cells #[.int .i64 (b0 : Int), .int .i64 rv, .string (t.extract 10 (10 + b))] 94)) (fun va w' => OwnR w' y5.heap.size 94 3 cellsO va (acc ++ [ordAt t]) ∧ Below y5.heap.size y5 w') ?_ ?_
            · refine ⟨?_, ?_, ?_, ?_, ?_, ?_, ?_, ?_, ?_, ?_, ?_, ?_, ?_, ?_, trivial⟩
              · intro S ac wx hJ hS hw hoff
                have hs11 : S 13 = false := by cases e : S 13 with | false => rfl | true => (have := hJ.c 13 0 e (by kernel_rfl); rw [hS] at this; cases this)
                have eT10 : ac.eval (.tmp 10) = .slice ra acc.length rc := (hJ.u 13 hs11).trans rfl; have gT10 := evT eT10; refine Does.value (.slice ra acc.length rc) _ ?_ (hJ.val (i := 0) (by decide) (by decide) (fun h => absurd h (by decide)) hw _ (fun _ _ => rfl)); clear hJ hw hoff; go_simp
              · intro S ac wx hJ hS hw hoff; have eT9 : ac.eval (.tmp 9) = .string t := (hoff 9 (by kernel_rfl)).trans rfl; have gT9 := evT eT9; refine Does.value (.string t) _ ?_ (hJ.val (i := 1) (by decide) (by decide) (fun h => absurd h (by decide)) hw _ (fun _ _ => rfl)); clear hJ hw hoff; go_simp
              · intro S ac wx hJ hS hw hoff; have eT84 : ac.eval (.tmp 84) = .string t := hJ.v 1 (by decide) (hw 1 (by kernel_rfl)) _ (fun _ => rfl); have gT84 := evT eT84; refine Does.value (.int .u8 (b0 : Int)) _ ?_ (hJ.val (i := 2) (by decide) (by decide) (fun h => absurd h (by decide)) hw _ (fun _ _ => rfl)); clear hJ hw hoff; go_simp
              · intro S ac wx hJ hS hw hoff; have eT85 : ac.eval (.tmp 85) = .int .u8 (b0 : Int) := hJ.v 2 (by decide) (hw 2 (by kernel_rfl)) _ (fun _ => rfl); have gT85 := evT eT85; refine Does.value (.int .i64 (b0 : Int)) _ ?_ (hJ.val (i := 3) (by decide) (by decide) (fun h => absurd h (by decide)) hw _ (fun _ _ => rfl)); clear hJ hw hoff; go_simp
              · intro S ac wx hJ hS hw hoff; have eT9 : ac.eval (.tmp 9) = .string t := (hoff 9 (by kernel_rfl)).trans rfl; have gT9 := evT eT9; refine Does.value (.string t) _ ?_ (hJ.val (i := 4) (by decide) (by decide) (fun h => absurd h (by decide)) hw _ (fun _ _ => rfl)); clear hJ hw hoff; go_simp
              · intro S ac wx hJ hS hw hoff; have eT87 : ac.eval (.tmp 87) = .string t := hJ.v 4 (by decide) (hw 4 (by kernel_rfl)) _ (fun _ => rfl); have gT87 := evT eT87; refine Does.value (.string (t.extract 1 9)) _ ?_ (hJ.val (i := 5) (by decide) (by decide) (fun h => absurd h (by decide)) hw _ (fun _ _ => rfl)); clear hJ hw hoff; go_simp
              · intro S ac wx hJ hS hw hoff; have eT88 : ac.eval (.tmp 88) = .string (t.extract 1 9) := hJ.v 5 (by decide) (hw 5 (by kernel_rfl)) _ (fun _ => rfl); refine does_call1 35 (.tmp 88) _ rfl _ eT88 ent_rvalue (unhide NV _) ?_; rintro e wy ⟨rfl, hy⟩; have hy' := hy.symm; subst hy'; exact ⟨_, rfl, hJ.val (i := 6) (by decide) (by decide) (fun h => absurd h (by decide)) hw _ (fun _ _ => rfl)⟩
              · intro S ac wx hJ hS hw hoff; have eT9 : ac.eval (.tmp 9) = .string t := (hoff 9 (by kernel_rfl)).trans rfl; have gT9 := evT eT9; refine Does.value (.string t) _ ?_ (hJ.val (i := 7) (by decide) (by decide) (fun h => absurd h (by decide)) hw _ (fun _ _ => rfl)); clear hJ hw hoff; go_simp
              · intro S ac wx hJ hS hw hoff; have eT11 : ac.eval (.tmp 11) = .int .i64 (10 + (b : Int)) := (hoff 11 (by kernel_rfl)).trans rfl; have gT11 := evT eT11; refine Does.value (.int .i64 (10 + (b : Int))) _ ?_ (hJ.val (i := 8) (by decide) (by decide) (fun h => absurd h (by decide)) hw _ (fun _ _ => rfl)); clear hJ hw hoff; go_simp
              · intro S ac wx hJ hS hw hoff; have eT90 : ac.eval (.tmp 90) = .string t := hJ.v 7 (by decide) (hw 7 (by kernel_rfl)) _ (fun _ => rfl); have eT91 : ac.eval (.tmp 91) = .int .i64 (10 + (b : Int)) := hJ.v 8 (by decide) (hw 8 (by kernel_rfl)) _ (fun _ => rfl); have gT90 := evT eT90; have gT91 := evT eT91; refine Does.value (.string (t.extract 10 (10 + b))) _ ?_ (hJ.val (i := 9) (by decide) (by decide) (fun h => absurd h (by decide)) hw _ (fun _ _ => rfl)); clear hJ hw hoff; go_simp
              · intro S ac wx hJ hS hw hoff; have eT86 : ac.eval (.tmp 86) = .int .i64 (b0 : Int) := hJ.v 3 (by decide) (hw 3 (by kernel_rfl)) _ (fun _ => rfl); have eT89 : ac.eval (.tmp 89) = .int .i64 rv := hJ.v 6 (by decide) (hw 6 (by kernel_rfl)) _ (fun _ => rfl); have eT92 : ac.eval (.tmp 92) = .string (t.extract 10 (10 + b)) := hJ.v 9 (by decide) (hw 9 (by kernel_rfl)) _ (fun _ => rfl); have gT86 := evT eT86; have gT89 := evT eT89; have gT92 := evT eT92; refine Does.value (.agg #[.int .i64 (b0 : Int), .int .i64 rv, .string (t.extract 10 (10 + b))]) _ ?_ (hJ.val (i := 10) (by decide) (by decide) (fun h => absurd h (by decide)) hw _ (fun _ _ => rfl)); clear hJ hw hoff; go_simp
              · intro S ac wx hJ hS hw hoff; have eT93 : ac.eval (.tmp 93) = .agg #[.int .i64 (b0 : Int), .int .i64 rv, .string (t.extract 10 (10 + b))] := hJ.v 10 (by decide) (hw 10 (by kernel_rfl)) _ (fun _ => rfl); obtain ⟨hwx, hJ2⟩ := hJ.make (by decide) hS (by kernel_rfl) hw (.slice (some ⟨wr.heap.size, 0, none⟩) 1 1) (fun _ => rfl); subst hwx; have gT93 := evT eT93; refine Does.value (.slice (some ⟨wr.heap.size, 0, none⟩) 1 1) _ ?_ hJ2; clear hJ hJ2 hw hoff; go_simp
              · intro S ac wx hJ hS hw hoff; have eT83 : ac.eval (.tmp 83) = .slice ra acc.length rc := hJ.v 0 (by decide) (hw 0 (by kernel_rfl)) _ (fun _ => rfl); have eT94 : ac.eval (.tmp 94) = .slice (some ⟨wr.heap.size, 0, none⟩) 1 1 := hJ.v 11 (by decide) (hw 11 (by kernel_rfl)) _ (fun _ => rfl)
                obtain ⟨hwx, hK⟩ := hJ.app hS (by kernel_rfl) hw (fun va vb k hk => by
                  have hd : k = 0 ∨ k = 1 ∨ k = 2 ∨ k = 3 ∨ k = 4 ∨ k = 5 ∨ k = 6 ∨ k = 7 ∨ k = 8 ∨ k = 9 ∨ k = 10 ∨ k = 11 := by omega
                  rcases hd with rfl | rfl | rfl | rfl | rfl | rfl | rfl | rfl | rfl | rfl | rfl | rfl <;> rfl)
                subst hwx; refine does_append _ _ _ (by rfl) y5.heap.size 94 io (.agg #[.int .i64 0, .int .i64 0, .string ⟨#[]⟩]) 3 32 Tryz.underlying27 (unhide HI) (unhide Z0) (unhide Z1) (unhide Z2) rfl (by decide) (.slice ra acc.length rc) acc.length (rowC cellsO acc) eT83 ((unhide HOW).drew.alloc _) ⟨wr.heap.size, 0, none⟩ 1 1 [.int .i64 (b0 : Int), .int .i64 rv, .string (t.extract 10 (10 + b))] eT94 rfl (World.news_of_block (cs := #[.int .i64 (b0 : Int), .int .i64 rv, .string (t.extract 10 (10 + b))]) (t := 94) (fr := (0, 0)) (heap_alloc_new wr.drew _)) (by simp [Value.oneCell']) (by decide) (unhide HM3) (unhide HM4) (Nat.le_trans (unhide HHL) (by rw [World.size_alloc]; exact Nat.le_succ _)) ?_; intro g cap2 w4 hown hgrow hlt; refine hK _ _ rfl ⟨OwnR.snoc _ (by rw [unhide HORD]; exact hown), ?_⟩; exact Below.grown (((unhide HRB).drew).alloc (unhide HHL) _) hgrow (Nat.le_trans (unhide HHL) (by rw [World.size_alloc]; exact Nat.le_succ _)) (fun k hk => ((unhide HOW).lt k hk).1)
              · intro S ac wx hJ hS hw hoff; have g95 : ac.tmps[95]?.getD undef = ac.eval (.tmp 95) := evT rfl; have hJ2 := hJ.val (i := 13) (by decide) (by decide) (fun _ => by kernel_rfl) hw (ac.eval (.tmp 95)) (fun va h => h 12 (by decide) (hw 12 (by kernel_rfl))); generalize ac.eval (.tmp 95) = u95 at *; refine Does.value u95 _ ?_ hJ2; clear hJ hJ2 hw hoff; go_simp
            · intro ac wx S hdf hsz hoff hall hJ; obtain ⟨va, hv, hr⟩ := hJ.ex; obtain ⟨hown, hbw⟩ := hr (hall 12 (by decide)); have hh83 : ac.tmps.getD 83 undef = .slice ra acc.length rc := hv 0 (by decide) (hall 0 (by decide)); have hh84 : ac.tmps.getD 84 undef = .string t := hv 1 (by decide) (hall 1 (by decide)); have hh85 : ac.tmps.getD 85 undef = .int .u8 (b0 : Int) := hv 2 (by decide) (hall 2 (by decide)); have hh86 : ac.tmps.getD 86 undef = .int .i64 (b0 : Int) := hv 3 (by decide) (hall 3 (by decide)); have hh87 : ac.tmps.getD 87 undef = .string t := hv 4 (by decide) (hall 4 (by decide)); have hh88 : ac.tmps.getD 88 undef = .string (t.extract 1 9) := hv 5 (by decide) (hall 5 (by decide)); have hh89 : ac.tmps.getD 89 undef = .int .i64 rv := hv 6 (by decide) (hall 6 (by decide)); have hh90 : ac.tmps.getD 90 undef = .string t := hv 7 (by decide) (hall 7 (by decide)); have hh91 : ac.tmps.getD 91 undef = .int .i64 (10 + (b : Int)) := hv 8 (by decide) (hall 8 (by decide)); have hh92 : ac.tmps.getD 92 undef = .string (t.extract 10 (10 + b)) := hv 9 (by decide) (hall 9 (by decide)); have hh93 : ac.tmps.getD 93 undef = .agg #[.int .i64 (b0 : Int), .int .i64 rv, .string (t.extract 10 (10 + b))] := hv 10 (by decide) (hall 10 (by decide)); have hh94 : ac.tmps.getD 94 undef = .slice (some ⟨wr.heap.size, 0, none⟩) 1 1 := hv 11 (by decide) (hall 11 (by decide)); have hh95 : ac.tmps.getD 95 undef = va := hv 12 (by decide) (hall 12 (by decide)); have hh10 : ac.tmps.getD 10 undef = va := hv 13 (by decide) (hall 13 (by decide)); have hmix := mix_eq [false, false, false, false, false, false, false, false, false, false, true, false, false, false, false, false, false, false, false, false, false, false, false, false, false, false, false, false, false, false, false, false, false, false, false, false, false, false, false, false, false, false, false, false, false, false, false, false, false, false, false, false, false, false, false, false, false, false, false, false, false, false, false, false, false, false, false, false, false, false, false, false, false, false, false, false, false, false, false, false, false, false, false, true, true, true, true, true, true, true, true, true, true, true, true, true, false, false, false, false, false, false, false, false, false, false, false, false, false, false, false, false, false, false, false, false, false, false, false, false, false, false, false, false, false, false, false, false, false, false, false, false, false, false, false, false, false, false, false, false, false, false, false, false, false, false, false, false, false, false, false, false, false, false, false, false, false, false, false, false, false, false, false, false, false, false, false, false, false, false, false, false, false, false, false] rfl rfl hsz hdf (by kernel_rfl) hoff; have HN := hide (unhide HA _ _ hown hbw); clear hoff hall hsz hdf hJ hv hr hown hbw
              simp only [mixL, Nat.reduceAdd, hh83, hh84, hh85, hh86, hh87, hh88, hh89, hh90, hh91, hh92, hh93, hh94, hh95, hh10] at hmix
              rw [hmix]; clear hmix hh83 hh84 hh85 hh86 hh87 hh88 hh89 hh90 hh91 hh92 hh93 hh94 hh95 hh10
              go_wp2
              go_roundw
              case rel => exact ⟨t2, _, by rw [unhide HT], unhide HN⟩
              case measure =>
                have hq := unhide HT
                simp only [szOf]
                rw [← hq]; exact stepL (unhide HT2) h9
end Go.Proofs.YtajkbkljonejnaaGreatDoor
