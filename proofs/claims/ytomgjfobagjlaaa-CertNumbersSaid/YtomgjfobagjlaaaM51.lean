/- Root of the program. -/
import Derived.Test.YtomgjfobagjlaaaM50
import Derived.Test.YtomgjfobagjlaaaProg
import Derived.WalkKit
import Derived.ProofKit
import Derived.OpenShut
import Derived.ShutString
import Derived.ChangeOld
import Derived.Below
import Derived.Deep.Slices
import Derived.Test.YtomgjfobagjlaaaRows
namespace Go.Proofs.Ytomgjfobagjlaaa
open Go.RowKit
set_option linter.unusedVariables false
set_option linter.unusedSimpArgs false
set_option maxRecDepth 100000

/-- what Root answers -/
def rootE (p q x : ByteArray) : Int := if secE p q = 0 then powE (secM p q) x else secE p q
def rootT (p q x : ByteArray) : ByteArray := if secE p q = 0 then powT (secM p q) x (secD p q) else ⟨#[]⟩
theorem open_all {p q : ByteArray} {w w' : World} {e : Ending} (h : OpenPost (valN p.data.toList) (valN q.data.toList) (isFacB p && isFacB q) w e w') :
    (secE p q ≠ 0 ∧ ∃ v, e = .returned (.tuple #[.string ⟨#[]⟩, v, .int .i64 (secE p q)])) ∨ (secE p q = 0 ∧ ∃ g row, e = .returned (.tuple #[.string (secM p q), .slice (some ⟨g, 0, none⟩) row.length row.length, .int .i64 0]) ∧ URow w' g row ∧ okW row ∧ natW row = secD p q ∧ row.length ≤ 100) := by
  cases h with
  | form hf he =>
    have hE : secE p q = 1 := by unfold secE; rw [hf]; rfl
    exact .inl ⟨by rw [hE]; decide, _, by rw [hE]; exact he⟩
  | mod L hf hL hm he =>
    rw [isLen_lenBN hL] at hm
    have hE : secE p q = 1 := by unfold secE secT; rw [hf, hm]; rfl
    exact .inl ⟨by rw [hE]; decide, _, by rw [hE]; exact he⟩
  | third L hf hL hm h3 he =>
    rw [isLen_lenBN hL] at hm
    have hE : secE p q = 5 := by unfold secE secT; rw [hf, hm, if_pos h3]; rfl
    exact .inl ⟨by rw [hE]; decide, _, by rw [hE]; exact he⟩
  | ok L g row hf hL hm h3 he hU ho hg hn hlr =>
    rw [isLen_lenBN hL] at hm he
    have hE : secE p q = 0 := by unfold secE secT; rw [hf, hm, if_neg h3]; rfl
    have hM : secM p q = secT (valN p.data.toList) (valN q.data.toList) := by unfold secM; rw [if_pos hE]
    refine .inr ⟨hE, g, row, by rw [hM]; exact he, hU, ho, ?_, hlr⟩
    rw [hn]
    unfold secD
    rw [Nat.add_comm, Nat.mul_comm (3 - _)]
set_option maxHeartbeats 1000000 in
theorem root_any (p q x : ByteArray) (w : World) :
    Calls Try.prog 10 #[.agg #[.string p, .string q], .string x] w fun e w' => e = .returned (.tuple #[.string (rootT p q x), .int .i64 (rootE p q x)]) ∧ Below w.heap.size w w' := by
  have n0 : ∀ W, Calls Try.prog 13 #[.agg #[.string p, .string q]] W fun e w' => ((secE p q ≠ 0 ∧ ∃ v, e = .returned (.tuple #[.string ⟨#[]⟩, v, .int .i64 (secE p q)])) ∨ (secE p q = 0 ∧ ∃ g row, e = .returned (.tuple #[.string (secM p q), .slice (some ⟨g, 0, none⟩) row.length row.length, .int .i64 0]) ∧ URow w' g row ∧ okW row ∧ natW row = secD p q ∧ row.length ≤ 100)) ∧ Below W.heap.size W w' := fun W => (open_any p q W).mono fun e w' h => ⟨open_all h.1, h.2⟩
  have N0 := hide n0
  have HB := hide (fun o : Obj => (Below.refl w.heap.size w).alloc (Nat.le_refl _) o)
  have HT : Hid (secE p q ≠ 0 → rootT p q x = ⟨#[]⟩ ∧ rootE p q x = secE p q) := hide (fun h => by unfold rootT rootE; rw [if_neg h, if_neg h]; exact ⟨rfl, rfl⟩)
  have HT0 : Hid (secE p q = 0 → rootT p q x = powT (secM p q) x (secD p q) ∧ rootE p q x = powE (secM p q) x) := hide (fun h => by unfold rootT rootE; rw [if_pos h, if_pos h]; exact ⟨rfl, rfl⟩)
  generalize rootT p q x = rt at *
  generalize rootE p q x = re at *
  generalize secE p q = se at *
  generalize secM p q = sm at *
  generalize secD p q = sd at *
  clear n0
  go_enter Try.func10, Try.ntmps10
  go_wp2_with fail
  refine (unhide N0 _).mono ?_
  rintro e y ⟨hc, k⟩
  have HK := hide ((unhide HB _).trans (k.mono (unhide HB _).size))
  clear k
  rcases hc with ⟨hne, v, rfl⟩ | ⟨h0, g, row, rfl, hU, ho, hn, hl⟩
  · have HH := hide (unhide HT hne)
    have t1 : (se != 0) = true := by simpa using hne
    clear hne HT HT0
    go_wp2
    exact bodyPost_ret (v := .tuple #[.string ⟨#[]⟩, .int .i64 se]) (by simp [results, Try.results10, go_sem]) rfl ⟨by rw [(unhide HH).1, (unhide HH).2], unhide HK⟩
  · obtain ⟨h1, h2⟩ := unhide HT0 h0
    have hna : NumAt y g 0 row := by have := hU.numAt 0; rw [List.drop_zero] at this; exact this
    have N1 := hide (cpower_any sm x row g 0 row.length y hna ho (by omega))
    rw [hn, ← h1, ← h2] at N1
    clear h0 h1 h2 hU ho hn hl hna HT HT0 N0
    go_wp2_with fail
    refine (unhide N1).mono ?_
    rintro e y2 ⟨rfl, k2⟩
    have HF := hide (ext_callB (unhide HK) k2)
    clear k2
    go_wp2
    go_ret2
    exact ⟨rfl, unhide HF⟩
end Go.Proofs.Ytomgjfobagjlaaa
namespace Go.Proofs.Ytomgjfobagjlaaa
open Go.ChangeShapes Go.WideShapes Go.ChangeAt Go.RowKit Go.Deep
set_option linter.unusedVariables false

theorem cellsOfInt : Try.prog.cellsOf 3 = 1 := by kernel_rfl
theorem cellsOfBool : Try.prog.cellsOf 4 = 1 := by kernel_rfl
theorem cellsOfString : Try.prog.cellsOf 9 = 1 := by kernel_rfl
theorem cell_ltR {w : World} {a : Addr} {v : Value} (h : w.cell? a = some v) : a.block < w.heap.size := by
  rcases Nat.lt_or_ge a.block w.heap.size with h1 | h1
  · exact h1
  · unfold World.cell? at h
    rw [Array.getElem?_eq_none h1] at h
    cases h
end Go.Proofs.Ytomgjfobagjlaaa
namespace Go.Proofs.Ytomgjfobagjlaaa
open Go.ChangeShapes Go.WideShapes Go.ChangeAt Go.RowKit Go.Deep
set_option linter.unusedVariables false
set_option linter.unusedSimpArgs false
set_option maxRecDepth 100000

structure XSecret where
  p : ByteArray
  q : ByteArray
deriving Inhabited
def valSecret (x : XSecret) : Value := .agg #[.string x.p, .string x.q]
def okSecret (W : World) (x : XSecret) : Prop := x.p.size ≤ maxLen ∧ x.q.size ≤ maxLen
theorem cellsOfSecret : Try.prog.cellsOf 23 = 2 := by kernel_rfl
theorem okSecret.below {W W' : World} {x : XSecret} (h : okSecret W x) (hb : Below W.heap.size W W') : okSecret W' x := by
  obtain ⟨h0, h1⟩ := h
  exact ⟨h0, h1⟩
theorem opencSecret {H : Type} {enc : TypeId × Value → H} {W : World} {k : Nat} {cs : List Value} {y : DataW H × List MemPlace}
    (h : DataW.trod enc Try.prog W 0 (fun _ => true) true k 23 cs = some y) :
    ∃ x : XSecret, cs = [.string x.p, .string x.q] ∧ okSecret W x := by
  obtain ⟨xs, k', _, _, hsz, hlen, hq⟩ := DataW.trod_struct Try.underlying23 h
  rw [cellsOfSecret] at hsz
  match cs, hsz with
  | [c0, c1], _ =>
    match xs, hlen with
    | [y0, y1], _ =>
      have h0 : DataW.trod enc Try.prog W 0 (fun _ => true) true k' 9 [c0] = some y0 := by simpa [cellsOfBool, cellsOfInt, cellsOfString] using hq 0 _ rfl
      obtain ⟨z0, e0, g0, w0⟩ := DataW.trod_string Try.underlying9 h0
      have h1 : DataW.trod enc Try.prog W 0 (fun _ => true) true k' 9 [c1] = some y1 := by simpa [cellsOfBool, cellsOfInt, cellsOfString] using hq 1 _ rfl
      obtain ⟨z1, e1, g1, w1⟩ := DataW.trod_string Try.underlying9 h1
      simp at e0 e1
      subst e0
      subst e1
      exact ⟨⟨z0, z1⟩, rfl, ⟨w0, w1⟩⟩
theorem openSecret {H : Type} {enc : TypeId × Value → H} {W : World} {b0 : Nat} {r : Reach} {v : Value} {d : DataW H} {p : List MemPlace}
    (hv : Value.okWide Try.prog W r b0 23 v) (h : DataW.Trod enc Try.prog W 0 (fun _ => true) true 23 v d p) : ∃ x : XSecret, v = valSecret x ∧ okSecret W x := by
  obtain ⟨cs, rfl, hsz⟩ := okWide_struct Try.underlying23 hv
  obtain ⟨fuel, hf⟩ := h
  obtain ⟨x, hx, ho⟩ := opencSecret hf
  obtain ⟨l⟩ := cs
  simp only [Value.cells] at hx
  subst hx
  exact ⟨x, rfl, ho⟩
theorem lawThree_any (w : World) : Calls Try.prog 9 #[] w fun e w' => e = .returned (.pointer (some ⟨w.heap.size, 0, none⟩)) ∧ IntAt w' w.heap.size 3 ∧ Below w.heap.size w w' := by
  have N := hide (fun W => newInt_any 3 W (by decide))
  go_enter Try.func9, Try.ntmps9
  go_wp2_with fail
  refine (unhide N _).mono ?_
  rintro e y ⟨rfl, h1, h2, h3⟩
  have H1 := hide h1; have H2 := hide h2
  clear h1 h2 h3
  go_wp2
  go_ret
  exact ⟨rfl, unhide H1, unhide H2⟩
theorem secD_lt {p q : ByteArray} (h : secE p q = 0) : secD p q < B32 ^ 200 := by
  have hf : (isFacB p && isFacB q) = true := by
    cases hc : (isFacB p && isFacB q) with
    | true => rfl
    | false => rw [secE_form hc] at h; cases h
  have hp : isFacB p = true := by cases hc : isFacB p with | true => rfl | false => rw [hc] at hf; simp at hf
  have hq : isFacB q = true := by cases hc : isFacB q with | true => rfl | false => rw [hc, Bool.and_false] at hf; simp at hf
  have la := valN_96 p (fac_pos hp).2.1
  have lb := valN_96 q (fac_pos hq).2.1
  unfold secD
  generalize valN p.data.toList = a at *
  generalize valN q.data.toList = b at *
  have h1 := Nat.mul_lt_mul'' (Nat.lt_of_le_of_lt (Nat.sub_le a 1) la) (Nat.lt_of_le_of_lt (Nat.sub_le b 1) lb)
  rw [← Nat.pow_add] at h1
  generalize (a - 1) * (b - 1) = N at *
  have h2 : N * (3 - N % 3) ≤ N * 3 := Nat.mul_le_mul_left _ (by omega)
  have h3 : (N * (3 - N % 3) + 1) / 3 ≤ N + 1 := by omega
  have h4 : B32 ^ (24 + 24) + 1 ≤ B32 ^ 200 := Nat.pow_lt_pow_right B32_two (by decide)
  omega
set_option maxHeartbeats 4000000 in
theorem walkNumbers (p q m x : ByteArray) (w : World) :
    Calls Try.prog 3 #[.agg #[.string p, .string q], .string m, .string x] w fun e w' => e = .returned (.bool true) ∧ Below w.heap.size w w' := by
  obtain ⟨W1, hW1⟩ : ∃ W1, W1 = w.alloc (.cells #[.string p, .string q] 23) := ⟨_, rfl⟩
  have hB1 : Below w.heap.size w W1 := by rw [hW1]; exact (Below.refl _ _).alloc (Nat.le_refl _) _
  have hX1 : W1.heap[w.heap.size]? = some (.cells #[.string p, .string q] 23 (0, 0)) := by rw [hW1]; exact heap_alloc_new _ _
  have hl1 : w.heap.size < W1.heap.size := by rw [hW1]; simp
  have hc : ∀ W, Below W1.heap.size W1 W → W.cell? ⟨w.heap.size, 0, none⟩ = some (.string p) ∧ W.cell? ⟨w.heap.size, 1, none⟩ = some (.string q) := fun W hb => by
    have hx := (hb.block _ hl1).trans hX1
    exact ⟨cell_of_row _ _ 0 _ _ _ hx, cell_of_row _ _ 1 _ _ _ hx⟩
  have N1 := hide (fun W => modulus_any p q W)
  have N2 := hide (fun W => rown_any p q W)
  have N3 := hide (fun W => raise_any m x W)
  have N4 := hide (fun W => lawThree_any W)
  have N5 := hide (fun (W : World) (pd : Nat) (h : IntAt W pd 3) => rpower_any m x pd 3 W h (small_lt 3 (by decide) 200 (by decide)))
  have N6 := hide (fun W => root_any p q x W)
  have HLT := hide (fun h => secD_lt (p := p) (q := q) h)
  have HR : Hid (secE p q ≠ 0 → rootT p q x = ⟨#[]⟩ ∧ rootE p q x = secE p q) := hide (fun h => by unfold rootT rootE; rw [if_neg h, if_neg h]; exact ⟨rfl, rfl⟩)
  have HR0 : Hid (secE p q = 0 → rootT p q x = powT (secM p q) x (secD p q) ∧ rootE p q x = powE (secM p q) x) := hide (fun h => by unfold rootT rootE; rw [if_pos h, if_pos h]; exact ⟨rfl, rfl⟩)
  have HM0 : Hid (secE p q ≠ 0 → secM p q = ⟨#[]⟩) := hide (fun h => by unfold secM; rw [if_neg h])
  have HC := hide hc; have HB1 := hide hB1; have HW1 := hide hW1
  obtain ⟨c0, c1⟩ := hc W1 (Below.refl _ _)
  clear hc hB1 hX1 hW1 hl1
  generalize hpt : powT m x 3 = pt at *
  generalize hpe : powE m x = pe at *
  have t1 : (pt.toList != pt.toList) = false := by simp
  have t2 : (pe != pe) = false := by simp
  clear hpt hpe
  go_enter Try.func3, Try.ntmps3
  go_upto_region 1 with fail
  rw [← unhide HW1]
  go_wp2_with fail
  refine (unhide N1 _).mono ?_
  rintro e y1 ⟨rfl, k1⟩
  clear c0 c1
  obtain ⟨c0, c1⟩ := unhide HC _ k1
  have K1 := hide k1
  clear k1
  go_wp2_with fail
  refine (unhide N2 _).mono ?_
  rintro e y2 ⟨hO, k2⟩
  clear c0 c1
  have kk2 := ext_callB (unhide K1) k2
  obtain ⟨c0, c1⟩ := unhide HC _ kk2
  have K2 := hide kk2
  clear k2 kk2 K1
  cases hO with
  | bad hne he =>
    subst he
    have hM := unhide HM0 hne
    obtain ⟨hr1, hr2⟩ := unhide HR hne
    rw [hM] at N1
    rw [hM]
    rw [hr1, hr2] at N6
    generalize secE p q = se at *
    have t3 : (se != se) = false := by simp
    have t4 : (se != 0) = true := by simpa using hne
    have t5 : (se == se) = true := by simp
    clear hne hM hr1 hr2 HR HR0 HM0 HLT N1 N2
    go_wp2_with fail
    refine (unhide N3 _).mono ?_
    rintro e y3 ⟨rfl, k3⟩
    clear c0 c1
    have kk3 := ext_callB (unhide K2) k3
    obtain ⟨c0, c1⟩ := unhide HC _ kk3
    have K3 := hide kk3
    clear k3 kk3 K2
    go_wp2_with fail
    refine (unhide N4 _).mono ?_
    rintro e y4 ⟨rfl, hI4, k4⟩
    clear c0 c1
    have kk4 := ext_callB (unhide K3) k4
    have K4 := hide kk4
    have N5' := hide (unhide N5 y4 _ hI4)
    clear k4 kk4 K3 hI4
    go_wp2_with fail
    refine (unhide N5').mono ?_
    rintro e y5 ⟨rfl, k5⟩
    have kk5 := ext_callB (unhide K4) k5
    obtain ⟨c0, c1⟩ := unhide HC _ kk5
    have K5 := hide kk5
    clear k5 kk5 K4 N5'
    go_wp2_with fail
    refine (unhide N6 _).mono ?_
    rintro e y6 ⟨rfl, k6⟩
    have kk6 := ext_callB (unhide K5) k6
    have K6 := hide ((unhide HB1).trans (kk6.mono (unhide HB1).size))
    clear k6 kk6 K5 c0 c1
    go_wp2
    exact bodyPost_ret (v := .bool true) (by simp [results, Try.results3, go_sem]) rfl ⟨rfl, unhide K6⟩
  | good g h0 he hI =>
    subst he
    obtain ⟨hr1, hr2⟩ := unhide HR0 h0
    have hD := unhide HLT h0
    rw [h0] at N1
    rw [h0]
    rw [hr1, hr2] at N6
    have N7 := hide (fun (W : World) (h : IntAt W g (secD p q)) => rpower_any (secM p q) x g (secD p q) W h hD)
    have HI := hide hI
    generalize powT (secM p q) x (secD p q) = qt at *
    generalize powE (secM p q) x = qe at *
    generalize secM p q = sm at *
    generalize secD p q = sd at *
    have t3 : (sm.toList != sm.toList) = false := by simp
    have t5 : (qt.toList == qt.toList) = true := by simp
    have t6 : (qe == qe) = true := by simp
    clear h0 hr1 hr2 hD HR HR0 HM0 HLT N1 N2 hI
    go_wp2_with fail
    refine (unhide N3 _).mono ?_
    rintro e y3 ⟨rfl, k3⟩
    clear c0 c1
    have HI3 := hide ((unhide HI).below k3)
    have K3 := hide (ext_callB (unhide K2) k3)
    clear k3 K2 HI
    go_wp2_with fail
    refine (unhide N4 _).mono ?_
    rintro e y4 ⟨rfl, hI4, k4⟩
    have HI4 := hide ((unhide HI3).below k4)
    have K4 := hide (ext_callB (unhide K3) k4)
    have N5' := hide (unhide N5 y4 _ hI4)
    clear k4 K3 hI4 HI3
    go_wp2_with fail
    refine (unhide N5').mono ?_
    rintro e y5 ⟨rfl, k5⟩
    have HI5 := hide ((unhide HI4).below k5)
    have kk5 := ext_callB (unhide K4) k5
    obtain ⟨c0, c1⟩ := unhide HC _ kk5
    have K5 := hide kk5
    clear k5 kk5 K4 N5' HI4
    go_wp2_with fail
    refine (unhide N6 _).mono ?_
    rintro e y6 ⟨rfl, k6⟩
    have N7' := hide (unhide N7 y6 ((unhide HI5).below k6))
    have K6 := hide (ext_callB (unhide K5) k6)
    clear k6 K5 c0 c1 HI5
    go_wp2_with fail
    refine (unhide N7').mono ?_
    rintro e y7 ⟨rfl, k7⟩
    have kk7 := ext_callB (unhide K6) k7
    have K7 := hide ((unhide HB1).trans (kk7.mono (unhide HB1).size))
    clear k7 kk7 K6 N7'
    go_wp2
    exact bodyPost_ret (v := .bool true) (by simp [results, Try.results3, go_sem]) rfl ⟨rfl, unhide K7⟩
end Go.Proofs.Ytomgjfobagjlaaa
