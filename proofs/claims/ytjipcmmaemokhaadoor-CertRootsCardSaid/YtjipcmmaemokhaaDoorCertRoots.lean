/- For every number and every text: of two unlike primes (the twelve of the statements, proved to be primes) Raise is the way back from Root, and Root from Raise. The listed table starts as the program's text lays it (tied). -/
import Derived.Test.YtjipcmmaemokhaaDoorRows
import Derived.Test.YtjipcmmaemokhaaDoorCards
import Derived.Test.YtjipcmmaemokhaaDoorTie
import Derived.Test.YtjipcmmaemokhaaDoorM47
import Derived.WalkKit
import Derived.ProofKit
import Derived.OpenShut
import Derived.ShutString
import Derived.ChangeOld
import Derived.Below
import Derived.LaidMore
import Derived.Stop.Joined
import Derived.SevenTiedAt
import Derived.WideWitness
import Derived.Deep.DeepHandedRow
import Derived.Lib.LaidU8
import Derived.Lib.SmallJoins
namespace Go.Proofs.YtjipcmmaemokhaaDoor
open Go.ChangeShapes Go.WideShapes Go.ChangeAt Go.RowKit Go.Joins
open Go.ChangeMaps (open_string shut_string)
set_option linter.unusedVariables false
set_option maxRecDepth 100000

def primeD (i : Nat) : DataW Unit := .agg [.lit (.string (hexT (2 * i)).data.toList), .lit (.string (hexT (2 * i + 1)).data.toList)]
theorem primes_same : (Rows.laid_pursehouse_pursehouselaw_primes : DataW Unit) = .agg ((List.range 6).map primeD) := by kernel_rfl
theorem cellsStrR : Tryd.prog.cellsOf 9 = 1 := by kernel_rfl
theorem cellsTwoR : Tryd.prog.cellsOf 31 = 2 := by kernel_rfl
theorem str_cell {w : World} {fuel : Nat} {cs : List Value} {l : List UInt8} {p : List MemPlace}
    (h : DataW.trod (fun _ => ()) Tryd.prog w 0 (fun _ => true) false fuel 9 cs = some (.lit (.string l), p)) : cs = [.string ⟨l.toArray⟩] := by
  obtain ⟨s, e, g, _⟩ := DataW.trod_string Tryd.underlying9 h
  subst e
  simp at g
  rw [g.1]
theorem primes_of_reads {w : World} (h : Lib.VarReads Tryd.prog w "pursehouse/pursehouselaw.primes" (.agg ((List.range 6).map primeD))) : PairTab w := by
  obtain ⟨g, t, cs, fuel, p, hg, hty, hvar, hd⟩ := h
  obtain rfl := Option.some.inj ((show Tryd.prog.globalNamed "pursehouse/pursehouselaw.primes" = some 0 by kernel_rfl).symm.trans hg)
  obtain rfl := Option.some.inj ((show (Tryd.prog.globals[0]?).map (·.type) = some 32 by kernel_rfl).symm.trans hty)
  have key : ∀ i, i < 6 → ∀ k, k < 2 → w.cell? ⟨0, 2 * i + k, none⟩ = some (.string (hexT (2 * i + k))) := by
    intro i hi k hk
    obtain ⟨fuel', d, q, hdi, he⟩ := Lib.array_elem Tryd.underlying32 hd i hi
    rw [List.getElem?_map, List.getElem?_range (by omega), Option.map_some, Option.some.injEq] at hdi
    subst hdi
    rw [cellsTwoR] at he
    obtain ⟨fuel2, d2, q2, hd2, he2⟩ := Lib.array_elem Tryd.underlying31 he k hk
    rw [cellsStrR] at he2
    have hc : k = 0 ∨ k = 1 := by omega
    rcases hc with rfl | rfl
    · obtain rfl : d2 = .lit (.string (hexT (2 * i)).data.toList) := by simpa using hd2.symm
      have e0 := congrArg (·[0]?) (str_cell he2)
      simp only [List.getElem?_take, List.getElem?_drop] at e0
      rw [World.var?_cell hg hvar (2 * i + 0), ← Array.getElem?_toList]
      simpa [Nat.mul_comm] using e0
    · obtain rfl : d2 = .lit (.string (hexT (2 * i + 1)).data.toList) := by simpa using hd2.symm
      have e0 := congrArg (·[0]?) (str_cell he2)
      simp only [List.getElem?_take, List.getElem?_drop] at e0
      rw [World.var?_cell hg hvar (2 * i + 1), ← Array.getElem?_toList]
      simpa [Nat.mul_comm] using e0
  intro j hj
  have := key (j / 2) (by omega) (j % 2) (by omega)
  rw [show 2 * (j / 2) + j % 2 = j by omega] at this
  exact this
theorem envOfCertRoots {W : World} (h : laidMetH Tryd.prog Rows.certRootsRow.laid W) : PairTab W := by
  rw [MakeChecks.laidMetH_plain _ _ _ (by kernel_rfl)] at h
  have h0 := Lib.laidMet.reads (n := "pursehouse/pursehouselaw.primes") (d := Rows.laid_pursehouse_pursehouselaw_primes) h (by simp [Rows.certRootsRow])
  rw [primes_same] at h0
  exact primes_of_reads h0
/-- a world for the witness: the table holds what its initialiser lays -/
noncomputable def laidWorldOf (os : Os) : World :=
  let w0 := World.holding Tryd.prog os ⟨#[], #[], []⟩
  let put (h : Array Obj) (g : Nat) (cs : Array Value) : Array Obj := h.modify g fun
    | .cells _ t frozen => .cells cs t frozen
    | o => o
  { w0 with heap := put w0.heap 0 ((List.range 12).map fun j => Value.string (hexT j)).toArray }
theorem walkCertRoots (n : Int) (x : ByteArray) (w : World) (hn : -9223372036854775808 ≤ n ∧ n ≤ 9223372036854775807) (hx : x.size ≤ maxLen) (ht : PairTab w) :
    Calls Tryd.prog 3 #[.int .i64 n, .string x] w fun e w' => e = .returned (.bool true) ∧ Below w.heap.size w w' := walkRoots n x w hn ht
theorem ownCertRoots : ownKnob Tryd.prog.godebug = none := by kernel_rfl
theorem laidOutCertRoots : laidOutB Tryd.prog = true := by kernel_rfl
set_option maxRecDepth 100000 in
theorem contractCertRoots (H : Type) (enc : TypeId × Value → H) (W : World) (base : Nat) (args : Array Value) (ds gs : List (DataW H)) (before : List MemPlace)
    (hval0 : ∀ (j : Nat) t v, Tryd.f3.params[j]? = some t → args[j]? = some v → Value.okWide Tryd.prog W .any base t v)
    (hW : DataW.Whole enc Tryd.prog Tryd.f3.params.toList Rows.certRootsSpec.vars false W args.toList ds gs before) (hL : laidMetH Tryd.prog Rows.certRootsRow.laid W) :
    Calls Tryd.prog 3 args W fun e W' => ∃ v, e = .returned v ∧ Rows.certRootsSpec.post enc Tryd.prog Tryd.f3 false true false false W args v W' := by
  have hval : ∀ (j : Nat) t v, Tryd.f3.params[j]? = some t → args[j]? = some v → Value.okWide Tryd.prog W .any base t v := hval0
  have hW' := hW
  obtain ⟨p, q, hA0, hV, rfl, hfz, hnd⟩ := hW
  have hA : DataW.TrodAll enc Tryd.prog W 0 (fun _ => true) true Tryd.f3.params.toList args.toList ds p := hA0
  rw [Tryd.params3] at hA hval
  obtain ⟨v0, vs0, d0, ds0, p0, q0, hargs, rfl, rfl, h0, r0⟩ := trodAll_cons hA
  obtain ⟨v1, vs1, d1, ds1, p1, q1, rfl, rfl, rfl, h1, r1⟩ := trodAll_cons r0
  obtain ⟨rfl, rfl, rfl⟩ := trodAll_nil r1
  obtain rfl : args = #[v0, v1] := by cases args; simp_all
  obtain ⟨rfl, rfl⟩ := trodVars_none hV
  clear hA0 hval0
  simp only [List.append_nil] at hW'
  have hlt0 : ∀ x ∈ p0, x.block < W.heap.size := fun x hx => by simpa using hW'.lt x (by simp [hx])
  have hargs0 : ∀ (W' : World), Below W.heap.size W W' → DataW.Trod enc Tryd.prog W' 0 (fun b => decide (b < W.heap.size)) true 3 v0 d0 p0 :=
    fun W' hn => Below.trod laidOutCertRoots (by kernel_rfl) (of_decide_eq_true (by kernel_rfl)) h0 hn hlt0
  have hlt1 : ∀ x ∈ p1, x.block < W.heap.size := fun x hx => by simpa using hW'.lt x (by simp [hx])
  have hargs1 : ∀ (W' : World), Below W.heap.size W W' → DataW.Trod enc Tryd.prog W' 0 (fun b => decide (b < W.heap.size)) true 9 v1 d1 p1 :=
    fun W' hn => Below.trod laidOutCertRoots (by kernel_rfl) (of_decide_eq_true (by kernel_rfl)) h1 hn hlt1
  obtain ⟨a0, rfl, hd0, _, w0⟩ := open_int Tryd.underlying3 (hval 0 3 v0 rfl rfl) h0
  obtain ⟨a1, rfl, hd1, _, w1⟩ := open_string Tryd.underlying9 (hval 1 9 v1 rfl rfl) h1
  refine (walkCertRoots a0 a1 W (bounds_i64 w0) w1 (envOfCertRoots hL)).mono fun e W' ⟨he, bel⟩ => ?_
  subst he
  exact ⟨_, rfl, _, _, _, [], _, [], hW', trodAll_mk1 (shut_bool Tryd.underlying4 _), (trodAll_cons_mk (hargs0 _ bel) (trodAll_cons_mk (hargs1 _ bel) trodAll_mk0)), rfl, bel.frame _, fun h => by cases h⟩

theorem metCertRoots (os : Os) (args : Array Value) : laidMetH Tryd.prog Rows.certRootsRow.laid ((laidWorldOf os).forCall (fun _ _ => 0) ⟨#[], args, []⟩).memory :=
  laidMetH_of_parts3 (fuel := 8) (laidMet_of_run' 8 (by kernel_rfl) (by kernel_rfl)) (by kernel_rfl) (by kernel_rfl)
set_option maxRecDepth 100000 in
theorem liftedCertRoots (os : Os) (started : os.Started) (H : Type) (enc : TypeId × Value → H) :
    ReturnsInHanded {} Tryd.checked os 3 .any (fun w args => (Rows.certRootsSpec.pre enc Tryd.prog Tryd.f3 [] false w args ∧ laidMetH Tryd.prog Rows.certRootsRow.laid w) ∧ sizedMet enc Tryd.prog Tryd.f3 (OpenSpec.ofChange Rows.certRootsSpec) false w args)
      (Rows.certRootsSpec.post enc Tryd.prog Tryd.f3 false true false false) := by
  refine returnsInHanded_of_change_and (C := Tryd.checked) (X := fun w _ => laidMetH Tryd.prog Rows.certRootsRow.laid w) (fun _ _ _ hh h => h.of_heap hh) ownCertRoots started (by kernel_rfl) Tryd.func3
    (ChangeSpec.witness_shaped (enc := enc) (C := Tryd.checked) (os := os) (X := fun w _ => laidMetH Tryd.prog Rows.certRootsRow.laid w) false (laidWorldOf os) #[.int .i64 0, .string ⟨#[]⟩] 8 rfl (World.shaped_of_RefB (by kernel_rfl) (by kernel_rfl)) (by kernel_rfl) (by kernel_rfl) (by kernel_rfl) (metCertRoots os _)) ?_
  intro W base args ds gs before hval hW _ _ hL _
  exact contractCertRoots H enc W base args ds gs before hval hW hL
theorem overCertRoots : Rows.CertRootsSaid :=
  OpenClaim.holds_of_wide 3 Tryd.f3 rfl rfl rfl rfl rfl rfl rfl ⟨rfl, rfl, rfl, rfl, rfl⟩ rfl rfl rfl rfl rfl (by kernel_rfl) Tryd.func3 (by kernel_rfl)
    (of_decide_eq_true (by kernel_rfl)) (by unfold Func.isWrapper; first | (rw [if_pos (by decide +kernel)]; kernel_rfl) | (rw [if_neg (by decide +kernel)]; exact ⟨rfl, rfl⟩))
    (fun os started H enc _ => liftedCertRoots os started H enc)

/-- THE STATEMENT: the tied card -/
theorem certRoots_holds : Rows.CertRootsCardSaid :=
  Claim7.holds_tied_plain_at .later [] _ _ _ _ overCertRoots (fun _ h => by cases h) (by kernel_rfl) (fun _ h => by cases h) certRoots_row_tie rfl ⟨rfl, rfl⟩ (by kernel_rfl) rfl
    (fun f fn hf hfn => by
      obtain rfl : f = 3 := Option.some.inj ((show Tryd.prog.funcNamed Rows.certRootsRow.func = some 3 by kernel_rfl).symm.trans hf) |>.symm
      obtain rfl : fn = Tryd.f3 := (Option.some.inj (Tryd.func3.symm.trans hfn)).symm
      exact ⟨by kernel_rfl, fun j t ht => by
        rw [Tryd.params3] at ht
        have hm : t ∈ [3, 9] := by simpa using Array.mem_of_getElem? ht
        have hall : ([3, 9].all fun u => !Tryd.prog.wantsStandIn u) = true := by kernel_rfl
        exact (show Tryd.prog.wantsStandIn t = false by simpa using List.all_eq_true.1 hall t hm)⟩)
    (by kernel_rfl)
#print axioms certRoots_holds
end Go.Proofs.YtjipcmmaemokhaaDoor
