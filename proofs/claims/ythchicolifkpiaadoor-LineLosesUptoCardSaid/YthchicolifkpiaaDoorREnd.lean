/- The reference's end: Left. -/
import Derived.Test.YthchicolifkpiaaDoorRPieces
namespace Go.Proofs.YthchicolifkpiaaDoor
open Go.RowKit
set_option linter.unusedVariables false

/-- the document's end, as a value -/
abbrev rend (go : Option Addr) (gn gc : Nat) (A ago : Int) (ko : Option Addr) (kn kc : Nat) (o : Bool) (told : Int) : Value :=
  .agg #[.slice go gn gc, .int .i64 A, .int .i64 ago, .slice ko kn kc, .bool o, .int .i64 told]
theorem SRow.below {w w' : World} {ao : Option Addr} {l : List ByteArray} (h : SRow w ao l) (hb : Below w.heap.size w w') : SRow w' ao l := by
  rcases h with h | ⟨b, off, e, hlt, hc⟩
  · exact .inl h
  · exact .inr ⟨b, off, e, Nat.lt_of_lt_of_le hlt hb.size, fun i s hi => (hb.cell (p := ⟨b, off + i, none⟩) hlt).trans (hc i s hi)⟩
theorem belowDrewN {base : Nat} {w w' : World} (h : Below base w w') : ∀ n, Below base w (w'.drewN n)
  | 0 => h
  | n + 1 => (belowDrewN h n).drew
theorem cellsN_get (l : List Nat) (i n : Nat) (h : l[i]? = some n) : (cellsN l)[i]? = some (.int .i64 (n : Int)) := by simp [cellsN, h]

set_option maxRecDepth 100000 in
set_option maxHeartbeats 2000000 in
theorem rleft_any (G T : List ByteArray) (A k : Nat) (go : Option Addr) (gc : Nat) (ago : Int) (ko : Option Addr) (kn kc : Nat) (o : Bool) (told : Int) (w : World) (hr : SRow w go G) (hs : ∀ s ∈ G, s.size ≤ 4096) (hl : (G.length : Int) ≤ 1048576) (hrel : OutRel G A T k) :
    Calls Tryd.prog 19 #[rend go G.length gc A ago ko kn kc o told] w fun e w' => e = .returned (.int .i64 (T.length : Int)) ∧ Below w.heap.size w w' := by
  have b0 := fun o => (Below.refl w.heap.size w).alloc (Nat.le_refl _) o
  have n1 := fun o => pieces_any G go gc (w.alloc o) (hr.below (b0 o)) hs hl
  have hle := out_le hrel
  have hpl := piecesL_length_le G hs
  have hol := ofFrom_length G 0
  have HR := hide hrel
  have N1 := hide n1
  have hp : ((piecesL G).length : Int) ≤ 134217728 := by omega
  have hA : (A : Int) ≤ 134217728 := by omega
  clear n1 hr hs hpl hrel
  go_enter Tryd.func19, Tryd.ntmps19
  go_wp2_with fail
  refine (unhide N1 _).mono ?_
  rintro e w1 ⟨v, u, rfl, hv, hu, hb1⟩
  have hw1 : Below w.heap.size w w1 := (b0 _).trans (hb1.mono (by simp))
  have c0 : w1.cell? ⟨w.heap.size, 0, none⟩ = some (.slice go G.length gc) := below_keep hb1 (a := ⟨w.heap.size, 0, none⟩) (v := .slice go G.length gc) (by simp)
  have c1 : w1.cell? ⟨w.heap.size, 1, none⟩ = some (.int .i64 A) := below_keep hb1 (a := ⟨w.heap.size, 1, none⟩) (v := .int .i64 A) (by simp)
  obtain ⟨vo, vc, rfl⟩ : ∃ vo vc, v = .slice vo (piecesL G).length vc := by
    rcases hv.2 with ⟨h1, h2⟩ | ⟨g, cap, cur, h1, _⟩
    · exact ⟨none, 0, by rw [h1, h2]⟩
    · exact ⟨_, cap, h1⟩
  cases T with
  | nil =>
    have hq := out_none (unhide HR)
    have t1 : ((A : Int) == ((piecesL G).length : Int)) = true := by rw [beq_iff_eq]; omega
    generalize (piecesL G).length = pn at *
    clear hv hu hb1 hq hle hol b0
    go_wp2
    go_ret
    exact ⟨rfl, hw1⟩
  | cons s r =>
    obtain ⟨h1, _, h3⟩ := out_some (unhide HR)
    have t1 : ((A : Int) == ((piecesL G).length : Int)) = false := by rw [beq_eq_false_iff_ne]; omega
    have hres : ((G.length - (r.length + 1) : Nat) : Int) ≤ (G.length : Int) := by omega
    have hgl : r.length + 1 ≤ G.length := by
      obtain ⟨D, hG, _⟩ := unhide HR
      rw [hG]; simp
    rcases hu.2 with ⟨_, h0⟩ | ⟨g, cap, cur, rfl, _⟩
    · omega
    have hc := hu.cells (g := g) rfl A _ (cellsN_get _ _ _ h3)
    have ea : (⟨g, 0, none⟩ : Addr).add A = ⟨g, A, none⟩ := by unfold Addr.add; split <;> simp_all
    rw [ea] at hc
    have hAn : A < (ofFrom 0 G).length := by omega
    have HS := hide (show (G.length : Int) - ((G.length - (r.length + 1) : Nat) : Int) = ((s :: r).length : Int) by simp; omega)
    generalize (ofFrom 0 G).length = on at *
    generalize (piecesL G).length = pn at *
    generalize (G.length - (r.length + 1)) = d at *
    clear hv hu hb1 hle hol b0 h3 hgl ea
    go_wp2
    go_quiet (fail)
    go_wp2
    go_ret
    exact ⟨congrArg (fun x => Ending.returned (Value.int IntKind.i64 x)) (unhide HS), belowDrewN hw1 _⟩
end Go.Proofs.YthchicolifkpiaaDoor
