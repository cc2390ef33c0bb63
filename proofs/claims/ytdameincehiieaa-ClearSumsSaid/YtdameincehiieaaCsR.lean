/- ClearSums: the two sums, pair by pair. -/
import Derived.Test.YtdameincehiieaaCsQ
namespace Go.Proofs.Ytdameincehiieaa
open Go.RowKit Go.WideMaps Go.Maps
set_option linter.unusedVariables false
set_option linter.unusedSimpArgs false
set_option maxRecDepth 100000

theorem CsT.fin {w wq : World} {F : Nat → Prop} {b : Nat} {S : Clr} {B : Bks} {H : Hld} {mw r : Nat} {vis : List (Int × Int)} (h : CsT w wq F b S B H mw r vis) (hV : CsV S H) (hall : ∀ x y, (H.G x y).isSome = true → (x, y) ∈ vis) (how : S.ow = fun _ _ => 0) :
    ∃ O W : Int → Int → Int, (∀ q x y, InR x → InR y → (Instr.lookup 58 (.map (some B.o)) (.agg #[.int .i64 x, .int .i64 y]) false).run Try.prog (wq.drewN q) = .ok (.int .i64 (O x y)) (wq.drewN q)) ∧
      (∀ q x y, InR x → InR y → (Instr.lookup 58 (.map (some mw)) (.agg #[.int .i64 x, .int .i64 y]) false).run Try.prog (wq.drewN q) = .ok (.int .i64 (W x y)) (wq.drewN q)) ∧
      (∀ x y, O x y - O y x = W x y - W y x) ∧ (∀ x y, 0 ≤ O x y ∧ O x y ≤ 500000000000000000) ∧ ∀ x y, -500000000000000000 ≤ W x y ∧ W x y ≤ 500000000000000000 := by
  obtain ⟨ko, hO⟩ := h.hW.mo
  have hw := h.all hV hall
  obtain ⟨g, ks, q1, q2, _⟩ := h.hm
  obtain ⟨D, ks', left, cnt, _, _, _, hnd, hvs, _⟩ := h.hr
  have hlen : vis.length ≤ 100000 := by
    refine Nat.le_trans (nodup_sub vis (S.L.map (fun k => (k.p.shop, k.p.trace))) hnd (fun x hx => ?_)) (by rw [List.length_map]; exact hV.inv.ok.len)
    have h1 := hvs x hx
    rw [hV.inv.gp x.1 x.2] at h1
    obtain ⟨q, hq⟩ := Option.isSome_iff_exists.1 h1
    obtain ⟨k, hk, _⟩ := Option.map_eq_some_iff.1 hq
    have e1 : keyIs x.1 x.2 k = true := List.find?_some hk
    have e := of_decide_eq_true e1
    exact List.mem_map.2 ⟨k, List.mem_of_find?_eq_some hk, by rw [e.1, e.2]⟩
  refine ⟨H.o, fun x y => wantV S.L vis x y, fun q x y hx hy => ?_, fun q x y hx hy => ?_, fun x y => ?_, fun x y => ?_, fun x y => ?_⟩
  · exact (hO.of_block (w' := wq.drewN q) rfl).look keyA Try.underlying58 zeroI x y hx hy
  · have := (q1.of_block (w' := wq.drewN q) rfl).look keyA Try.underlying58 zeroI x y hx hy
    rw [q2] at this
    exact this
  · have hn := hV.inv.net x y
    rw [how] at hn
    have e := wantV_all hV.inv.ok.once hV.inv.gp hnd hvs hall
    dsimp only at hn ⊢
    rw [e x y, e y x]
    omega
  · have h2 := hV.inv.tot.small x y
    rw [how] at h2
    have h3 := hV.inv.o0 x y
    dsimp only at h2
    omega
  · have := wantV_small hV.inv.ok vis x y
    dsimp only
    omega
end Go.Proofs.Ytdameincehiieaa
