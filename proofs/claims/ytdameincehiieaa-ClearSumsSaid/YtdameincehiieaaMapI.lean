/- Maps from numbers to numbers that a call makes by itself: what lies at each key, as a function. -/
import Derived.Test.YtdameincehiieaaLow0
import Derived.Maps.OwnSet
import Derived.Maps.OwnOps
import Derived.Maps.Views
import Derived.Maps.Keyed
import Derived.Below
namespace Go.Proofs.Ytdameincehiieaa
open Go.RowKit Go.WideMaps Go.Maps
set_option linter.unusedVariables false

theorem lawI : Keyed Try.prog 3 := int_keyed Try.underlying3
theorem zeroIM (w : World) : (zeroValue 3).run Try.prog w = .ok (.int .i64 0) w := by kernel_rfl
theorem wf_i64 (x : Int) (h1 : -9223372036854775808 ≤ x) (h2 : x ≤ 9223372036854775807) : (Lit.int .i64 x).wf = true := by
  have h := wrap64_wf x
  have e : wrap64 x = x := by unfold wrap64; omega
  rw [e] at h
  exact h
/-- the map in block b (made by at most n stores): at k lies f k; 0 where nothing was laid -/
def IMap (w : World) (b n : Nat) (f : Int → Int) : Prop := ∃ D : DataW Unit, w.ownsMap Try.prog 3 (plainElem Try.prog 3) b n D ∧ ∀ k : Int, D.atKey (.int .i64 k) (.lit (.int .i64 0)) = .lit (.int .i64 (f k))
theorem IMap.made (w : World) : IMap (w.alloc (.map #[] 0)) w.heap.size 0 (fun _ => 0) := ⟨.map [], World.ownsMap_made _ _ _ _, fun k => rfl⟩
theorem IMap.alloc {w : World} {b n : Nat} {f : Int → Int} (h : IMap w b n f) (o : Obj) : IMap (w.alloc o) b n f := by obtain ⟨D, h1, h2⟩ := h; exact ⟨D, h1.alloc o, h2⟩
theorem IMap.drewN {w : World} {b n : Nat} {f : Int → Int} (h : IMap w b n f) (q : Nat) : IMap (w.drewN q) b n f := h
theorem IMap.lt {w : World} {b n : Nat} {f : Int → Int} (h : IMap w b n f) : b < w.heap.size := by obtain ⟨D, h1, h2⟩ := h; exact h1.lt
theorem IMap.kept {w w' : World} {b n : Nat} {f : Int → Int} {row : Option Nat} (h : IMap w b n f) (hg : w.grownBy w' row) (hne : some b ≠ row) : IMap w' b n f := by obtain ⟨D, h1, h2⟩ := h; exact ⟨D, h1.kept hg hne, h2⟩
theorem IMap.below {w w' : World} {b n : Nat} {f : Int → Int} (h : IMap w b n f) (hb : Below w.heap.size w w') : IMap w' b n f := by
  have hlt := h.lt
  obtain ⟨D, ⟨es, clock, hh, h1⟩, h2⟩ := h
  exact ⟨D, ⟨es, clock, (hb.block b hlt).trans hh, h1⟩, h2⟩
theorem IMap.setCell {w : World} {b n : Nat} {f : Int → Int} (h : IMap w b n f) {a : Addr} (ha : b ≠ a.block) (u : Value) : IMap (w.setCell a u) b n f := by obtain ⟨D, h1, h2⟩ := h; exact ⟨D, h1.setCell ha u, h2⟩
theorem IMap.congr {w : World} {b n : Nat} {f g : Int → Int} (h : IMap w b n f) (e : ∀ k, f k = g k) : IMap w b n g := by obtain ⟨D, h1, h2⟩ := h; exact ⟨D, h1, fun k => by rw [h2 k, e k]⟩
theorem IMap.mono {w : World} {b n m : Nat} {f : Int → Int} (h : IMap w b n f) (hm : n ≤ m) : IMap w b m f := by obtain ⟨D, h1, h2⟩ := h; exact ⟨D, h1.mono hm, h2⟩
def upd (f : Int → Int) (k v : Int) : Int → Int := fun x => if x = k then v else f x
theorem IMap.put {w w' : World} {b n : Nat} {f : Int → Int} {D : DataW Unit} (ho : w.ownsMap Try.prog 3 (plainElem Try.prog 3) b n D) (hD : ∀ k : Int, D.atKey (.int .i64 k) (.lit (.int .i64 0)) = .lit (.int .i64 (f k))) (k v : Int)
    (h' : w'.ownsMap Try.prog 3 (plainElem Try.prog 3) b (n + 1) (D.put (.int .i64 k) (.lit (.int .i64 v)))) : IMap w' b (n + 1) (upd f k v) := by
  refine ⟨_, h', fun x => ?_⟩
  unfold upd
  by_cases e : x = k
  · subst e; rw [if_pos rfl]; exact atKey_put_same ho.isMap (by trivial) _ _
  · rw [if_neg e, atKey_put_other (by intro h; injection h with _ h; exact e h)]; exact hD x
end Go.Proofs.Ytdameincehiieaa
