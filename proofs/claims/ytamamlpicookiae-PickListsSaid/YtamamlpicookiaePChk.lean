/- How many names there are: the program's map. -/
import Derived.Test.YtamamlpicookiaeLow
import Derived.Test.YtamamlpicookiaeShP
import Derived.Maps.OwnSet
import Derived.Maps.OwnOps
import Derived.Maps.Views
import Derived.StringKeys
import Derived.Deep.RegionWith
namespace Go.Proofs.Ytamamlpicookiae
open Go.RowKit Go.WideMaps Go.Maps
set_option linter.unusedVariables false

theorem lawS : Keyed Try.prog 9 := string_keyed Try.underlying9
theorem zeroI (w : World) : (zeroValue 3).run Try.prog w = .ok (.int .i64 0) w := by kernel_rfl

/-- the names, as bytes -/
def namesL (l : List XApp) : List (List UInt8) := l.map (fun a => a.name.data.toList)
/-- is one of the first k there ahead of itself? -/
def dupTo (ns : List (List UInt8)) : Nat → Bool
  | 0 => false
  | k + 1 => dupTo ns k || (ns.take k).contains (ns.getD k [])

set_option maxRecDepth 100000 in
set_option maxHeartbeats 2000000 in
theorem countNames_any (l : List XApp) (ao : Option Addr) (cap : Nat) (w : World) (hl : RowApp w ao l) (h20 : l.length ≤ 20) :
    Calls Try.prog 25 #[.slice ao l.length cap] w fun e w' => (∃ c : Nat, e = .returned (.int .i64 c) ∧ decide (c < l.length) = dupTo (namesL l) l.length) ∧ Below w.heap.size w w' := by
  have hmm := @run_makeMap Try.prog
  have HL := hide hl
  clear hl
  go_enter Try.func25, Try.ntmps25
  go_wp2
  go_loopw [9] (fun i wr => ∃ (k : Nat) (D : DataW Unit), k ≤ l.length ∧ i = .int .i64 k ∧ wr.ownsMap Try.prog 9 (plainElem Try.prog 3) w.heap.size k D ∧ Hid ((∀ x, has D (.string x) = ((namesL l).take k).contains x) ∧ size D ≤ k ∧ decide (size D < k) = dupTo (namesL l) k) ∧ Below w.heap.size w wr)
    (fun i _ => l.length - (intOf i).toNat)
  case atStart => exact ⟨0, .map [], Nat.zero_le _, rfl, World.ownsMap_made _ _ _ _, hide ⟨fun x => rfl, Nat.zero_le _, rfl⟩, (Below.refl _ _).alloc (Nat.le_refl _) _⟩
  case round =>
    obtain ⟨k, D, hk, rfl, hown, HD, hnx⟩ := hrel
    by_cases hlt : k < l.length
    · obtain ⟨x, hx⟩ : ∃ x, l[k]? = some x := ⟨_, List.getElem?_eq_getElem hlt⟩
      obtain ⟨hrr, hok, _⟩ := (unhide HL).below hnx
      have hxs : x.name.size ≤ maxLen := (hok x (List.mem_of_getElem? hx)).1
      rcases hrr with hnil | ⟨b, off, rfl, hb, hc⟩
      · rw [hnil] at hlt; simp at hlt
      obtain ⟨d0, d1, d2, d3⟩ := hc k x hx
      have hkey : keyOf Try.prog 9 (.string x.name) = some (.string x.name.data.toList) := keyOf_string_mk Try.underlying9 hxs
      have hown2 := hown.alloc (Obj.cells #[.string x.name, .string x.label, .int .i64 x.prio, .bool x.confirm] 31)
      obtain ⟨c, hrun, hat, _⟩ := hown2.lookup_int lawS Try.underlying70 Try.underlying3 (zeroI _) hkey
      have hgd : (namesL l).getD k [] = x.name.data.toList := by
        simp [namesL, hx]
      have htk : (namesL l).take (k + 1) = (namesL l).take k ++ [x.name.data.toList] := by
        have hkl : k < (namesL l).length := by simpa [namesL] using hlt
        rw [List.take_succ_eq_append_getElem hkl]
        congr 2
        rw [← hgd, List.getD_eq_getElem?_getD, List.getElem?_eq_getElem hkl]; rfl
      have hnx2 := hnx.alloc hnx.size (Obj.cells #[.string x.name, .string x.label, .int .i64 x.prio, .bool x.confirm] 31)
      have HX := hide hx; have HG := hide hgd; have HT := hide htk
      have htidy := hown2.tidy lawS
      clear hc hx hgd htk hok hat
      go_wp2_with (first
        | (at_mapUpdate; refine wpList_mapUpdate_own _ rfl _ _ _ 70 rfl 9 3 lawS Try.underlying70 _ w.heap.size k _ rfl hown2 (by unfold maxLen; omega) _ _ _ rfl rfl hkey _ [] (plainElem_int Try.underlying3 (wrap64_wf _)) ?_))
      intro w1 hown1 hgrow1
      obtain ⟨i1, i2, i3⟩ := unhide HD
      have R1 : Hid ((∀ y, has (D.put (.string x.name.data.toList) (.lit (.int .i64 (wrap64 (c + 1))))) (.string y) = ((namesL l).take (k + 1)).contains y) ∧ size (D.put (.string x.name.data.toList) (.lit (.int .i64 (wrap64 (c + 1))))) ≤ k + 1 ∧ decide (size (D.put (.string x.name.data.toList) (.lit (.int .i64 (wrap64 (c + 1))))) < k + 1) = dupTo (namesL l) (k + 1)) := hide (by
        have hsz := size_put htidy (k := .string x.name.data.toList) (.lit (.int .i64 (wrap64 (c + 1))))
        refine ⟨fun y => ?_, ?_, ?_⟩
        · rw [unhide HT]
          by_cases hy : y = x.name.data.toList
          · subst hy
            rw [has_put_same htidy.isMap (by trivial)]
            simp
          · rw [has_put_other (by intro h; exact hy (by injection h)), i1 y]
            simp [hy]
        · rw [hsz]; split <;> omega
        · rw [hsz, dupTo, unhide HG, ← i1, ← i3]
          cases has D (.string x.name.data.toList)
          · simp
          · simp; omega)
      have R2 := hnx2.grown hgrow1 hnx2.size (fun j hj => by cases hj; exact Nat.le_refl _)
      clear hgrow1 hrun i1 i2 i3 HD htidy d0 d1 d2 d3 hown hnx hnx2 hown2
      go_wp2
      go_roundw
      case rel => exact ⟨k + 1, _, by omega, by go_num, hown1, R1, R2⟩
      case measure => simp [intOf]; omega
    · have hkl : k = l.length := by omega
      obtain ⟨i1, i2, i3⟩ := unhide HD
      have HI := hide i3
      have hln := fun ty => hown.len Try.underlying70 ty
      clear i1 i2 i3 HD hown
      go_wp2
      go_ret
      exact ⟨⟨_, rfl, by rw [← hkl]; exact unhide HI⟩, hnx⟩
end Go.Proofs.Ytamamlpicookiae
