/-
  Package-level tables: what the rows lay of them is what the pure evaluation reads.
-/
import Derived.Test.YtafaadnjkkkafaaDoorRd
import Derived.Test.YtafaadnjkkkafaaDoorRows
import Derived.OpenShut
import Derived.LaidMore
namespace Go.Proofs.YtafaadnjkkkafaaDoor
open Go.RowKit PR QR
set_option linter.unusedVariables false

section
variable {P : Program} {W : World} {base : Nat} {sp : Nat → Bool} {held : Bool} {fuel : Nat} {t e : TypeId} {n : Nat} {cs : List Value} {p : List MemPlace}
theorem tab_strings {ls : List (List UInt8)} (ht : P.underlying t = some (.array n e)) (he : P.underlying e = some .string) (h1 : P.cellsOf e = 1) (hn : P.cellsOf t = n)
    (h : DataW.trod (fun _ => ()) P W base sp held fuel t cs = some (.agg (ls.map fun l => .lit (.string l)), p)) : cs = ls.map fun l => Value.string (bs l) := by
  obtain ⟨xs, m, rfl, ex, hl, hxs, hel⟩ := DataW.trod_array ht h
  simp only [Prod.mk.injEq, DataW.agg.injEq] at ex
  obtain ⟨ex, _⟩ := ex
  have hlen : ls.length = n := by have := congrArg List.length ex; simp only [List.length_map] at this; omega
  apply List.ext_getElem?
  intro i
  by_cases hi : i < n
  · have := hel i hi
    rw [h1, Nat.mul_one, List.getElem?_eq_getElem (by omega)] at this
    obtain ⟨s, e1, e2, _⟩ := DataW.trod_string he this
    have e3 : cs[i]? = some (.string s) := by
      have h0 : ((cs.drop i).take 1)[0]? = some (.string s) := by rw [e1]; rfl
      simpa using h0
    have e4 : (xs.map (·.1))[i]? = (ls.map fun l => (DataW.lit (.string l) : DataW Unit))[i]? := by rw [ex]
    rw [List.getElem?_map, List.getElem?_map, List.getElem?_eq_getElem (by omega : i < xs.length), List.getElem?_eq_getElem (by omega : i < ls.length), e2] at e4
    simp only [Option.map_some, Option.some.injEq, DataW.lit.injEq, Lit.string.injEq] at e4
    rw [e3, List.getElem?_map, List.getElem?_eq_getElem (by omega : i < ls.length), ← e4]
    rfl
  · rw [List.getElem?_eq_none (by omega), List.getElem?_eq_none (by simp only [List.length_map]; omega)]
theorem tab_ints {k : IntKind} {ls : List Int} (ht : P.underlying t = some (.array n e)) (he : P.underlying e = some (.int k)) (h1 : P.cellsOf e = 1) (hn : P.cellsOf t = n)
    (h : DataW.trod (fun _ => ()) P W base sp held fuel t cs = some (.agg (ls.map fun l => .lit (.int k l)), p)) : cs = ls.map fun l => Value.int k l := by
  obtain ⟨xs, m, rfl, ex, hl, hxs, hel⟩ := DataW.trod_array ht h
  simp only [Prod.mk.injEq, DataW.agg.injEq] at ex
  obtain ⟨ex, _⟩ := ex
  have hlen : ls.length = n := by have := congrArg List.length ex; simp only [List.length_map] at this; omega
  apply List.ext_getElem?
  intro i
  by_cases hi : i < n
  · have := hel i hi
    rw [h1, Nat.mul_one, List.getElem?_eq_getElem (by omega)] at this
    obtain ⟨s, e1, e2, _⟩ := DataW.trod_int he this
    have e3 : cs[i]? = some (.int k s) := by
      have h0 : ((cs.drop i).take 1)[0]? = some (.int k s) := by rw [e1]; rfl
      simpa using h0
    have e4 : (xs.map (·.1))[i]? = (ls.map fun l => (DataW.lit (.int k l) : DataW Unit))[i]? := by rw [ex]
    rw [List.getElem?_map, List.getElem?_map, List.getElem?_eq_getElem (by omega : i < xs.length), List.getElem?_eq_getElem (by omega : i < ls.length), e2] at e4
    simp only [Option.map_some, Option.some.injEq, DataW.lit.injEq, Lit.int.injEq, true_and] at e4
    rw [e3, List.getElem?_map, List.getElem?_eq_getElem (by omega : i < ls.length), ← e4]
    rfl
  · rw [List.getElem?_eq_none (by omega), List.getElem?_eq_none (by simp only [List.length_map]; omega)]
end
theorem fa2_strings {F : Nat → Prop} {W : World} : ∀ ls : List (List UInt8), Fa2 (Rep F W) (ls.map fun l => CV.v (.string (bs l))) (ls.map fun l => Value.string (bs l))
  | [] => trivial
  | _ :: l => ⟨.v rfl, fa2_strings l⟩
theorem fa2_ints {F : Nat → Prop} {W : World} {k : IntKind} : ∀ ls : List Int, Fa2 (Rep F W) (ls.map fun l => CV.v (.int k l)) (ls.map fun l => Value.int k l)
  | [] => trivial
  | _ :: l => ⟨.v rfl, fa2_ints l⟩
theorem laid_block {P : Program} {W : World} {nm : String} {g : Nat} {cs : Array Value} {ps : List MemPlace} (hg : P.globalNamed nm = some g) (hv : W.var? P nm = some cs) (h0 : 0 < cs.size)
    (hin : ∀ x ∈ MemPlace.row ⟨g, 0, none⟩ cs.size, x ∈ ps) (hz : ∀ b off, MemPlace.cell b off ∈ ps → (∃ c t, W.heap[b]? = some (.cells c t (0, 0))) ∧ ∀ u v, W.cell? ⟨b, off, none⟩ = some (.iface u v) → Value.okWide P W .any 0 u v) :
    ∃ t, W.heap[g]? = some (.cells cs t (0, 0)) := by
  obtain ⟨⟨c, t, e⟩, _⟩ := hz g 0 (hin _ (MemPlace.mem_row.2 ⟨0, h0, rfl⟩))
  unfold World.var? at hv
  rw [hg] at hv
  simp only [Option.bind_some, e, Option.some.injEq] at hv
  subst hv
  exact ⟨t, e⟩
theorem lt_of_block {W : World} {g : Nat} {c : Array Value} {t : TypeId} {m : Nat × Nat} (h : W.heap[g]? = some (.cells c t m)) : g < W.heap.size := (Array.getElem?_eq_some_iff.1 h).1
theorem laid_of {W : World} (h : laidMetH Tryd.prog [("compositor/blend.names", Rows.laid_compositor_blend_names)] W) : ∃ F, Laid F W ∧ ∀ k, F k → k < W.heap.size := by
  rw [MakeChecks.laidMetH_plain _ _ _ (by kernel_rfl)] at h
  obtain ⟨ps, ⟨g0, t0, cs0, f0, p0, q0, hg0, ht0, hv0, hd0, R, hps0⟩, _, hz⟩ := h
  obtain rfl := Option.some.inj ((show Tryd.prog.globalNamed "compositor/blend.names" = some 0 by kernel_rfl).symm.trans hg0)
  obtain rfl := Option.some.inj ((show (Tryd.prog.globals[0]?).map (·.type) = some 55 by kernel_rfl).symm.trans ht0)
  have hc0 := tab_strings (ls := [[], [110, 111, 114, 109, 97, 108], [109, 117, 108, 116, 105, 112, 108, 121], [115, 99, 114, 101, 101, 110], [111, 118, 101, 114, 108, 97, 121], [100, 97, 114, 107, 101, 110], [108, 105, 103, 104, 116, 101, 110], [99, 111, 108, 111, 114, 45, 100, 111, 100, 103, 101], [99, 111, 108, 111, 114, 45, 98, 117, 114, 110], [104, 97, 114, 100, 45, 108, 105, 103, 104, 116], [115, 111, 102, 116, 45, 108, 105, 103, 104, 116], [100, 105, 102, 102, 101, 114, 101, 110, 99, 101], [101, 120, 99, 108, 117, 115, 105, 111, 110]]) Tryd.underlying55 Tryd.underlying9 (by kernel_rfl) (by kernel_rfl) hd0
  obtain ⟨y0, hb0⟩ := laid_block hg0 hv0 (by rw [← Array.length_toList, hc0]; decide) (by intro x hx; subst_vars; simp only [List.mem_append]; simp [hx]) hz
  refine ⟨fun k => k = 0, fun m l hg hm => ?_, fun k hk => ?_⟩
  · by_cases c0 : m = GB + 0
    · subst c0
      obtain rfl : _ = l := Option.some.inj hg
      refine ⟨by simp, cs0, y0, by rw [Nat.add_sub_cancel_left]; exact hb0, ?_⟩
      rw [hc0]
      exact fa2_strings [[], [110, 111, 114, 109, 97, 108], [109, 117, 108, 116, 105, 112, 108, 121], [115, 99, 114, 101, 101, 110], [111, 118, 101, 114, 108, 97, 121], [100, 97, 114, 107, 101, 110], [108, 105, 103, 104, 116, 101, 110], [99, 111, 108, 111, 114, 45, 100, 111, 100, 103, 101], [99, 111, 108, 111, 114, 45, 98, 117, 114, 110], [104, 97, 114, 100, 45, 108, 105, 103, 104, 116], [115, 111, 102, 116, 45, 108, 105, 103, 104, 116], [100, 105, 102, 102, 101, 114, 101, 110, 99, 101], [101, 120, 99, 108, 117, 115, 105, 111, 110]]
    · exfalso
      have d0 : Nat.beq m (GB + 0) = false := by cases hh : Nat.beq m (GB + 0) with | false => rfl | true => exact absurd (Nat.eq_of_beq_eq_true hh) c0
      unfold gtab at hg
      simp only [d0, cond_false] at hg
      exact absurd hg (by simp)
  · obtain rfl := hk
    exact lt_of_block hb0

end Go.Proofs.YtafaadnjkkkafaaDoor
