/-
  The second edition of the pure way: each operation does what its effect says.
-/
import Derived.Test.YtafaadnjkkkafaaDoorQu
namespace Go.Proofs.YtafaadnjkkkafaaDoor.QR
open Go.RowKit PR
set_option linter.unusedVariables false
set_option linter.unusedSimpArgs false

theorem cv_v {L : Nat → Prop} {E : Env} {w : World} {x y : Value} (h : ConcS L E w (.x (.c (.v x))) y) : y = x := by
  have h : Rep E.F w (.v x) y := h
  cases h; rfl
theorem cv_ptr {L : Nat → Prop} {E : Env} {w : World} {m off : Nat} {y : Value} (h : ConcS L E w (.x (.c (.ptr m off))) y) : y = .pointer (some ⟨adr E m, off, none⟩) := h.2
theorem cv_int {L : Nat → Prop} {E : Env} {w : World} {v : SV} {k : IntKind} {n : Int} {y : Value} (hv : asInt' v = some (k, n)) (h : ConcS L E w v y) : y = .int k n := by
  unfold asInt' at hv
  split at hv <;> try (simp at hv; done)
  simp only [Option.some.injEq, Prod.mk.injEq] at hv
  obtain ⟨rfl, rfl⟩ := hv
  exact cv_v h
theorem toVs_conc {L : Nat → Prop} {E : Env} {w : World} : ∀ {l : List CV} {xs ys : List Value}, toVs l = some xs → Fa2 (ConcC L E w) l ys → ys = xs
  | [], xs, ys, h, hc => by
    simp only [toVs, Option.some.injEq] at h; subst h
    cases ys with
    | nil => rfl
    | cons => exact hc.elim
  | c :: l, xs, ys, h, hc => by
    unfold toVs at h
    split at h <;> try (simp at h; done)
    · rename_i e; simp at e
    · rename_i x l' e
      simp only [List.cons.injEq] at e
      obtain ⟨rfl, rfl⟩ := e
      split at h <;> try (simp at h; done)
      rename_i m hm
      simp only [Option.some.injEq] at h
      subst h
      cases ys with
      | nil => exact hc.elim
      | cons y ys =>
        have h1 : y = x := cv_v (L := L) hc.1
        rw [h1, toVs_conc hm hc.2]

section
variable {P : Program} {O : Oracle} {base : Nat} {X F0 : Nat → Prop} {B : Nat → Nat} {E : Env} {s : PSt} {a : Act} {w : World} {o : Oper} {L : Nat → Prop}

theorem fin {K : Act → World → Prop} {Q : Exit → Act → World → Prop} {p : Prop} {li : List Tmp} {gen : Nat} (R : RelE base X F0 B E s a w) {v : SV} {y : Value} (hr : (execOp a.eval o).run P w = .ok (.value y) w) (hy : ConcS (live s) E w v y)
    (hK : ∀ E' a' w', RelE base X F0 B E' ⟨setTmp s.tmps o.dst (gnow v), applyU s.mem [], p, li, gen⟩ a' w' → Keep base X w w' → K a' w') : o.wp P a w K Q := by
  unfold Oper.wp
  rw [hr]
  exact hK E _ _ (R.go o.dst _ _ p li gen (Later.refl _ _ _) (fun _ _ => rfl) (fun _ h => h) (fun _ => hy) R.mem R.sep R.frz (Nat.le_refl _) (fun _ _ h => h)) (Keep.refl _ _ _)

theorem part_conc {l : List CV} {ys : List Value} {t : TypeId} {off : Nat} {v : XV} (h : partX P l t off = some v) (hc : Fa2 (ConcC L E w) l ys) : ∃ y, partV P t ys.toArray off = some y ∧ ConcX L E w v y := by
  unfold partX at h
  by_cases hag : isAggT P t = true
  · rw [if_pos hag] at h
    split at h <;> try (simp at h; done)
    rename_i hb
    simp only [Option.some.injEq] at h
    subst h
    simp only [Bool.and_eq_true, Nat.ble_eq] at hb
    obtain ⟨i, hi⟩ := Option.isSome_iff_exists.1 hb.2
    have hs : sizeT P t = i.size := by simp [sizeT, hi]
    have hf := (hc.drop off).take (sizeT P t)
    rw [hs] at hf ⊢
    have hx : (ys.toArray.extract off (off + i.size)) = ((ys.drop off).take i.size).toArray := by
      apply Array.ext'
      simp [List.extract_eq_take_drop, List.take_drop]
    refine ⟨.agg ((ys.drop off).take i.size).toArray, ?_, _, rfl, hf⟩
    unfold partV
    rw [hi]
    unfold isAggT at hag
    split at hag <;> try (simp at hag; done)
    · rename_i fs hu
      simp only [hu, hx]
    · rename_i n e hu
      simp only [hu, hx]
  · rw [if_neg hag] at h
    split at h <;> try (simp at h; done)
    rename_i c hc'
    split at h <;> try (simp at h; done)
    rename_i hu
    simp only [Option.some.injEq] at h
    subst h
    simp only [Bool.and_eq_true] at hu
    obtain ⟨d, hd⟩ := Option.isSome_iff_exists.1 hu.1
    obtain ⟨i, hi⟩ := Option.isSome_iff_exists.1 hu.2
    obtain ⟨y, e1, e2⟩ := hc.get hc'
    refine ⟨y, ?_, e2⟩
    unfold partV
    unfold isAggT at hag
    rw [hd] at hag
    rw [hi, hd]
    cases d <;> first | (simp at hag; done) | (simpa using e1)

theorem load_part {b off : Nat} {arr : Array Value} {el t : TypeId} {l : List CV} {v : XV} (hg : w.heap[b]? = some (.cells arr el (0, 0))) (hc : Fa2 (ConcC L E w) l arr.toList) (h : partX P l t off = some v) :
    ∃ y, (Instr.loadAt t (.pointer (some ⟨b, off, none⟩))).run P w = .ok y w ∧ ConcX L E w v y := by
  have hg' : w.heap[b]? = some (.cells arr.toList.toArray el (0, 0)) := by simpa using hg
  unfold partX at h
  by_cases hag : isAggT P t = true
  · rw [if_pos hag] at h
    split at h <;> try (simp at h; done)
    rename_i hb
    simp only [Option.some.injEq] at h
    subst h
    simp only [Bool.and_eq_true, Nat.ble_eq] at hb
    exact ⟨_, run_load_part (P := P) b off el t arr.toList hg' hag (by rw [← hc.len]; exact hb.1) hb.2, _, rfl, (hc.drop off).take _⟩
  · rw [if_neg hag] at h
    split at h <;> try (simp at h; done)
    rename_i c hc'
    split at h <;> try (simp at h; done)
    rename_i hu
    simp only [Option.some.injEq] at h
    subst h
    simp only [Bool.and_eq_true] at hu
    obtain ⟨y, e1, e2⟩ := hc.get hc'
    exact ⟨y, run_load_cell (P := P) b off el t arr.toList y hg' (by simpa using hag) hu.1 e1, e2⟩

/-- an element, read by its place -/
theorem load_elem {b at' off z : Nat} {arr : Array Value} {el t : TypeId} {r : Row} {i : Int} {v : XV} (hg : w.heap[b]? = some (.cells arr el (0, 0)))
    (hc : ∀ j < z, ∃ u, arr[at' + j]? = some u ∧ Rep E.F w (den r i j) u) (h : elemX P t z r i off = some v) :
    ∃ y, (Instr.loadAt t (.pointer (some ⟨b, at' + off, none⟩))).run P w = .ok y w ∧ ConcX L E w v y := by
  have hg' : w.heap[b]? = some (.cells arr.toList.toArray el (0, 0)) := by simpa using hg
  unfold elemX at h
  by_cases hag : isAggT P t = true
  · rw [if_pos hag] at h
    split at h <;> try (simp at h; done)
    rename_i hb
    simp only [Option.some.injEq] at h
    subst h
    simp only [Bool.and_eq_true, Nat.ble_eq, Nat.blt_eq] at hb
    obtain ⟨⟨hb1, hb0⟩, hb2⟩ := hb
    have hle : at' + off + sizeT P t ≤ arr.toList.length := by
      obtain ⟨u, e, _⟩ := hc (off + sizeT P t - 1) (by omega)
      have := (Array.getElem?_eq_some_iff.1 e).1
      rw [Array.length_toList]; omega
    refine ⟨_, run_load_part (P := P) b (at' + off) el t arr.toList hg' hag hle hb2, _, rfl, ?_⟩
    refine Fa2.of (by simp only [List.length_map, List.length_range, List.length_take, List.length_drop]; omega) fun k c y hk hy => ?_
    simp only [List.getElem?_map, Option.map_eq_some_iff] at hk
    obtain ⟨k', hk', rfl⟩ := hk
    have hlt : k < sizeT P t := by
      have := (List.getElem?_eq_some_iff.1 hk').1
      simpa using this
    rw [List.getElem?_range hlt] at hk'
    simp only [Option.some.injEq] at hk'
    subst hk'
    obtain ⟨u, e1, e2⟩ := hc (off + k) (by omega)
    rw [List.getElem?_take, if_pos hlt, List.getElem?_drop, Array.getElem?_toList, show at' + off + k = at' + (off + k) by omega, e1] at hy
    simp only [Option.some.injEq] at hy
    subst hy
    exact ConcC.of_fz e2
  · rw [if_neg hag] at h
    split at h <;> try (simp at h; done)
    rename_i hu
    simp only [Option.some.injEq] at h
    subst h
    simp only [Bool.and_eq_true, Nat.blt_eq] at hu
    obtain ⟨y, e1, e2⟩ := hc off hu.1
    exact ⟨y, run_load_cell (P := P) b (at' + off) el t arr.toList y hg' (by simpa using hag) hu.2 (by rw [Array.getElem?_toList]; exact e1), ConcC.of_fz e2⟩

theorem known_all {x : Operand} (hp : ∀ c u v, o.op ≠ .pick c u v) (h : knownOf s o = true) (hx : x ∈ o.op.operands.toList) : (operand s x).k = true := by
  have key : ∀ {l : List GV}, allOf l = true → ∀ {g : GV}, g ∈ l → g.k = true := by
    intro l
    induction l with
    | nil => intro _ g hg; simp at hg
    | cons x l ih =>
      intro h g hg
      simp only [allOf, Bool.and_eq_true] at h
      rcases List.mem_cons.1 hg with rfl | hg
      · exact h.1
      · exact ih h.2 hg
  unfold knownOf at h
  split at h
  · rename_i c u v e; exact absurd e (hp c u v)
  · exact key h (List.mem_map_of_mem hx)

theorem adr_lt {m : Nat} (h : m < GB) : adr E m = E.β m := by unfold adr; rw [if_neg (by omega)]

theorem block_mem (R : RelE base X F0 B E s a w) {m : Nat} {l : List CV} (h : memC s m = some l) (hL : live s m) : ∃ arr t, w.heap[adr E m]? = some (.cells arr t (0, 0)) ∧ Fa2 (ConcC (live s) E w) l arr.toList := by
  unfold memC at h
  split at h <;> try (simp at h; done)
  · rename_i l' hm
    simp only [Option.some.injEq] at h
    subst h
    obtain ⟨h1, _, _, arr, t, h2, h3⟩ := R.mem m _ hm
    exact ⟨arr, t, by rw [adr_lt h1]; exact h2, h3⟩
  · rename_i hm
    have hGB : GB ≤ m := by
      rcases hL with h' | ⟨h', _⟩
      · rw [hm] at h'; simp at h'
      · exact h'
    obtain ⟨_, arr, t, h2, h3⟩ := R.glob m l h hGB
    exact ⟨arr, t, by rw [adr, if_pos hGB]; exact h2, h3.mono fun _ _ => ConcC.of_fz⟩

/-- an element of a row that is one's own, or was -/
theorem row_elem (R : RelE base X F0 B E s a w) {m z : Nat} {n : Int} {r : Row} (h : rowOf s m = some (z, n, r)) {b c ln : Nat} (hv : E.ν m = .slice (some ⟨b, 0, none⟩) ln c) {i : Int} (h0 : 0 ≤ i) (hi : i.toNat < ln) :
    ∃ arr t, w.heap[b]? = some (.cells arr t (0, 0)) ∧ ∀ j < z, ∃ u, arr[i.toNat * z + j]? = some u ∧ Rep E.F w (den r i j) u := by
  unfold rowOf at h
  split at h <;> try (simp at h; done)
  · rename_i z' n' r' hm
    simp only [Option.some.injEq, Prod.mk.injEq] at h
    obtain ⟨rfl, rfl, rfl⟩ := h
    obtain ⟨_, k0, _, _, e, xs, ho, hr⟩ := R.mem m _ hm
    rcases ho.2 with ⟨hv', _⟩ | ⟨g, cap, cur, hv', _, hg, hnc, _, hcs, htake⟩
    · rw [hv] at hv'; simp at hv'
    · rw [hv] at hv'
      simp only [Value.slice.injEq, Option.some.injEq, Addr.mk.injEq, and_true] at hv'
      obtain ⟨rfl, hln, _⟩ := hv'
      refine ⟨cur, e, hg, fun j hj => ?_⟩
      obtain ⟨u, e1, e2⟩ := hr i.toNat j (by omega) hj
      rw [← htake, List.getElem?_take] at e1
      split at e1
      · exact ⟨u, by simpa using e1, by rw [show ((i.toNat : Nat) : Int) = i by omega] at e2; exact e2⟩
      · simp at e1
  · rename_i z' n' r' hm
    simp only [Option.some.injEq, Prod.mk.injEq] at h
    obtain ⟨rfl, rfl, rfl⟩ := h
    have hrep : Rep E.F w (.slc z' n' r') (E.ν m) := (R.mem m _ hm).2
    rw [hv] at hrep
    cases hrep with
    | nil => omega
    | slc u hz hc hF hh hu hr =>
      refine ⟨_, _, hh, fun j hj => ⟨u i.toNat j, ?_, ?_⟩⟩
      · have := hu i.toNat j hi hj
        simpa using this
      · have := hr i.toNat j hi hj
        rw [show ((i.toNat : Nat) : Int) = i by omega] at this; exact this

theorem binV_plain {op : BinOp} {t : TypeId} {x y v : Value} {b : List Bool} (h : binV P op t x y = some (v, b)) (hb : ∀ c ∈ b, c = true) (p q : Operand) (w : World) : (do eqGuard op t p q x y; binOp op t x y : Sem Value).run P w = .ok v w := (run_binV h hb p q w).1

theorem callee_sound (R : RelE base X F0 B E s a w) {cal : Callee} {f : FuncId} {caps : List (Nat × Nat)} (h : calleeOf s cal = some (f, caps)) :
    ∃ x cv, cal = .value x ∧ a.eval x = .func (.func f) #[] cv ∧ Fa2 (ConcS (live s) E w) (caps.map fun p => SV.x (.c (.ptr p.1 p.2))) cv.toList := by
  unfold calleeOf at h
  split at h <;> try (simp at h; done)
  rename_i x
  refine ⟨x, ?_⟩
  split at h <;> try (simp at h; done)
  · rename_i g hg
    simp only [Option.some.injEq, Prod.mk.injEq] at h
    obtain ⟨rfl, rfl⟩ := h
    have := R.eval x (by rw [hg])
    rw [hg] at this
    exact ⟨#[], rfl, cv_v this, trivial⟩
  · rename_i g caps' hg
    simp only [Option.some.injEq, Prod.mk.injEq] at h
    obtain ⟨rfl, rfl⟩ := h
    have := R.eval x (by rw [hg])
    rw [hg] at this
    obtain ⟨h1, h2⟩ := this
    refine ⟨_, rfl, h2, ?_⟩
    simp only
    clear h2 hg
    induction caps' with
    | nil => trivial
    | cons p l ih => exact ⟨⟨h1 p (by simp), rfl⟩, ih fun q hq => h1 q (by simp [hq])⟩

theorem vals_conc (hv : ∀ x ∈ o.op.operands.toList, ConcS (live s) E w (valOf s x) (a.eval x)) : ∀ (l : List Operand), (∀ x ∈ l, x ∈ o.op.operands.toList) → Fa2 (ConcS (live s) E w) (l.map (valOf s)) (l.map a.eval)
  | [], _ => trivial
  | x :: l, h => ⟨hv x (h x (by simp)), vals_conc hv l fun y hy => h y (by simp [hy])⟩

theorem call_sound (hO : OSound P O) (R : RelE base X F0 B E s a w) (hb : base ≤ w.heap.size) {c : Call} (ho : o.op = .call c) (hv : ∀ x ∈ o.op.operands.toList, ConcS (live s) E w (valOf s x) (a.eval x)) {f : FuncId} {caps : List (Nat × Nat)} (hcal : calleeOf s c.callee = some (f, caps))
    {e : Eff} (he : effCall O s f (c.args.toList.map (valOf s) ++ caps.map fun p => .x (.c (.ptr p.1 p.2))) = some e) (hok : ∀ q ∈ e.ok, q) {name : Nat} {p : Prop} {li : List Tmp} {gen : Nat} {K : Act → World → Prop} {Q : Exit → Act → World → Prop}
    (hK : ∀ E' a' w', RelE base X F0 B E' ⟨setTmp s.tmps o.dst (gnow e.v), applyU s.mem (upsOf name e), p, li, gen⟩ a' w' → Keep base X w w' → K a' w') : o.wp P a w K Q := by
  obtain ⟨x, cv, hx, hev, hcv⟩ := callee_sound R hcal
  unfold effCall at he
  split at he <;> try (simp at he; done)
  rename_i al rows refs hargs
  split at he <;> try (simp at he; done)
  rename_i hd
  split at he <;> try (simp at he; done)
  rename_i ans hans
  split at he <;> try (simp at he; done)
  rename_i u hu
  split at he <;> try (simp at he; done)
  rename_i hl
  have hfa : Fa2 (ConcS (live s) E w) (c.args.toList.map (valOf s) ++ caps.map fun p => SV.x (.c (.ptr p.1 p.2))) (c.args.toList.map a.eval ++ cv.toList) :=
    Fa2.app (vals_conc hv _ fun y hy => by rw [ho]; simp only [Op.operands, Call.operands, Array.toList_append]; exact List.mem_append_right _ hy) hcv
  obtain ⟨hA, hrefs⟩ := argsA_sound R (rows0 := rows) hargs (fun _ h => h) hd hfa
  have hrun : (execOp a.eval o).run P w = (callFunc f (c.args.toList.map a.eval ++ cv.toList).toArray).run P w := by
    simp only [execOp, ho, resolve, hx, hev, Deferred.ofValue, Sem.run_bind, Sem.run_pure, Result.andThen_ok, invoke]
    congr 2
    apply Array.ext'
    simp
  have hask : ∀ q ∈ ans.ask, q := by
    split at he
    · simp only [Option.some.injEq] at he; subst he; exact hok
    · simp only [Option.some.injEq] at he; subst he; exact hok
  have fin : ∀ v w', Post (callF E s rows) w (refs.map E.β) ans v w' → K (a.put o.dst v) w' := by
    intro v w' hp
    split at he
    · rename_i hc
      simp only [Bool.and_eq_true, Nat.beq_eq] at hc
      simp only [Option.some.injEq] at he
      subst he
      have hr0 : refs = [] := List.eq_nil_of_length_eq_zero hc.2
      subst hr0
      obtain ⟨R', k⟩ := R.called0 hb hp hc.1 o.dst p li gen
      exact hK E _ _ R' k
    · simp only [Option.some.injEq] at he
      subst he
      obtain ⟨⟨E', R'⟩, k⟩ := R.called hb hrefs hp hu o.dst p li gen
      exact hK E' _ _ R' k
  have D := hO f al ans hans hask w (callF E s rows) _ _ (conc_laid R rows) (fun k hk => callF_lt R hk) hA
  unfold Oper.wp
  rw [hrun]
  rcases D with ⟨v, w', r, hp⟩ | ⟨r, C⟩
  · rw [r]; exact fin v w' hp
  · rw [r]
    refine Calls.mono C ?_
    rintro e' w' ⟨v, rfl, hp⟩
    exact fin v w' hp
end
end Go.Proofs.YtafaadnjkkkafaaDoor.QR
