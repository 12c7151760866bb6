/-
  The second edition of the pure way: each operation does what its effect says.
-/
import Derived.Test.YtafaadnjkkkafaaDoorQv
namespace Go.Proofs.YtafaadnjkkkafaaDoor.QR
open Go.RowKit PR
set_option linter.unusedVariables false
set_option linter.unusedSimpArgs false

section
variable {P : Program} {O : Oracle} {base : Nat} {X F0 : Nat → Prop} {B : Nat → Nat} {E : Env} {s : PSt} {a : Act} {w : World} {o : Oper}

theorem run_len_array (t ty : TypeId) {n : Nat} {e : TypeId} {v : Value} (h : P.underlying t = some (.array n e)) : (Builtin.len_ #[t] ty #[v]).run P w = .ok (goInt n) w := by
  cases v <;> simp [Builtin.len_, run_underlying h]

theorem fin_v {K : Act → World → Prop} {Q : Exit → Act → World → Prop} {p : Prop} {li : List Tmp} {gen : Nat} (R : RelE base X F0 B E s a w) {x : Value} (hp : plainB x = true) (hr : (execOp a.eval o).run P w = .ok (.value x) w)
    (hK : ∀ E' a' w', RelE base X F0 B E' ⟨setTmp s.tmps o.dst (gnow (vS x)), applyU s.mem [], p, li, gen⟩ a' w' → Keep base X w w' → K a' w') : o.wp P a w K Q :=
  fin (v := vS x) R hr (Rep.v hp) hK

/-- the cells of a row that is one's own, or was -/
theorem row_news (R : RelE base X F0 B E s a w) {m z : Nat} {n : Int} {r : Row} (h : rowOf s m = some (z, n, r)) :
    (E.ν m = .slice none 0 0 ∧ n = 0) ∨ ∃ (ad : Addr) (k c : Nat) (news : List Value), E.ν m = .slice (some ad) k c ∧ n = k ∧ news.length = k * z ∧ (∀ j u, news[j]? = some u → w.cell? (ad.add j) = some u) ∧ (∀ u ∈ news, u.oneCell' = true) ∧ RepRow E.F w z n r news := by
  unfold rowOf at h
  split at h <;> try (simp at h; done)
  · rename_i z' n' r' hm
    simp only [Option.some.injEq, Prod.mk.injEq] at h
    obtain ⟨rfl, rfl, rfl⟩ := h
    obtain ⟨_, k0, hz, _, e, xs, ho, hr⟩ := R.mem m _ hm
    have hc := fun g => ho.cells (g := g)
    have hlen := ho.1
    rcases ho.2 with ⟨hv', h0⟩ | ⟨g, cap, cur, hv', _⟩
    · exact Or.inl ⟨hv', by omega⟩
    · refine Or.inr ⟨⟨g, 0, none⟩, n'.toNat, cap, xs, hv', by omega, hlen, hc g (by rw [hv']; rfl), fun v hv => ?_, hr⟩
      obtain ⟨k, hk, e⟩ := List.getElem_of_mem hv
      rw [hlen] at hk
      have hq : k / z' < n'.toNat := by rw [Nat.div_lt_iff_lt_mul hz]; exact hk
      obtain ⟨u, e1, e2⟩ := hr (k / z') (k % z') (by omega) (Nat.mod_lt k hz)
      rw [show k / z' * z' + k % z' = k by rw [Nat.mul_comm, Nat.div_add_mod], List.getElem?_eq_getElem (by rw [hlen]; exact hk), e] at e1
      simp only [Option.some.injEq] at e1
      rw [e1]; exact e2.one
  · rename_i z' n' r' hm
    simp only [Option.some.injEq, Prod.mk.injEq] at h
    obtain ⟨rfl, rfl, rfl⟩ := h
    have hrep : Rep E.F w (.slc z' n' r') (E.ν m) := (R.mem m _ hm).2
    exact hrep.news

theorem mul_le_of {n b k : Nat} (h : n * b ≤ k) (hb : 0 < b) : n ≤ k := Nat.le_trans (Nat.le_mul_of_pos_right n hb) h

theorem builtin_sound (R : RelE base X F0 B E s a w) (hb : base ≤ w.heap.size) {c : Call} (ho : o.op = .call c) (hv : ∀ x ∈ o.op.operands.toList, ConcS (live s) E w (valOf s x) (a.eval x)) {b : Builtin} (hcal : c.callee = .builtin b) {name : Nat}
    {e : Eff} (he : effBuiltin P name s b c.argTypes.toList (c.args.toList.map (valOf s)) = some e) (hok : ∀ q ∈ e.ok, q) (hnw : e.nw.isSome = true → s.mem name = none ∧ name < PN) {p : Prop} {li : List Tmp} {gen : Nat} {K : Act → World → Prop} {Q : Exit → Act → World → Prop}
    (hK : ∀ E' a' w', RelE base X F0 B E' ⟨setTmp s.tmps o.dst (gnow e.v), applyU s.mem (upsOf name e), p, li, gen⟩ a' w' → Keep base X w w' → K a' w') : o.wp P a w K Q := by
  have hargs : Fa2 (ConcS (live s) E w) (c.args.toList.map (valOf s)) (c.args.toList.map a.eval) :=
    vals_conc hv _ fun y hy => by rw [ho]; simp only [Op.operands, Call.operands, Array.toList_append]; exact List.mem_append_right _ hy
  have hrun : ∀ ys : List Value, c.args.toList.map a.eval = ys → (execOp a.eval o).run P w = (builtin b c.argTypes o.type (c.args.map fun | .const _ => true | _ => false) ys.toArray).run P w := by
    intro ys hys
    simp only [execOp, ho, resolve, hcal, Sem.run_bind, Sem.run_pure, Result.andThen_ok, invoke]
    congr 2
    apply Array.ext'
    simpa using hys
  unfold effBuiltin at he
  split at he
  · -- min
    rename_i args tys k x l y hq
    simp only [eV, Option.some.injEq] at he
    subst he
    have hq : c.args.toList.map (valOf s) = _ := hq
    rw [hq] at hargs
    generalize hys : c.args.toList.map a.eval = ys at hargs
    match ys, hargs with
    | [y1, y2], hargs =>
      obtain rfl := cv_v hargs.1
      obtain rfl := cv_v hargs.2.1
      refine fin_v R rfl ?_ hK
      rw [hrun _ hys]
      simp only [builtin, Sem.run_bind, Builtin.min_, List.foldlM_cons, List.foldlM_nil, Builtin.min2, iimin]
      rfl
  · -- max
    rename_i args tys k x l y hq
    simp only [eV, Option.some.injEq] at he
    subst he
    have hq : c.args.toList.map (valOf s) = _ := hq
    rw [hq] at hargs
    generalize hys : c.args.toList.map a.eval = ys at hargs
    match ys, hargs with
    | [y1, y2], hargs =>
      obtain rfl := cv_v hargs.1
      obtain rfl := cv_v hargs.2.1
      refine fin_v R rfl ?_ hK
      rw [hrun _ hys]
      simp only [builtin, Sem.run_bind, Builtin.max_, List.foldlM_cons, List.foldlM_nil, Builtin.max2, iimax]
      rfl
  · -- len
    rename_i args tys cv t hq htys
    have hq : c.args.toList.map (valOf s) = _ := hq
    have ht : c.argTypes = #[t] := by apply Array.ext'; simpa using htys
    rw [hq] at hargs
    generalize hys : c.args.toList.map a.eval = ys at hargs
    match ys, hargs with
    | [y1], hargs =>
      have h1 := hargs.1
      have run1 : (execOp a.eval o).run P w = ((Builtin.len_ #[t] o.type #[y1]).run P w).andThen fun v w' => .ok (.value v) w' := by
        rw [hrun _ hys, ht]
        simp only [builtin, Sem.run_bind, Sem.run_pure]
      split at he <;> try (simp at he; done)
      · rename_i b _ _ _ _
        have hu : P.underlying t = some .string := by assumption
        simp only [eV, Option.some.injEq] at he
        subst he
        obtain rfl := cv_v h1
        refine fin_v R rfl ?_ hK
        rw [run1, run_len_string (h := hu)]; rfl
      · rename_i e' _ _ _ _
        have hu := ‹P.underlying t = some _›
        simp only [eV, Option.some.injEq] at he
        subst he
        obtain rfl := cv_v h1
        refine fin_v R rfl ?_ hK
        rw [run1]; simp [Builtin.len_, run_underlying hu, goInt]
      · rename_i e' m n _ _ _
        have hu := ‹P.underlying t = some _›
        simp only [eV, Option.some.injEq] at he
        subst he
        obtain ⟨ad, cc, hy⟩ : ∃ ad cc, y1 = .slice ad n.toNat cc := by
          obtain ⟨_, _, _, ⟨h, rfl⟩ | ⟨b, c, h⟩⟩ := h1
          · exact ⟨_, _, h⟩
          · exact ⟨_, _, h⟩
        have h0 : 0 ≤ n := h1.2.2.1
        refine fin_v R rfl ?_ hK
        rw [run1, hy]; simp [Builtin.len_, run_underlying hu, goInt]; omega
      · rename_i e' z n r _ _ _
        have hu := ‹P.underlying t = some _›
        simp only [eV, Option.some.injEq] at he
        subst he
        have h1 : Rep E.F w (.slc z n r) y1 := h1
        refine fin_v R rfl ?_ hK
        rw [run1]
        rcases h1.news with ⟨rfl, rfl⟩ | ⟨ad, m, cc, news, rfl, rfl, _⟩
        · simp [Builtin.len_, run_underlying hu, goInt]
        · simp [Builtin.len_, run_underlying hu, goInt]
  · -- append
    rename_i args tys av cv t u hq htys
    have hq : c.args.toList.map (valOf s) = _ := hq
    have ht : c.argTypes = #[t, u] := by apply Array.ext'; simpa using htys
    rw [hq] at hargs
    generalize hys : c.args.toList.map a.eval = ys at hargs
    split at he <;> try (simp at he; done)
    rename_i el hu
    split at he <;> try (simp at he; done)
    rename_i zs hz
    split at he <;> try (simp at he; done)
    rename_i hc
    simp only [Bool.and_eq_true, Nat.beq_eq, Nat.blt_eq] at hc
    obtain ⟨⟨htu, hsz⟩, hbz⟩ := hc
    subst htu
    obtain ⟨i, z, hi, hiz, hzc, hzl, hzp⟩ := zeroL_spec hz
    have hs : sizeT P el = i.size := by simp [sizeT, hi]
    have hby : bytesT P el = i.bytes := by simp [bytesT, hi]
    rw [hs] at hsz
    rw [hby] at hbz
    have hzs : z.cells.size = i.size := by rw [hzc]; simpa using hzl
    match ys, hargs with
    | [y1, y2], hargs =>
      have h1 := hargs.1
      have h2 : ConcC (live s) E w cv y2 := hargs.2.1
      have run1 : (execOp a.eval o).run P w = ((Builtin.append_ #[t, t] o.type #[y1, y2]).run P w).andThen fun v w' => .ok (.value v) w' := by
        rw [hrun _ hys, ht]
        simp only [builtin, Sem.run_bind, Sem.run_pure]
      split at he <;> try (simp at he; done)
      rename_i z2 n2 r2 rd hrow
      split at he <;> try (simp at he; done)
      rename_i hz2
      have hz2 := Nat.eq_of_beq_eq_true hz2
      rw [hs] at hz2
      subst hz2
      -- the appended cells
      have hnews : (y2 = .slice none 0 0 ∧ n2 = 0) ∨ ∃ (ad : Addr) (k c : Nat) (news : List Value), y2 = .slice (some ad) k c ∧ n2 = k ∧ news.length = k * i.size ∧ (∀ j u, news[j]? = some u → w.cell? (ad.add j) = some u) ∧ (∀ u ∈ news, u.oneCell' = true) ∧ RepRow E.F w i.size n2 r2 news := by
        unfold srcA at hrow
        split at hrow
        · rename_i m n
          split at hrow <;> try (simp at hrow; done)
          rename_i z' n' r' hro
          simp only [Option.some.injEq, Prod.mk.injEq] at hrow
          obtain ⟨rfl, rfl, rfl, rfl⟩ := hrow
          rw [h2.2.1]
          exact row_news R hro
        · simp only [Option.some.injEq, Prod.mk.injEq] at hrow
          obtain ⟨rfl, rfl, rfl, rfl⟩ := hrow
          have h2 : Rep E.F w _ y2 := h2
          exact h2.news
        · simp at hrow
      have h20 : 0 ≤ n2 := by rcases hnews with ⟨_, rfl⟩ | ⟨_, k, _, _, _, rfl, _⟩ <;> omega
      -- the append, from a row of n1 elements
      have main : ∀ (n1 : Nat) (xs : List Value) (e0 : TypeId), w.ownsRow base e0 i.size y1 n1 xs → (n1 + n2.toNat) * i.bytes ≤ 140737488355328 → ∃ v' w' news e', (Builtin.append_ #[t, t] o.type #[y1, y2]).run P w = .ok v' w' ∧ w'.ownsRow base e' i.size v' (n1 + n2.toNat) (xs ++ news) ∧ w.grownBy w' y1.ownBlock ∧
          (∀ k, v'.ownBlock = some k → w.heap.size ≤ k ∨ y1.ownBlock = some k) ∧ RepRow E.F w i.size n2 r2 news := by
        intro n1 xs e0 hown hby
        rcases hnews with ⟨rfl, rfl⟩ | ⟨ad, k, cc, news, rfl, rfl, g1, g2, g3, g4⟩
        · refine ⟨y1, w, [], e0, ?_, by simpa using hown, ⟨rfl, rfl, rfl, Nat.le_refl _, fun _ _ _ => rfl⟩, fun k h => Or.inr h, fun i' j h => by omega⟩
          rcases hown.2 with ⟨rfl, rfl⟩ | ⟨g, cap, cur, rfl, _, _, hnc, _⟩
          · simp [Builtin.append_, run_underlying hu, sizeOf, typeInfo, hi, Builtin.lenOf, Builtin.firstCells]
          · simp [Builtin.append_, run_underlying hu, sizeOf, typeInfo, hi, Builtin.lenOf, Builtin.firstCells, hnc, storeCells]
        · have hle := mul_le_of hby hbz
          obtain ⟨v', w', e', e1, e2, e3, e4⟩ := append_at (P := P) w base t o.type el e0 i z hu hi hiz hzs y1 n1 xs hown ad k cc news g1 g2 g3 (by simp only [maxLen]; simp at hle; omega) (by simpa using hby) hb
          exact ⟨v', w', news, e', e1, by simpa using e2, e3, e4, g4⟩
      split at he <;> try (simp at he; done)
      · -- to nothing
        simp only [Option.some.injEq] at he
        subst he
        obtain rfl := cv_v h1
        obtain ⟨hn1, hn2⟩ := hnw rfl
        have hask := hok _ (List.mem_singleton.2 rfl)
        simp only [ile, decide_eq_true_eq, imulZ, hby] at hask
        have hask' : (0 + n2.toNat) * i.bytes ≤ 140737488355328 := by
          have : ((n2.toNat : Nat) : Int) = n2 := by omega
          rw [← this, ← Int.natCast_mul] at hask
          rw [Nat.zero_add]
          omega
        obtain ⟨v', w', news, el', e1, e2, e3, e4, e5⟩ := main 0 [] el (World.ownsRow_nil w base el i.size) hask'
        rw [Nat.zero_add, List.nil_append] at e2
        have hF : ∀ k, E.F k → w'.heap[k]? = w.heap[k]? := fun k hk => e3.block k (R.frz k hk).1 (by simp [Value.ownBlock])
        obtain ⟨⟨E', R'⟩, kp⟩ := R.new_row hb hn1 hn2 e3 (u := []) (Or.inl ⟨rfl, rfl⟩) (r := r2) hsz h20 e2 (fun i' j h h' => by obtain ⟨u, q1, q2⟩ := e5 i' j h h'; exact ⟨u, q1, q2.mono (fun _ h => h) hF⟩) (fun k hk => e4 k hk) o.dst p li gen
        unfold Oper.wp
        rw [run1, e1]
        exact hK E' _ _ R' kp
      · -- to a row of one's own
        rename_i m nn _ _
        split at he <;> try (simp at he; done)
        rename_i z' n' r' hro
        split at he <;> try (simp at he; done)
        rename_i hz'
        have hz' := Nat.eq_of_beq_eq_true hz'
        subst hz'
        simp only [Option.some.injEq] at he
        subst he
        obtain ⟨hn1, hn2⟩ := hnw rfl
        unfold rowW at hro
        split at hro <;> try (simp at hro; done)
        rename_i z3 n3 r3 hm
        simp only [Option.some.injEq, Prod.mk.injEq] at hro
        obtain ⟨hq1, rfl, rfl⟩ := hro
        rw [hq1] at hm
        obtain ⟨_, k0, hz0, hnF, el', xs, ho', hr⟩ := R.mem m _ hm
        have hy1 : y1 = E.ν m := h1.2.1
        have hask := hok _ (List.mem_singleton.2 rfl)
        simp only [ile, decide_eq_true_eq, imulZ, hby, addZ] at hask
        have hask' : (n3.toNat + n2.toNat) * i.bytes ≤ 140737488355328 := by
          have : n3 + n2 = ((n3.toNat + n2.toNat : Nat) : Int) := by omega
          rw [this, ← Int.natCast_mul] at hask
          omega
        obtain ⟨v', w', news, el2, e1, e2, e3, e4, e5⟩ := main n3.toNat xs el' (by rw [hy1]; exact ho') hask'
        rw [hy1] at e3 e4
        have hF : ∀ k, E.F k → w'.heap[k]? = w.heap[k]? := fun k hk => e3.block k (R.frz k hk).1 (fun e => hnF k e.symm hk)
        have e2' : w'.ownsRow base el2 i.size v' (addZ n3 n2).toNat (xs ++ news) := by
          rw [show (addZ n3 n2).toNat = n3.toNat + n2.toNat by unfold addZ; omega]; exact e2
        have hrr := RepRow.app k0 ho'.1 hr e5
        obtain ⟨⟨E', R'⟩, kp⟩ := R.new_row hb hn1 hn2 e3 (u := [(m, .dead)]) (Or.inr ⟨m, _, _, _, hm, rfl, rfl⟩) (r := .app r3 n3 r2) hsz (by unfold addZ; omega) e2' (fun i' j h h' => by obtain ⟨u, q1, q2⟩ := hrr i' j h h'; exact ⟨u, q1, q2.mono (fun _ h => h) hF⟩) (fun k hk => e4 k hk) o.dst p li gen
        unfold Oper.wp
        rw [run1, e1]
        exact hK E' _ _ R' kp
  · simp at he
end
end Go.Proofs.YtafaadnjkkkafaaDoor.QR
