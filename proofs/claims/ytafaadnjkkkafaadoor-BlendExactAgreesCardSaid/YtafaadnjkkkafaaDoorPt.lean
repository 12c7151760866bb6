/-
  Soundness of the pure way of running operations: one operation of a region, whatever kind it is of.
-/
import Derived.Test.YtafaadnjkkkafaaDoorPs
namespace Go.Proofs.YtafaadnjkkkafaaDoor.PR
open Go.RowKit
set_option linter.unusedVariables false
set_option linter.unusedSimpArgs false

section
variable {P : Program} {O : Oracle} {base : Nat} {β : Nat → Nat} {s : PSt} {a : Act} {w : World} {o : Oper}

theorem wp_value {v : Value} (h : (execOp a.eval o).run P w = .ok (.value v) w) {K : Act → World → Prop} {Q : Exit → Act → World → Prop} (hK : K (a.put o.dst v) w) : o.wp P a w K Q := by
  unfold Oper.wp; rw [h]; exact hK
theorem wp_done {v : Value} (h : (execOp a.eval o).run P w = .ok (.value v) w) {v' : Value} (e : v = v') {K : Act → World → Prop} {Q : Exit → Act → World → Prop} (hK : ∀ w', Below w.heap.size w w' → K (a.put o.dst v') w') : o.wp P a w K Q := by
  subst e; exact wp_value h (hK w (Below.refl _ _))

theorem cells_c (v : Value) (h : plainC v = true) : conc β v = v := conc_plainC h

theorem conc_binV {op : BinOp} {t : TypeId} {x y : Value} {r : Value × List Bool} (h : binV P op t x y = some r) : conc β x = x ∧ conc β y = y := by
  unfold binV at h
  split at h
  · exact ⟨rfl, rfl⟩
  · exact ⟨rfl, rfl⟩
  · exact ⟨rfl, rfl⟩
  · exact ⟨rfl, rfl⟩
  · simp at h

theorem call_args (R : Rel base β s a w) {c : Call} (ho : o.op = .call c) (hk : knownOf s o = true) (hp : (c.args.toList.map (valOf s)).all plainC = true) : c.args.map a.eval = (c.args.toList.map (valOf s)).toArray := by
  unfold knownOf at hk
  rw [ho] at hk
  apply Array.ext'
  simp only [Array.toList_map]
  apply List.map_congr_left
  intro x hx
  have k := allOf_mem hk (List.mem_map_of_mem hx)
  rw [(R.eval x k).1]
  exact conc_plainC (List.all_eq_true.1 hp _ (List.mem_map_of_mem hx))

theorem effect_val (hO : OSound P O) (R : Rel base β s a w) {v : Value} {b : List Bool} {rd : Option Nat} (h : effect P O s o = some (.val v b rd)) (hk : knownOf s o = true) (hb : ∀ c ∈ b, c = true) :
    wfV s v ∧ ∀ (K : Act → World → Prop) (Q : Exit → Act → World → Prop), (∀ w', Below w.heap.size w w' → K (a.put o.dst (conc β v)) w') → o.wp P a w K Q := by
  have kn : (∀ c u v, o.op ≠ .pick c u v) → (∀ c, o.op ≠ .call c) → ∀ x ∈ o.op.operands.toList, a.eval x = conc β (valOf s x) ∧ wfV s (valOf s x) :=
    fun hp hc x hx => R.eval x (known_all (o := o) hp hc hk hx)
  unfold effect at h
  split at h
  · -- move
    rename_i x ho
    simp only [Option.some.injEq, Eff.val.injEq] at h
    obtain ⟨rfl, rfl, rfl⟩ := h
    obtain ⟨e, wf⟩ := kn (by simp [ho]) (by simp [ho]) x (by simp [ho, Op.operands])
    exact ⟨wf, fun K Q hK => wp_done (by simp [execOp, ho]) e hK⟩
  · -- assign
    rename_i x ho
    simp only [Option.some.injEq, Eff.val.injEq] at h
    obtain ⟨rfl, rfl, rfl⟩ := h
    obtain ⟨e, wf⟩ := kn (by simp [ho]) (by simp [ho]) x (by simp [ho, Op.operands])
    exact ⟨wf, fun K Q hK => wp_done (by simp [execOp, ho]) e hK⟩
  · -- pick
    rename_i c x y ho
    unfold knownOf at hk
    rw [ho] at hk
    split at h
    · rename_i ht
      simp only [Option.some.injEq, Eff.val.injEq] at h
      obtain ⟨rfl, rfl, rfl⟩ := h
      simp only [ht, Bool.and_eq_true] at hk
      have hc := (R.eval c hk.1).1
      have ht' : (operand s c).v = .bool true := ht
      rw [ht', conc_bool] at hc
      obtain ⟨hy, wf⟩ := R.eval x hk.2
      exact ⟨wf, fun K Q hK => wp_done (v := a.eval x) (by simp [execOp, ho, hc, asBool]) hy hK⟩
    · rename_i ht
      simp only [Option.some.injEq, Eff.val.injEq] at h
      obtain ⟨rfl, rfl, rfl⟩ := h
      simp only [ht, Bool.and_eq_true] at hk
      have hc := (R.eval c hk.1).1
      have ht' : (operand s c).v = .bool false := ht
      rw [ht', conc_bool] at hc
      obtain ⟨hy, wf⟩ := R.eval y hk.2
      exact ⟨wf, fun K Q hK => wp_done (v := a.eval y) (by simp [execOp, ho, hc, asBool]) hy hK⟩
    · simp at h
  · -- alloc
    split at h <;> try (simp at h; done)
    split at h <;> try (simp at h; done)
  · -- box
    split at h <;> simp at h
  · -- load
    rename_i t x ho
    obtain ⟨e, wf⟩ := kn (by simp [ho]) (by simp [ho]) x (by simp [ho, Op.operands])
    split at h <;> try (simp at h; done)
    rename_i n off hp
    rw [hp] at e
    split at h <;> try (simp at h; done)
    rename_i cells hm
    obtain ⟨el, hm⟩ := (R.mem n cells hm).2
    have e : a.eval x = .pointer (some ⟨β n, off, none⟩) := e
    split at h
    · rename_i hag
      split at h <;> try (simp at h; done)
      rename_i hl
      simp only [Option.some.injEq, Eff.val.injEq] at h
      obtain ⟨rfl, rfl, rfl⟩ := h
      simp only [Bool.and_eq_true, decide_eq_true_eq] at hl
      refine ⟨trivial, fun K Q hK => wp_done ?_ rfl hK⟩
      simp only [execOp, ho, e, Sem.run_bind, run_load_part (P := P) (β n) off el t cells hm hag hl.1 hl.2]
      rfl
    · rename_i hag
      split at h <;> try (simp at h; done)
      rename_i u hu
      split at h <;> try (simp at h; done)
      rename_i hc
      simp only [Option.some.injEq, Eff.val.injEq] at h
      obtain ⟨rfl, rfl, rfl⟩ := h
      simp only [Bool.and_eq_true] at hc
      refine ⟨wf_plainA hc.2, fun K Q hK => wp_done ?_ (conc_plainA hc.2).symm hK⟩
      simp only [execOp, ho, e, Sem.run_bind, run_load_cell (P := P) (β n) off el t cells u hm (by simpa using hag) hc.1 hu]
      rfl
  · -- store
    split at h <;> try (simp at h; done)
    split at h <;> try (simp at h; done)
  · -- binOp
    rename_i op t x y yt ho
    obtain ⟨e1, _⟩ := kn (by simp [ho]) (by simp [ho]) x (by simp [ho, Op.operands])
    obtain ⟨e2, _⟩ := kn (by simp [ho]) (by simp [ho]) y (by simp [ho, Op.operands])
    split at h <;> try (simp at h; done)
    rename_i u b' hv
    simp only [Option.some.injEq, Eff.val.injEq] at h
    obtain ⟨rfl, rfl, rfl⟩ := h
    obtain ⟨r, hp⟩ := run_binV hv hb x y w
    obtain ⟨c1, c2⟩ := conc_binV (β := β) hv
    refine ⟨wf_plainA hp, fun K Q hK => wp_done ?_ (conc_plainA hp).symm hK⟩
    rw [c1] at e1; rw [c2] at e2
    simp only [execOp, ho, e1, e2]
    rw [Sem.run_bind, r]
    rfl
  · -- unOp
    rename_i op t x ho
    obtain ⟨e1, _⟩ := kn (by simp [ho]) (by simp [ho]) x (by simp [ho, Op.operands])
    split at h <;> try (simp at h; done)
    rename_i u b' hv
    simp only [Option.some.injEq, Eff.val.injEq] at h
    obtain ⟨rfl, rfl, rfl⟩ := h
    obtain ⟨r, hp⟩ := run_unV hv w (P := P)
    have c1 : conc β (valOf s x) = valOf s x := by
      unfold unV at hv; split at hv <;> first | (simp at hv; done) | (rename_i q1; rw [q1]; rfl)
    rw [c1] at e1
    refine ⟨wf_plainA hp, fun K Q hK => wp_done ?_ (conc_plainA hp).symm hK⟩
    simp only [execOp, ho, e1, Sem.run_bind, r]
    rfl
  · -- convert
    rename_i src dst x ho
    obtain ⟨e1, _⟩ := kn (by simp [ho]) (by simp [ho]) x (by simp [ho, Op.operands])
    split at h <;> try (simp at h; done)
    · rename_i k n d k' q1 q2 q3
      simp only [Option.some.injEq, Eff.val.injEq] at h
      obtain ⟨rfl, rfl, rfl⟩ := h
      rw [q1, conc_int] at e1
      have hd : P.intKind dst = k' := by simp [Program.intKind, q3]
      have r := run_convert_int (P := P) w src dst k n (by simp [q2]) (by rw [hd]; exact q3)
      rw [hd] at r
      refine ⟨trivial, fun K Q hK => wp_done ?_ rfl hK⟩
      simp only [execOp, ho, e1, Sem.run_bind, r]
      rfl
    · rename_i k n d k' q1 q2 q3
      simp only [Option.some.injEq, Eff.val.injEq] at h
      obtain ⟨rfl, rfl, rfl⟩ := h
      rw [q1, conc_int] at e1
      have r := run_convert_int_float (P := P) w src dst k k' n (by simp [q2]) q3
      refine ⟨trivial, fun K Q hK => wp_done ?_ rfl hK⟩
      simp only [execOp, ho, e1, Sem.run_bind, r]
      rfl
  · -- fieldAddr
    rename_i t x f ho
    obtain ⟨e1, wf⟩ := kn (by simp [ho]) (by simp [ho]) x (by simp [ho, Op.operands])
    split at h <;> try (simp at h; done)
    rename_i n off fs q1 q2
    split at h <;> try (simp at h; done)
    rename_i fd q3
    split at h <;> try (simp at h; done)
    rename_i q4
    simp only [Option.some.injEq, Eff.val.injEq] at h
    obtain ⟨rfl, rfl, rfl⟩ := h
    rw [q1] at e1 wf
    have e1 : a.eval x = .pointer (some ⟨β n, off, none⟩) := e1
    refine ⟨wf, fun K Q hK => wp_done (v := .pointer (some ⟨β n, off + fd.offset, none⟩)) ?_ rfl hK⟩
    simp only [beq_iff_eq] at q4
    have hz : (sizeOf fd.type).run P w = .ok (sizeT P fd.type) w := by
      unfold sizeT at *
      cases hi : P.info? fd.type with
      | none => simp [hi] at q4
      | some i => simp [sizeOf, typeInfo, hi]
    simp only [execOp, ho, e1, Sem.run_bind, Instr.fieldAt, run_underlying q2, Result.andThen_ok, q3, Instr.sureAddr, Sem.run_pure, fieldPlace, hz, q4, if_false, Addr.add_lit]
  · -- extract
    rename_i x i ho
    obtain ⟨e1, wf⟩ := kn (by simp [ho]) (by simp [ho]) x (by simp [ho, Op.operands])
    split at h <;> try (simp at h; done)
    rename_i vs q1
    split at h <;> try (simp at h; done)
    rename_i u q2
    split at h <;> try (simp at h; done)
    rename_i q3
    simp only [Option.some.injEq, Eff.val.injEq] at h
    obtain ⟨rfl, rfl, rfl⟩ := h
    rw [q1, conc_tuple] at e1
    refine ⟨wf_plainC q3, fun K Q hK => wp_done ?_ (conc_plainC q3).symm hK⟩
    have q2 : vs[i]? = some u := by simpa using q2
    simp only [execOp, ho, e1, Sem.run_bind, Instr.extract, q2]
    rfl
  · -- call
    rename_i c ho
    split at h <;> try (simp at h; done)
    · -- min
      rename_i hf
      split at h <;> try (simp at h; done)
      rename_i k x l y q1
      simp only [Option.some.injEq, Eff.val.injEq] at h
      obtain ⟨rfl, rfl, rfl⟩ := h
      have hargs := call_args R ho hk (by rw [q1]; rfl)
      rw [q1] at hargs
      refine ⟨trivial, fun K Q hK => wp_done ?_ rfl hK⟩
      simp only [execOp, ho, resolve, hf, Sem.run_bind, Sem.run_pure, Result.andThen_ok, invoke, builtin, hargs, Builtin.min_, List.foldlM_cons, List.foldlM_nil, Builtin.min2, iimin]
      rfl
    · -- max
      rename_i hf
      split at h <;> try (simp at h; done)
      rename_i k x l y q1
      simp only [Option.some.injEq, Eff.val.injEq] at h
      obtain ⟨rfl, rfl, rfl⟩ := h
      have hargs := call_args R ho hk (by rw [q1]; rfl)
      rw [q1] at hargs
      refine ⟨trivial, fun K Q hK => wp_done ?_ rfl hK⟩
      simp only [execOp, ho, resolve, hf, Sem.run_bind, Sem.run_pure, Result.andThen_ok, invoke, builtin, hargs, Builtin.max_, List.foldlM_cons, List.foldlM_nil, Builtin.max2, iimax]
      rfl
    · -- a function
      split at h <;> try (simp at h; done)
      rename_i f hf
      split at h <;> try (simp at h; done)
      rename_i hp
      split at h <;> try (simp at h; done)
      rename_i u b' hO'
      split at h <;> try (simp at h; done)
      rename_i hu
      simp only [Option.some.injEq, Eff.val.injEq] at h
      obtain ⟨rfl, rfl, rfl⟩ := h
      have hargs := call_args R ho hk hp
      refine ⟨wf_plainT hu, fun K Q hK => ?_⟩
      have D := hO f _ u _ hO' hb w
      have hr : (execOp a.eval o).run P w = (callFunc f (c.args.toList.map (valOf s)).toArray).run P w := by
        unfold calleeOf at hf
        split at hf <;> try (simp at hf; done)
        rename_i x hx
        split at hf <;> try (simp at hf; done)
        rename_i g hg
        simp only [Option.some.injEq] at hf
        subst hf
        have he := (R.eval x (by rw [hg])).1
        rw [hg] at he
        simp only [execOp, ho, resolve, hx, he, conc, Deferred.ofValue, Sem.run_bind, Sem.run_pure, Result.andThen_ok, invoke, hargs]
        simp
      unfold Oper.wp
      rw [hr]
      rw [conc_plainT hu] at hK
      rcases D with ⟨w', r, hb⟩ | ⟨r, C⟩
      · rw [r]; exact hK w' hb
      · rw [r]
        refine Calls.mono C ?_
        rintro e w' ⟨rfl, hb⟩
        exact hK w' hb
  · -- build
    rename_i t parts ho
    split at h <;> try (simp at h; done)
    rename_i hp
    split at h <;> try (simp at h; done)
    rename_i cells hc
    simp only [Option.some.injEq, Eff.val.injEq] at h
    obtain ⟨rfl, rfl, rfl⟩ := h
    have hargs : parts.map (fun (i, x) => (i, a.eval x)) = (parts.toList.map fun p => (p.1, valOf s p.2)).toArray := by
      apply Array.ext'
      simp only [Array.toList_map]
      apply List.map_congr_left
      intro p hpm
      obtain ⟨e, _⟩ := kn (by simp [ho]) (by simp [ho]) p.2 (by simp only [ho, Op.operands]; exact List.mem_map_of_mem hpm)
      rw [e, conc_plainC (List.all_eq_true.1 hp _ (List.mem_map_of_mem hpm))]
    refine ⟨trivial, fun K Q hK => wp_done ?_ rfl hK⟩
    have r := run_build (P := P) w t (parts.toList.map fun p => (p.1, valOf s p.2)).toArray cells hc
    simp only [execOp, ho, hargs, Sem.run_bind, r]
    rfl
  · -- field
    rename_i t x f ho
    obtain ⟨e1, _⟩ := kn (by simp [ho]) (by simp [ho]) x (by simp [ho, Op.operands])
    split at h <;> try (simp at h; done)
    rename_i cs fs q1 q2
    split at h <;> try (simp at h; done)
    rename_i fd q3
    split at h <;> try (simp at h; done)
    rename_i u q4
    split at h <;> try (simp at h; done)
    rename_i q5
    simp only [Option.some.injEq, Eff.val.injEq] at h
    obtain ⟨rfl, rfl, rfl⟩ := h
    rw [q1, conc_agg] at e1
    refine ⟨wf_plainC q5, fun K Q hK => wp_done ?_ (conc_plainC q5).symm hK⟩
    simp only [execOp, ho, e1, Sem.run_bind, Instr.field, run_underlying q2, Result.andThen_ok, q3, asAgg, Sem.run_pure, run_partV q4]
  · -- index
    rename_i t x i ho
    obtain ⟨e1, _⟩ := kn (by simp [ho]) (by simp [ho]) x (by simp [ho, Op.operands])
    obtain ⟨e2, _⟩ := kn (by simp [ho]) (by simp [ho]) i (by simp [ho, Op.operands])
    split at h <;> try (simp at h; done)
    rename_i cs k m len e q1 q2 q3
    split at h <;> try (simp at h; done)
    rename_i u q4
    split at h <;> try (simp at h; done)
    rename_i q5
    simp only [Option.some.injEq, Eff.val.injEq] at h
    obtain ⟨rfl, rfl, rfl⟩ := h
    simp only [List.mem_cons, List.not_mem_nil, or_false, forall_eq_or_imp, forall_eq, ile, ilt, decide_eq_true_eq] at hb
    rw [q1, conc_agg] at e1
    rw [q2, conc_int] at e2
    have hz : (sizeOf e).run P w = .ok (sizeT P e) w := by
      unfold partV at q4
      split at q4
      · rename_i i' d hi hu; simp [sizeOf, typeInfo, sizeT, hi]
      · simp at q4
    refine ⟨wf_plainC q5, fun K Q hK => wp_done ?_ (conc_plainC q5).symm hK⟩
    simp only [execOp, ho, e1, e2, Sem.run_bind, Instr.index, asIntOf, Sem.run_pure, run_underlying q3, Result.andThen_ok, hb.1, hb.2, and_self, if_true, hz, run_partV q4]
  · -- indexAddr
    rename_i t x i ho
    obtain ⟨e1, wf⟩ := kn (by simp [ho]) (by simp [ho]) x (by simp [ho, Op.operands])
    obtain ⟨e2, _⟩ := kn (by simp [ho]) (by simp [ho]) i (by simp [ho, Op.operands])
    split at h <;> try (simp at h; done)
    rename_i n off k m len e q1 q2 q3
    split at h <;> try (simp at h; done)
    rename_i q4
    simp only [Option.some.injEq, Eff.val.injEq] at h
    obtain ⟨rfl, rfl, rfl⟩ := h
    simp only [List.mem_cons, List.not_mem_nil, or_false, forall_eq_or_imp, forall_eq, ile, ilt, decide_eq_true_eq] at hb
    rw [q1] at e1 wf
    have e1 : a.eval x = .pointer (some ⟨β n, off, none⟩) := e1
    rw [q2, conc_int] at e2
    obtain ⟨ie, q4⟩ := Option.isSome_iff_exists.1 q4
    have hz : (sizeOf e).run P w = .ok (sizeT P e) w := by simp [sizeOf, typeInfo, sizeT, q4]
    refine ⟨wf, fun K Q hK => wp_done (v := .pointer (some ⟨β n, off + m.toNat * sizeT P e, none⟩)) ?_ rfl hK⟩
    simp only [execOp, ho, e1, e2, Sem.run_bind, Instr.indexAt, asIntOf, Sem.run_pure, run_underlying q3, Result.andThen_ok, Instr.sureAddr, hb.1, hb.2, and_self, if_true, hz, Addr.add_lit]
  · simp at h

theorem effect_new (R : Rel base β s a w) {t : TypeId} {cells : List Value} (h : effect P O s o = some (.new t cells)) (hk : knownOf s o = true) :
    (execOp a.eval o).run P w = .ok (.value (.pointer (some ⟨w.heap.size, 0, none⟩))) (w.alloc (.cells cells.toArray t)) := by
  have kn : (∀ c u v, o.op ≠ .pick c u v) → (∀ c, o.op ≠ .call c) → ∀ x ∈ o.op.operands.toList, a.eval x = conc β (valOf s x) ∧ wfV s (valOf s x) :=
    fun hp hc x hx => R.eval x (known_all (o := o) hp hc hk hx)
  unfold effect at h
  split at h
  · simp at h
  · simp at h
  · split at h <;> simp at h
  · -- alloc
    rename_i t' ho
    split at h <;> try (simp at h; done)
    rename_i i hi
    split at h <;> try (simp at h; done)
    rename_i z hz
    split at h <;> try (simp at h; done)
    simp only [Option.some.injEq, Eff.new.injEq] at h
    obtain ⟨rfl, rfl⟩ := h
    simp [execOp, ho, Instr.alloc, zeroValue, typeInfo, hi, hz, newVar, newRow]
  · -- box
    rename_i t' x ho
    obtain ⟨e, _⟩ := kn (by simp [ho]) (by simp [ho]) x (by simp [ho, Op.operands])
    split at h <;> try (simp at h; done)
    rename_i hp
    simp only [Bool.and_eq_true] at hp
    simp only [Option.some.injEq, Eff.new.injEq] at h
    obtain ⟨rfl, rfl⟩ := h
    rw [conc_plainC hp.1] at e
    simp [execOp, ho, e, Instr.box, newVar, newRow]
  all_goals
    repeat' (split at h <;> try (simp at h; done))
  all_goals try (simp at h; done)

theorem effect_put (R : Rel base β s a w) {n : Nat} {cells : List Value} (h : effect P O s o = some (.put n cells)) (hk : knownOf s o = true) :
    (∃ old, s.mem n = some old) ∧ (execOp a.eval o).run P w = .ok .skip (w.setRow (β n) cells.toArray) := by
  have kn : (∀ c u v, o.op ≠ .pick c u v) → (∀ c, o.op ≠ .call c) → ∀ x ∈ o.op.operands.toList, a.eval x = conc β (valOf s x) ∧ wfV s (valOf s x) :=
    fun hp hc x hx => R.eval x (known_all (o := o) hp hc hk hx)
  unfold effect at h
  split at h
  · simp at h
  · simp at h
  · split at h <;> simp at h
  · split at h <;> try (simp at h; done)
    split at h <;> try (simp at h; done)
  · split at h <;> simp at h
  · repeat' (split at h <;> try (simp at h; done))
  · -- store
    rename_i t' x y ho
    obtain ⟨e1, _⟩ := kn (by simp [ho]) (by simp [ho]) x (by simp [ho, Op.operands])
    obtain ⟨e2, _⟩ := kn (by simp [ho]) (by simp [ho]) y (by simp [ho, Op.operands])
    split at h <;> try (simp at h; done)
    rename_i n' off q1
    split at h <;> try (simp at h; done)
    rename_i old q2
    split at h <;> try (simp at h; done)
    rename_i q3
    simp only [Bool.and_eq_true, beq_iff_eq, decide_eq_true_eq] at q3
    obtain ⟨⟨⟨⟨p1, p2⟩, p3⟩, p4⟩, p5⟩ := q3
    simp only [Option.some.injEq, Eff.put.injEq] at h
    obtain ⟨rfl, rfl⟩ := h
    obtain ⟨el, hg⟩ := (R.mem n' old q2).2
    rw [conc_plainC p1] at e2
    rw [q1] at e1
    have e1 : a.eval x = .pointer (some ⟨β n', off, none⟩) := e1
    refine ⟨⟨old, q2⟩, ?_⟩
    simp only [execOp, ho, e1, e2, Sem.run_bind, run_store_part (P := P) (β n') off el t' old (valOf s y) hg p2 p3 p4 p5]
    rfl
  all_goals
    repeat' (split at h <;> try (simp at h; done))
  all_goals try (simp at h; done)

theorem guard_sound (R : Rel base β s a w) {ops : Array Oper} {γ : Bool} (h : guardOf s ops.toList o = some γ) : Region.wanted o (yielded ops a.tmps) = γ := by
  unfold guardOf at h
  unfold Region.wanted
  split at h
  · rename_i hg
    simp only [Option.some.injEq] at h
    rw [hg]; exact h
  · rename_i j want hg
    rw [hg]
    simp only
    split at h <;> try (simp at h; done)
    rename_i d hd
    have hd : (ops[j]?).bind (·.dst) = some d := by simpa using hd
    unfold yielded
    rw [hd]
    split at h <;> try (simp at h; done)
    · rename_i b hs
      simp only [Option.some.injEq] at h
      have h1 := R.slots d _ hs rfl
      simp only [Option.bind_some, h1]
      subst h
      cases b <;> cases want <;> rfl
    · rename_i vs hs
      simp only [Option.some.injEq] at h
      have h1 := R.slots d _ hs rfl
      simp only [Option.bind_some, h1]
      subst h
      simp [conc]

theorem below_setRow (w : World) (g : Nat) (cs : Array Value) (base : Nat) (h : base ≤ g) : Below base w (w.setRow g cs) :=
  ⟨rfl, rfl, rfl, by simp [World.setRow], fun k hk => setRow_other w g k cs (by omega)⟩

theorem step_sound (hO : OSound P O) (R : Rel base β s a w) (hb : base ≤ w.heap.size) {ops : Array Oper} {i name : Nat} (ho : ops[i]? = some o) {d : Delta} (h : stepD P O ops.toList name o s = some d) (hok : (applyD o.dst d s).ok)
    {K : Act → World → Prop} {Q : Exit → Act → World → Prop} (hK : ∀ β' a' w', Rel base β' (applyD o.dst d s) a' w' → Below base w w' → K a' w') : wpOp P ops Q i K a w := by
  unfold wpOp
  rw [ho]
  simp only
  unfold stepD at h
  split at h <;> try (simp at h; done)
  · rename_i hγ
    rw [guard_sound R hγ]
    simp only [Option.some.injEq] at h
    subst h
    simp only [Bool.false_eq_true, if_false]
    exact hK β _ _ (R.put o.dst _ undef (fun _ => rfl) (fun _ => by simp [gnow, wfV, undef]) _) (Below.refl _ _)
  · rename_i hγ
    rw [guard_sound R hγ]
    simp only [if_true]
    refine Or.inl ?_
    split at h <;> try (simp at h; done)
    rename_i hk
    split at h <;> try (simp at h; done)
    · -- a value
      rename_i v b rd he
      simp only [Option.some.injEq] at h
      subst h
      simp only [applyD, conjL_iff] at hok
      obtain ⟨wf, W⟩ := effect_val hO R he hk hok.1
      refine W _ _ fun w' hbw => hK β _ _ ((R.below hbw).put o.dst _ _ (fun _ => rfl) (fun _ => wf) _) (hbw.mono hb)
    · -- a new block
      rename_i t cells he
      split at h <;> try (simp at h; done)
      rename_i hg
      simp only [Option.some.injEq] at h
      subst h
      have R' := R.alloc hb name hg t cells
      have fin : K (a.put o.dst (.pointer (some ⟨w.heap.size, 0, none⟩))) (w.alloc (.cells cells.toArray t)) := by
        refine hK _ _ _ (Rel.put R' o.dst (gnow (.pointer (some ⟨name, 0, none⟩))) _ (fun _ => ?_) (fun _ => ?_) _) ((Below.refl base w).alloc hb _)
        · simp [gnow, conc]
        · simp [gnow, wfV]
      unfold Oper.wp
      rw [effect_new R he hk]
      exact fin
    · -- a store
      rename_i n cells he
      simp only [Option.some.injEq] at h
      subst h
      obtain ⟨⟨old, hm⟩, hr⟩ := effect_put R he hk
      unfold Oper.wp
      rw [hr]
      have R' := R.store n old cells hm
      exact hK _ _ _ (Rel.put R' o.dst (gnow undef) undef (fun _ => by simp [gnow, conc, undef]) (fun _ => by simp [gnow, wfV, undef]) _) (below_setRow _ _ _ _ (R.mem n old hm).1)
end
end Go.Proofs.YtafaadnjkkkafaaDoor.PR
