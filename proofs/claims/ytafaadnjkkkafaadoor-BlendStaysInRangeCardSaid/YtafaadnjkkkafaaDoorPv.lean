/-
  Soundness of the pure way of running operations: a region that draws its order.
-/
import Derived.Test.YtafaadnjkkkafaaDoorPu
namespace Go.Proofs.YtafaadnjkkkafaaDoor.PR
open Go.RowKit
set_option linter.unusedVariables false
set_option linter.unusedSimpArgs false

theorem maskOf_bit {tab : List Nat} {a : Nat} : ∀ {ds : List Nat}, Nat.testBit (maskOf tab ds) a = true → ∃ d ∈ ds, a = d ∨ Nat.testBit (tab.getD d 0) a = true
  | [], h => by simp [maskOf] at h
  | d :: ds, h => by
    unfold maskOf at h
    have h : Nat.testBit ((1 <<< d ||| tab.getD d 0) ||| maskOf tab ds) a = true := h
    rw [Nat.testBit_or, Nat.testBit_or, Bool.or_eq_true, Bool.or_eq_true] at h
    rcases h with (h | h) | h
    · refine ⟨d, by simp, Or.inl ?_⟩
      rw [Nat.shiftLeft_eq, Nat.one_mul, Nat.testBit_two_pow] at h
      simp at h; exact h.symm
    · exact ⟨d, by simp, Or.inr h⟩
    · obtain ⟨e, he, h⟩ := maskOf_bit h
      exact ⟨e, by simp [he], h⟩

section
variable {ops : List Oper}

theorem masks_spec {L : Nat → Prop} (hc : ∀ (j : Nat) (o : Oper), ops[j]? = some o → L j → ∀ d ∈ deps o, L d) :
    ∀ (rest : List Oper) (tab : List Nat), (∀ k o, rest[k]? = some o → ops[tab.length + k]? = some o) → (tab.length + rest.length = ops.length) →
      (∀ (j : Nat) (o : Oper), j < tab.length → ops[j]? = some o → (∀ d ∈ deps o, L d) → ∀ a, Nat.testBit (tab.getD j 0) a = true → L a) →
      ∀ (j : Nat) (o : Oper), ops[j]? = some o → (∀ d ∈ deps o, L d) → ∀ a, Nat.testBit ((masks tab rest).getD j 0) a = true → L a
  | [], tab, _, hl, h, j, o, ho => h j o (by
      have := (List.getElem?_eq_some_iff.1 ho).1
      simp at hl; omega) ho
  | x :: rest, tab, hx, hl, h, j, o, ho => by
    unfold masks
    refine masks_spec hc rest _ (fun k o hk => ?_) (by simp at hl ⊢; omega) (fun j o hj ho hd a ha => ?_) j o ho
    · have := hx (k + 1) o (by simpa using hk)
      rw [List.length_append, List.length_singleton, Nat.add_assoc, Nat.add_comm 1 k]; exact this
    · by_cases e : j < tab.length
      · rw [List.getD_eq_getElem?_getD, List.getElem?_append_left e, ← List.getD_eq_getElem?_getD] at ha
        exact h j o e ho hd a ha
      · have e : j = tab.length := by simp at hj; omega
        subst e
        rw [List.getD_eq_getElem?_getD, List.getElem?_concat_length] at ha
        have hox : ops[tab.length]? = some x := hx 0 x rfl
        rw [ho] at hox
        obtain rfl : o = x := by simpa using hox
        obtain ⟨d, hdm, hd'⟩ := maskOf_bit ha
        rcases hd' with rfl | hb
        · exact hd _ hdm
        · by_cases hlt : d < tab.length
          · obtain ⟨od, hod⟩ : ∃ od, ops[d]? = some od := ⟨_, List.getElem?_eq_getElem (by omega)⟩
            exact h d od hlt hod (hc d od hod (hd d hdm)) a hb
          · rw [List.getD_eq_getElem?_getD, List.getElem?_eq_none (by omega)] at hb
            simp at hb

theorem masks_length : ∀ (rest : List Oper) (tab : List Nat), (masks tab rest).length = tab.length + rest.length
  | [], tab => rfl
  | x :: rest, tab => by unfold masks; rw [masks_length]; simp; omega

theorem aheadOf_spec {m : Nat} {y : Row} : ∀ (l : List Row) (i : Nat), aheadOf m y i l = true → ∀ k x, l[k]? = some x → Nat.testBit m (i + k) = true ∨ (apart x.looks y.looks x.dst y.dst = true ∧ x.d.conf y.d = false)
  | [], i, _, k, x, hx => by simp at hx
  | z :: l, i, h, k, x, hx => by
    unfold aheadOf at h
    simp only [Bool.and_eq_true, Bool.or_eq_true, Bool.not_eq_true'] at h
    cases k with
    | zero => simp at hx; subst hx; exact h.1
    | succ k =>
      have := aheadOf_spec l (i + 1) h.2 k x (by simpa using hx)
      rw [Nat.add_assoc, Nat.add_comm 1 k] at this
      exact this

theorem anyOrder_spec : ∀ (ys : List Row) (ms : List Nat) (done : List Row), anyOrder done ms ys = true → ∀ j y m, ys[j]? = some y → ms[j]? = some m →
      ∀ i x, (done ++ ys)[i]? = some x → i < done.length + j → Nat.testBit m i = true ∨ (apart x.looks y.looks x.dst y.dst = true ∧ x.d.conf y.d = false)
  | [], ms, done, _, j, y, m, hy, _, _, _, _, _ => by simp at hy
  | z :: ys, [], done, _, j, y, m, _, hm, _, _, _, _ => by simp at hm
  | z :: ys, n :: ms, done, h, j, y, m, hy, hm, i, x, hx, hlt => by
    unfold anyOrder at h
    simp only [Bool.and_eq_true] at h
    cases j with
    | zero =>
      simp at hy hm; subst hy hm
      rw [List.getElem?_append_left (by omega)] at hx
      have := aheadOf_spec done 0 h.1 i x hx
      simpa using this
    | succ j =>
      refine anyOrder_spec ys ms (done ++ [z]) h.2 j y m (by simpa using hy) (by simpa using hm) i x ?_ (by simp; omega)
      simpa using hx

theorem rowsOf_get {all : List Oper} : ∀ (os : List Oper) (ds : List Delta) (j : Nat) (o : Oper) (d : Delta), os[j]? = some o → ds[j]? = some d → (rowsOf all os ds)[j]? = some ⟨o.dst, looks all o, d⟩
  | [], ds, j, o, d, h, _ => by simp at h
  | x :: os, [], j, o, d, _, h => by simp at h
  | x :: os, e :: ds, j, o, d, h, k => by
    cases j with
    | zero => simp at h k; subst h k; rfl
    | succ j =>
      simp at h k
      simp only [rowsOf, List.getElem?_cons_succ]
      exact rowsOf_get os ds j o d h k

theorem depsBack_spec : ∀ (os : List Oper) (i : Nat), depsBack i os = true → ∀ j o, os[j]? = some o → ∀ d ∈ deps o, d < i + j
  | [], i, _, j, o, h => by simp at h
  | x :: os, i, h, j, o, ho => by
    unfold depsBack at h
    simp only [Bool.and_eq_true] at h
    cases j with
    | zero =>
      simp at ho; subst ho
      intro d hd
      have := List.all_eq_true.1 h.1 d hd
      simpa [Nat.blt_eq] using this
    | succ j =>
      intro d hd
      have := depsBack_spec os (i + 1) h.2 j o (by simpa using ho) d hd
      omega
end

section
variable {P : Program} {O : Oracle} {base : Nat} {β : Nat → Nat} {ops : Array Oper} {Q : Exit → Act → World → Prop}

theorem gd (l : Array Bool) (i : Nat) (b : Bool) (h : i < l.size) : l.getD i b = l[i] := by simp [Array.getD, h]
theorem gs (l : Array Bool) (i j : Nat) (b : Bool) (h : j < l.size) : (l.setIfInBounds i true).getD j b = if i = j then true else l[j] := by
  rw [gd _ _ _ (by simpa using h), Array.getElem_setIfInBounds]

theorem region_any (hO : OSound P O) (nm : Nat) (D : Nat → Delta) (s' : PSt) (hok : s'.ok)
    (hfree : ∀ L : Nat → Prop, (∀ (j : Nat) (o : Oper), ops.toList[j]? = some o → L j → ∀ d ∈ deps o, L d) → ∀ (i : Nat) (o : Oper), ops.toList[i]? = some o → (∀ d ∈ deps o, L d) → ∀ a, a < i → ¬ L a → Free ops.toList D a i)
    (hback : ∀ (i : Nat) (o : Oper), ops.toList[i]? = some o → ∀ d ∈ deps o, d < i) (w0 : World) (hQ : ∀ β' a' w', Rel base β' s' a' w' → Below base w0 w' → Q .normal a' w') :
    ∀ (fuel : Nat) (listed : Array Bool) (β : Nat → Nat) (s : PSt) (a : Act) (w : World), listed.size = ops.size →
      (∀ (j : Nat) (o : Oper), ops.toList[j]? = some o → listed.getD j false = true → ∀ d ∈ deps o, listed.getD d false = true) →
      ((List.range ops.size).filter fun i => !listed.getD i true).length ≤ fuel →
      RunL P O ops.toList nm D ((List.range ops.size).filter fun i => !listed.getD i true) s s' → Rel base β s a w → base ≤ w.heap.size → Below base w0 w → wpAny P .any ops Q fuel listed a w := by
  intro fuel
  induction fuel with
  | zero =>
    intro listed β s a w hsz hcl hlen hrun R hb hbel
    have hnil : ((List.range ops.size).filter fun i => !listed.getD i true) = [] := List.eq_nil_of_length_eq_zero (by omega)
    rw [hnil] at hrun
    cases hrun
    refine ⟨?_, hQ _ _ _ R hbel⟩
    rw [List.eq_nil_iff_forall_not_mem]
    intro i hi
    unfold Region.ready at hi
    simp only [List.mem_filter, Bool.and_eq_true] at hi
    have : i ∈ ((List.range ops.size).filter fun i => !listed.getD i true) := List.mem_filter.2 ⟨hi.1, hi.2.1⟩
    rw [hnil] at this
    simp at this
  | succ fuel ih =>
    intro listed β s a w hsz hcl hlen hrun R hb hbel
    refine ⟨fun hr => ?_, fun i hi => ?_⟩
    · -- nothing is ready: everything has come up
      cases hl : ((List.range ops.size).filter fun i => !listed.getD i true) with
      | nil => rw [hl] at hrun; cases hrun; exact hQ _ _ _ R hbel
      | cons r rest =>
        exfalso
        have hpw : ((List.range ops.size).filter fun i => !listed.getD i true).Pairwise (· < ·) := List.Pairwise.filter _ List.pairwise_lt_range
        rw [hl] at hpw
        have hr0 : r ∈ ((List.range ops.size).filter fun i => !listed.getD i true) := by rw [hl]; simp
        have hrm := List.mem_filter.1 hr0
        have hrn : r < ops.size := List.mem_range.1 hrm.1
        have hor : ops[r]? = some ops[r] := Array.getElem?_eq_getElem hrn
        have : r ∈ Region.ready .any ops listed := by
          unfold Region.ready
          refine List.mem_filter.2 ⟨hrm.1, ?_⟩
          rw [hor]
          simp only [hrm.2, Bool.true_and, Option.map_some, Option.getD_some]
          rw [Array.all_eq_true_iff_forall_mem]
          intro e he
          by_cases hbd : Region.binds .any e = true
          · have hd : e.on ∈ deps ops[r] := by
              unfold deps
              exact List.mem_filterMap.2 ⟨e, by simpa using he, by simp [hbd]⟩
            have hlt := hback r ops[r] (by simp) e.on hd
            have : e.on ∉ ((List.range ops.size).filter fun i => !listed.getD i true) := by
              rw [hl]
              intro hm
              rcases List.mem_cons.1 hm with h | h
              · omega
              · have := (List.pairwise_cons.1 hpw).1 _ h; omega
            have h2 : ¬ (!listed.getD e.on true) = true := fun h => this (List.mem_filter.2 ⟨List.mem_range.2 (by omega), h⟩)
            have hz : e.on < listed.size := by omega
            rw [gd _ _ _ hz] at h2 ⊢
            have h2 : listed[e.on] = true := by cases hq : listed[e.on] <;> simp [hq] at h2 ⊢
            simp [h2]
          · simp [hbd]
        rw [hr] at this
        simp at this
    · unfold Region.ready at hi
      have hi := List.mem_filter.1 hi
      have hin : i < ops.size := List.mem_range.1 hi.1
      have hoi : ops[i]? = some ops[i] := Array.getElem?_eq_getElem hin
      obtain ⟨hi1, hi2⟩ := hi
      rw [hoi] at hi2
      simp only [Option.map_some, Option.getD_some, Bool.and_eq_true] at hi2
      have hmem : i ∈ ((List.range ops.size).filter fun i => !listed.getD i true) := List.mem_filter.2 ⟨hi1, hi2.1⟩
      have hdl : ∀ d ∈ deps ops[i], listed.getD d false = true := by
        intro d hd
        unfold deps at hd
        obtain ⟨e, he, hed⟩ := List.mem_filterMap.1 hd
        split at hed <;> try (simp at hed; done)
        rename_i hbd
        simp only [Option.some.injEq] at hed
        subst hed
        have := (Array.all_eq_true_iff_forall_mem.1 hi2.2) e (by simpa using he)
        simpa [hbd] using this
      have hpw : ((List.range ops.size).filter fun i => !listed.getD i true).Pairwise (· < ·) := List.Pairwise.filter _ List.pairwise_lt_range
      have hp := RunL.pull (i := i) _ _ _ hpw hmem (fun b hbm hlt => by
        refine hfree (fun j => listed.getD j false = true) hcl i ops[i] (by simp) hdl b hlt ?_
        have hbm := List.mem_filter.1 hbm
        have hz : b < listed.size := by have := List.mem_range.1 hbm.1; omega
        have h2 := hbm.2
        rw [gd _ _ _ hz] at h2 ⊢
        cases hq : listed[b] <;> simp [hq] at h2 ⊢) hrun
      cases hp with
      | cons ho h t =>
        rename_i o
        have ho' : ops[i]? = some o := by simpa using ho
        have hzi : i < listed.size := by omega
        have hfe : ((List.range ops.size).filter fun j => !(listed.setIfInBounds i true).getD j true) = ((List.range ops.size).filter fun i => !listed.getD i true).filter (· != i) := by
          rw [List.filter_filter]
          apply List.filter_congr
          intro j hj
          have hjz : j < listed.size := by have := List.mem_range.1 hj; omega
          rw [gs _ _ _ _ hjz, gd _ _ _ hjz]
          by_cases e : i = j
          · subst e; simp
          · have : (j != i) = true := by simpa using fun h => e h.symm
            simp [e, this]
        refine step_sound hO R hb ho' h (RunL.ok t hok) (fun β' a' w' R' hb' => ih (listed.setIfInBounds i true) β' _ a' w' (by simpa using hsz) ?_ ?_ ?_ R' (Nat.le_trans hb hb'.size) (hbel.trans hb'))
        · intro j oj hoj hj d hd
          have keep : ∀ d, listed.getD d false = true → (listed.setIfInBounds i true).getD d false = true := by
            intro d hd
            by_cases hz : d < listed.size
            · rw [gd _ _ _ hz] at hd
              rw [gs _ _ _ _ hz]
              split
              · rfl
              · exact hd
            · simp [Array.getD, hz] at hd
          by_cases e : i = j
          · subst e
            have : oj = ops[i] := by
              have h1 : ops.toList[i]? = some ops[i] := by simp
              rw [h1] at hoj; simpa using hoj.symm
            subst this
            exact keep d (hdl d hd)
          · refine keep d (hcl j oj hoj ?_ d hd)
            by_cases hz : j < listed.size
            · rw [gs _ _ _ _ hz, if_neg e] at hj
              rw [gd _ _ _ hz]; exact hj
            · simp [Array.getD, hz] at hj
        · rw [hfe]
          have hlt : (((List.range ops.size).filter fun i => !listed.getD i true).filter (· != i)).length < ((List.range ops.size).filter fun i => !listed.getD i true).length := by
            refine List.length_filter_lt_length_iff_exists.2 ⟨i, hmem, by simp⟩
          omega
        · rw [hfe]; exact t
end
end Go.Proofs.YtafaadnjkkkafaaDoor.PR
