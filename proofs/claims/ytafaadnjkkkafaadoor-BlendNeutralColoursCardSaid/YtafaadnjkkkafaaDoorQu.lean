/-
  The second edition of the pure way: rows that are built, written, grown and looked at.
-/
import Derived.Test.YtafaadnjkkkafaaDoorQt
namespace Go.Proofs.YtafaadnjkkkafaaDoor.QR
open Go.RowKit PR
set_option linter.unusedVariables false
set_option linter.unusedSimpArgs false

theorem csel_eq (c : Bool) (x y : CV) : csel c x y = bif c then x else y := by
  unfold csel
  split
  · rename_i k a l b
    split
    · rename_i h; subst h; cases c <;> rfl
    · rfl
  · cases c <;> rfl
  · cases c <;> rfl
  · rfl
theorem csel_t (x y : CV) : csel true x y = x := by rw [csel_eq]; rfl
theorem csel_f (x y : CV) : csel false x y = y := by rw [csel_eq]; rfl

theorem splice_get {α : Type} (l vs : List α) (o i : Nat) (h : o + vs.length ≤ l.length) : (l.take o ++ vs ++ l.drop (o + vs.length))[i]? = if i < o then l[i]? else if i < o + vs.length then vs[i - o]? else l[i]? := by
  have h1 : (l.take o).length = o := by rw [List.length_take]; omega
  by_cases e : i < o
  · rw [if_pos e, List.append_assoc, List.getElem?_append_left (by omega), List.getElem?_take, if_pos e]
  · rw [if_neg e]
    by_cases e2 : i < o + vs.length
    · rw [if_pos e2, List.append_assoc, List.getElem?_append_right (by omega), List.getElem?_append_left (by omega), h1]
    · rw [if_neg e2, List.getElem?_append_right (by rw [List.length_append, h1]; omega), List.getElem?_drop, List.length_append, h1]
      congr 1
      omega
theorem splice_len {α : Type} (l vs : List α) (o : Nat) (h : o + vs.length ≤ l.length) : (l.take o ++ vs ++ l.drop (o + vs.length)).length = l.length := by
  simp only [List.length_append, List.length_take, List.length_drop]; omega

theorem fill_fold (off : Nat) : ∀ (vs : List Value) (k : Nat) (cells : Array Value), off + k + vs.length ≤ cells.size →
    ((vs.zipIdx k).foldl (fun cs (p : Value × Nat) => cs.setIfInBounds (off + p.2) p.1) cells).toList = cells.toList.take (off + k) ++ vs ++ cells.toList.drop (off + k + vs.length)
  | [], k, cells, _ => by simp
  | v :: vs, k, cells, h => by
    simp only [List.length_cons] at h
    rw [List.zipIdx_cons, List.foldl_cons, fill_fold off vs (k + 1) _ (by simp only [Array.size_setIfInBounds]; omega)]
    apply List.ext_getElem?
    intro i
    have e1 := splice_get (cells.setIfInBounds (off + k) v).toList vs (off + (k + 1)) i (by simp only [Array.length_toList, Array.size_setIfInBounds]; omega)
    have e2 := splice_get cells.toList (v :: vs) (off + k) i (by simp only [Array.length_toList, List.length_cons]; omega)
    rw [e1, e2]
    simp only [List.length_cons, Array.toList_setIfInBounds, List.getElem?_set, Array.length_toList]
    by_cases c1 : i < off + k
    · rw [if_pos (show i < off + (k + 1) by omega), if_neg (show ¬ off + k = i by omega), if_pos c1]
    · by_cases c2 : i = off + k
      · subst c2
        rw [if_pos (show off + k < off + (k + 1) by omega), if_pos (show off + k = off + k from rfl), if_pos (show off + k < cells.size by omega), if_neg c1, if_pos (show off + k < off + k + (vs.length + 1) by omega)]
        simp
      · rw [if_neg (show ¬ i < off + (k + 1) by omega), if_neg c1, if_neg (show ¬ off + k = i by omega)]
        by_cases c3 : i < off + (k + 1) + vs.length
        · rw [if_pos c3, if_pos (show i < off + k + (vs.length + 1) by omega)]
          obtain ⟨j, rfl⟩ : ∃ j, i = off + k + 1 + j := ⟨i - (off + k + 1), by omega⟩
          rw [show off + k + 1 + j - (off + (k + 1)) = j by omega, show off + k + 1 + j - (off + k) = j + 1 by omega, List.getElem?_cons_succ]
        · rw [if_neg c3, if_neg (show ¬ i < off + k + (vs.length + 1) by omega)]

theorem fill_one (off : Nat) (v cells : Array Value) (h : off + v.size ≤ cells.size) :
    (v.zipIdx.foldl (fun cs (c, j) => cs.setIfInBounds (off + j) c) cells).toList = cells.toList.take off ++ v.toList ++ cells.toList.drop (off + v.size) := by
  have := fill_fold off v.toList 0 cells (by simpa using h)
  simp only [Nat.add_zero, Array.length_toList] at this
  rw [← this, ← Array.foldl_toList, Array.toList_zipIdx]

theorem size_cells_agg (l : List Value) : (Value.agg l.toArray).cells = l.toArray := rfl

theorem ConcC.one {L : Nat → Prop} {E : Env} {w : World} {c : CV} {y : Value} (h : ConcC L E w c y) : y.oneCell' = true ∧ y.cells = #[y] := by
  have main : y.oneCell' = true := by
    cases c with
    | v x =>
      cases h with
      | v h => cases y <;> first | rfl | (simp [plainB] at h)
    | slc z n r =>
      cases h with
      | nil _ _ => rfl
      | slc _ _ _ _ _ _ _ => rfl
    | own m n => obtain ⟨_, _, _, ⟨rfl, _⟩ | ⟨a, c, rfl⟩⟩ := h <;> rfl
    | ptr m off => rw [h.2]; rfl
    | fn f caps => rw [h.2]; rfl
  refine ⟨main, ?_⟩
  cases y <;> first | rfl | (simp [Value.oneCell'] at main)
theorem Fa2.ones {L : Nat → Prop} {E : Env} {w : World} {l : List CV} {ys : List Value} (h : Fa2 (ConcC L E w) l ys) : ∀ y ∈ ys, y.oneCell' = true := by
  intro y hy
  obtain ⟨i, hi, e⟩ := List.getElem_of_mem hy
  have hl := h.len
  obtain ⟨b, e1, e2⟩ := h.get (i := i) (a := l[i]) (by simp)
  have : ys[i]? = some y := by rw [List.getElem?_eq_getElem hi, e]
  rw [this] at e1
  simp only [Option.some.injEq] at e1
  subst e1
  exact e2.one.1
/-- the cells of a value -/
theorem ConcX.cells {L : Nat → Prop} {E : Env} {w : World} {v : XV} {y : Value} (h : ConcX L E w v y) : Fa2 (ConcC L E w) (cellsOf v) y.cells.toList := by
  cases v with
  | c x => rw [h.one.2]; exact ⟨h, trivial⟩
  | agg l => obtain ⟨ys, rfl, h⟩ := h; exact h
theorem ConcX.ones {L : Nat → Prop} {E : Env} {w : World} {v : XV} {y : Value} (h : ConcX L E w v y) : y.cells.all Value.oneCell' = true := by
  have := h.cells.ones
  rw [Array.all_eq_true_iff_forall_mem]
  intro x hx
  exact this x (by simpa using hx)

theorem fill_sound {L : Nat → Prop} {E : Env} {w : World} {place : Nat → Option (Nat × Nat)} : ∀ {ps : List (Nat × List CV)} {qs : List (Nat × Value)} {cells l : List CV} {arr : Array Value},
    Fa2 (fun (p : Nat × List CV) (q : Nat × Value) => p.1 = q.1 ∧ Fa2 (ConcC L E w) p.2 q.2.cells.toList) ps qs → Fa2 (ConcC L E w) cells arr.toList → fillC place cells ps = some l →
    ∃ arr', Instr.fill place arr qs = some arr' ∧ Fa2 (ConcC L E w) l arr'.toList
  | [], [], cells, l, arr, _, hc, h => by
    simp only [fillC, Option.some.injEq] at h
    subst h
    exact ⟨arr, rfl, hc⟩
  | (i, d) :: ps, (i', v) :: qs, cells, l, arr, hp, hc, h => by
    obtain ⟨⟨h1, h2⟩, hp⟩ := hp
    simp only at h1 h2
    subst h1
    unfold fillC at h
    split at h <;> try (simp at h; done)
    rename_i off size hpl
    split at h <;> try (simp at h; done)
    rename_i hs
    simp only [Bool.and_eq_true, Nat.beq_eq, Nat.ble_eq] at hs
    have l1 := h2.len
    have l2 := hc.len
    simp only [Array.length_toList] at l1 l2
    have e := fill_one off v.cells arr (by omega)
    unfold Instr.fill
    rw [hpl]
    simp only
    rw [if_neg (by simp; omega)]
    refine fill_sound hp ?_ h
    rw [e]
    have := Fa2.splice off hc h2
    unfold PR.splice at this
    rw [Array.length_toList] at this
    exact this
  | [], _ :: _, _, _, _, hp, _, _ => hp.elim
  | _ :: _, [], _, _, _, hp, _, _ => hp.elim

theorem built_eq {P : Program} {t : TypeId} {pl : Nat → Option (Nat × Nat)} {it : TypeInfo} {z : Value} (h1 : placeB P t = some pl) (h2 : P.info? t = some it) (h3 : it.zero = some z) (parts : List (Nat × Value)) : P.built t parts = Instr.fill pl z.cells parts := by
  unfold placeB at h1
  unfold Program.built
  rw [h2]
  split at h1 <;> try (simp at h1; done)
  · rename_i n e hu
    split at h1 <;> try (simp at h1; done)
    rename_i ie hi
    simp only [Option.some.injEq] at h1
    subst h1
    simp only [hu, h3, hi]
  · rename_i fs hu
    split at h1 <;> try (simp at h1; done)
    rename_i pls hp
    simp only [Option.some.injEq] at h1
    subst h1
    simp only [hu, h3, hp]

theorem zeroL_spec {P : Program} {t : TypeId} {l : List Value} (h : zeroL P t = some l) : ∃ i z, P.info? t = some i ∧ i.zero = some z ∧ z.cells = l.toArray ∧ l.length = i.size ∧ ∀ x ∈ l, plainB x = true := by
  unfold zeroL at h
  split at h <;> try (simp at h; done)
  rename_i i hi
  split at h <;> try (simp at h; done)
  rename_i z hz
  split at h <;> try (simp at h; done)
  rename_i hp
  simp only [Bool.and_eq_true, Nat.beq_eq] at hp
  simp only [Option.some.injEq] at h
  subst h
  exact ⟨i, z, hi, hz, by simp, by simpa using hp.2, List.all_eq_true.1 hp.1⟩
theorem zeroL_conc {L : Nat → Prop} {E : Env} {w : World} : ∀ {l : List Value}, (∀ x ∈ l, plainB x = true) → Fa2 (ConcC L E w) (l.map CV.v) l
  | [], _ => trivial
  | x :: l, h => ⟨Rep.v (h x (by simp)), zeroL_conc fun y hy => h y (by simp [hy])⟩

/-- the cells of an element, written anew -/
theorem den_upds (i' : Int) (b : Nat) : ∀ (cs : List CV) (r : Row) (i : Int) (off : Nat), den (updsR r i off cs) i' b = if i' = i ∧ off ≤ b ∧ b < off + cs.length then (cs[b - off]?).getD undefC else den r i' b
  | [], r, i, off => by rw [if_neg (by simp only [List.length_nil]; omega)]; rfl
  | c :: cs, r, i, off => by
    unfold updsR
    rw [den_upds i' b cs]
    simp only [List.length_cons]
    by_cases h1 : i' = i ∧ off + 1 ≤ b ∧ b < off + 1 + cs.length
    · rw [if_pos h1, if_pos (by omega)]
      obtain ⟨j, rfl⟩ : ∃ j, b = off + 1 + j := ⟨b - (off + 1), by omega⟩
      rw [show off + 1 + j - (off + 1) = j by omega, show off + 1 + j - off = j + 1 by omega, List.getElem?_cons_succ]
    · rw [if_neg h1]
      show (bif Nat.beq off b then csel (ieq i' i) c (den r i' b) else den r i' b) = _
      by_cases h2 : off = b
      · subst h2
        rw [Nat.beq_refl, cond_true]
        by_cases h3 : i' = i
        · subst h3
          rw [show ieq i' i' = true by simp [ieq], csel_t, if_pos (by omega)]
          simp
        · rw [show ieq i' i = false by simpa [ieq] using h3, csel_f, if_neg (by omega)]
      · rw [beq_ne h2, cond_false, if_neg (by omega)]
theorem idx_inj {z a b c d : Nat} (hb : b < z) (hd : d < z) (h : a * z + b = c * z + d) : a = c ∧ b = d := by
  have h1 : (a * z + b) / z = a := by rw [Nat.add_comm, Nat.add_mul_div_right _ _ (by omega), Nat.div_eq_of_lt hb, Nat.zero_add]
  have h2 : (c * z + d) / z = c := by rw [Nat.add_comm, Nat.add_mul_div_right _ _ (by omega), Nat.div_eq_of_lt hd, Nat.zero_add]
  have : a = c := by rw [← h1, ← h2, h]
  subst this
  omega
theorem idx_lt {z n i j : Nat} (hi : i < n) (hj : j < z) : i * z + j < n * z := by
  have : (i + 1) * z ≤ n * z := Nat.mul_le_mul_right z hi
  rw [Nat.add_mul, Nat.one_mul] at this
  omega
theorem RepRow.upd {F : Nat → Prop} {w : World} {z n : Nat} {r : Row} {xs ys : List Value} {cs : List CV} {i off : Nat} (h : RepRow F w z n r xs) (hx : xs.length = n * z) (hc : Fa2 (Rep F w) cs ys) (hi : i < n) (ho : off + cs.length ≤ z) :
    RepRow F w z n (updsR r i off cs) (splice xs (i * z + off) ys) ∧ (splice xs (i * z + off) ys).length = n * z := by
  have hl := hc.len
  have hle : i * z + off + ys.length ≤ xs.length := by
    have : (i + 1) * z ≤ n * z := Nat.mul_le_mul_right z hi
    rw [Nat.add_mul, Nat.one_mul] at this
    omega
  unfold splice
  refine ⟨fun i' j hi' hj => ?_, by rw [splice_len _ _ _ hle, hx]⟩
  rw [splice_get _ _ _ _ hle, den_upds]
  obtain ⟨u, e1, e2⟩ := h i' j hi' hj
  by_cases hc' : (i' : Int) = i ∧ off ≤ j ∧ j < off + cs.length
  · rw [if_pos hc']
    obtain ⟨h1, h2, h3⟩ := hc'
    have h1 : i' = i := by omega
    subst h1
    rw [if_neg (by omega), if_pos (by omega), show i' * z + j - (i' * z + off) = j - off by omega]
    have hlt : j - off < cs.length := by omega
    obtain ⟨b, b1, b2⟩ := hc.get (i := j - off) (a := cs[j - off]) (by simp)
    exact ⟨b, b1, by rw [List.getElem?_eq_getElem hlt]; exact b2⟩
  · rw [if_neg hc']
    have : ¬ (i * z + off ≤ i' * z + j ∧ i' * z + j < i * z + off + ys.length) := by
      rintro ⟨g1, g2⟩
      obtain ⟨d, hd⟩ : ∃ d, i' * z + j = i * z + (off + d) := ⟨i' * z + j - (i * z + off), by omega⟩
      obtain ⟨k1, k2⟩ := idx_inj hj (by omega) hd
      exact hc' (by omega)
    by_cases g1 : i' * z + j < i * z + off
    · rw [if_pos g1]; exact ⟨u, e1, e2⟩
    · rw [if_neg g1, if_neg (by omega)]; exact ⟨u, e1, e2⟩

theorem nthV_get : ∀ (l : List Value) (j : Nat) (x : Value), l[j]? = some x → nthV l j = .v x
  | [], j, x, h => by simp at h
  | y :: l, 0, x, h => by simp at h; subst h; rfl
  | y :: l, j + 1, x, h => nthV_get l j x (by simpa using h)
/-- a row of zeros -/
theorem RepRow.zer {F : Nat → Prop} {w : World} {l : List Value} (hp : ∀ x ∈ l, plainB x = true) {n : Int} {xs : List Value} (h : ∀ i j : Nat, (i : Int) < n → j < l.length → xs[i * l.length + j]? = l[j]?) : RepRow F w l.length n (.zer l) xs := by
  intro i j hi hj
  have e : l[j]? = some l[j] := List.getElem?_eq_getElem hj
  refine ⟨l[j], by rw [h i j hi hj, e], ?_⟩
  show Rep F w (nthV l j) _
  rw [nthV_get l j _ e]
  exact .v (hp _ (List.getElem_mem hj))

theorem partsOf_sound {base : Nat} {X F0 : Nat → Prop} {E : Env} {s : PSt} {a : Act} {w : World} : ∀ {l : List (Nat × Operand)} {ps : List (Nat × List CV)}, (∀ p ∈ l, ConcS (live s) E w (valOf s p.2) (a.eval p.2)) → partsOf s l = some ps →
    Fa2 (fun (p : Nat × List CV) (q : Nat × Value) => p.1 = q.1 ∧ Fa2 (ConcC (live s) E w) p.2 q.2.cells.toList) ps (l.map fun p => (p.1, a.eval p.2))
  | [], ps, _, h => by simp only [partsOf, Option.some.injEq] at h; subst h; trivial
  | (i, x) :: l, ps, hc, h => by
    unfold partsOf at h
    split at h <;> try (simp at h; done)
    rename_i v m h1 h2
    simp only [Option.some.injEq] at h
    subst h
    have := hc (i, x) (by simp)
    rw [h1] at this
    exact ⟨⟨rfl, ConcX.cells this⟩, partsOf_sound (base := base) (X := X) (F0 := F0) (fun p hp => hc p (by simp [hp])) h2⟩

theorem fz_rep {L : Nat → Prop} {E : Env} {w : World} {c : CV} {y : Value} (hc : isFz c = true) (h : ConcC L E w c y) : Rep E.F w c y := by
  cases c with
  | v x => exact h
  | slc z n r => exact h
  | own m n => simp [isFz] at hc
  | ptr m off => simp [isFz] at hc
  | fn f caps => simp [isFz] at hc
theorem fz_reps {L : Nat → Prop} {E : Env} {w : World} {l : List CV} {ys : List Value} (hc : l.all isFz = true) (h : Fa2 (ConcC L E w) l ys) : Fa2 (Rep E.F w) l ys :=
  Fa2.monoM (fun c hm y => fz_rep (List.all_eq_true.1 hc c hm)) h

/-- a literal's row -/
theorem fillR_sound {L : Nat → Prop} {E : Env} {w : World} {z n : Nat} : ∀ {ps : List (Nat × List CV)} {qs : List (Nat × Value)} {r0 r : Row} {arr : Array Value},
    Fa2 (fun (p : Nat × List CV) (q : Nat × Value) => p.1 = q.1 ∧ Fa2 (ConcC L E w) p.2 q.2.cells.toList) ps qs → (∀ p ∈ ps, p.1 < n) → RepRow E.F w z n r0 arr.toList → arr.size = n * z → fillR z r0 ps = some r →
    ∃ arr', Instr.fill (fun i => some (i * z, z)) arr qs = some arr' ∧ RepRow E.F w z n r arr'.toList ∧ arr'.size = n * z
  | [], [], r0, r, arr, _, _, hr, hs, h => by
    simp only [fillR, Option.some.injEq] at h
    subst h
    exact ⟨arr, rfl, hr, hs⟩
  | (i, d) :: ps, (i', v) :: qs, r0, r, arr, hp, hn, hr, hs, h => by
    obtain ⟨⟨h1, h2⟩, hp⟩ := hp
    simp only at h1 h2
    subst h1
    unfold fillR at h
    split at h <;> try (simp at h; done)
    rename_i hz
    simp only [Bool.and_eq_true, Nat.beq_eq] at hz
    have l1 := h2.len
    simp only [Array.length_toList] at l1
    have hi : i < n := hn (i, d) (by simp)
    have hle : i * z + z ≤ n * z := by
      have : (i + 1) * z ≤ n * z := Nat.mul_le_mul_right z hi
      rw [Nat.add_mul, Nat.one_mul] at this
      exact this
    have e := fill_one (i * z) v.cells arr (by omega)
    have ru := RepRow.upd (off := 0) hr (by simpa using hs) (fz_reps hz.2 h2) hi (by omega)
    unfold splice at ru
    rw [Nat.add_zero, Array.length_toList] at ru
    rw [← e] at ru
    unfold Instr.fill
    simp only
    rw [if_neg (by simp; omega)]
    exact fillR_sound hp (fun p hp => hn p (by simp [hp])) ru.1 (by simpa using ru.2) h
  | [], _ :: _, _, _, _, hp, _, _, _, _ => hp.elim
  | _ :: _, [], _, _, _, hp, _, _, _, _ => hp.elim

/-- rows one behind the other -/
theorem RepRow.app {F : Nat → Prop} {w : World} {z : Nat} {n n2 : Int} {r r2 : Row} {xs ys : List Value} (h0 : 0 ≤ n) (hx : xs.length = n.toNat * z) (h : RepRow F w z n r xs) (k : RepRow F w z n2 r2 ys) : RepRow F w z (addZ n n2) (.app r n r2) (xs ++ ys) := by
  intro i j hi hj
  show ∃ u, _ ∧ Rep F w (csel (ilt i n) (den r i j) (den r2 (subZ i n) j)) u
  by_cases hlt : (i : Int) < n
  · rw [show ilt (i : Int) n = true from decide_eq_true hlt, csel_t]
    obtain ⟨u, e1, e2⟩ := h i j hlt hj
    have : i * z + j < xs.length := by rw [hx]; exact idx_lt (by omega) hj
    exact ⟨u, by rw [List.getElem?_append_left this]; exact e1, e2⟩
  · rw [show ilt (i : Int) n = false from decide_eq_false hlt, csel_f]
    obtain ⟨d, hd⟩ : ∃ d : Nat, i = n.toNat + d := ⟨i - n.toNat, by omega⟩
    unfold addZ at hi
    obtain ⟨u, e1, e2⟩ := k d j (by omega) hj
    refine ⟨u, ?_, ?_⟩
    · rw [List.getElem?_append_right (by rw [hx, hd, Nat.add_mul]; omega), hx, hd, Nat.add_mul, show n.toNat * z + d * z + j - n.toNat * z = d * z + j by omega]
      exact e1
    · rw [show subZ (i : Int) n = d by unfold subZ; omega]; exact e2

theorem Rep.one {F : Nat → Prop} {w : World} {c : CV} {y : Value} (h : Rep F w c y) : y.oneCell' = true :=
  (ConcC.one (L := fun _ => True) (E := ⟨F, fun n => n, fun _ => undef⟩) (ConcC.of_fz h)).1
/-- the cells of a frozen slice -/
theorem Rep.news {F : Nat → Prop} {w : World} {z : Nat} {n : Int} {r : Row} {y : Value} (h : Rep F w (.slc z n r) y) :
    (y = .slice none 0 0 ∧ n = 0) ∨ ∃ (ad : Addr) (m c : Nat) (news : List Value), y = .slice (some ad) m c ∧ n = m ∧ news.length = m * z ∧ (∀ j u, news[j]? = some u → w.cell? (ad.add j) = some u) ∧ (∀ u ∈ news, u.oneCell' = true) ∧ RepRow F w z n r news := by
  cases h with
  | nil hz hc =>
    rename_i a c
    cases a with
    | none => rw [hc rfl]; exact Or.inl ⟨rfl, rfl⟩
    | some ad => exact Or.inr ⟨ad, 0, c, [], rfl, rfl, by simp, by simp, by simp, fun i j hi _ => by omega⟩
  | slc u hz hc hF hh hu hr =>
    rename_i m b off c arr t
    refine Or.inr ⟨⟨b, off, none⟩, m, c, (arr.toList.drop off).take (m * z), rfl, rfl, ?_, fun j v hv => ?_, fun v hv => ?_, fun i j hi hj => ?_⟩
    · rw [List.length_take, List.length_drop, Array.length_toList]
      by_cases hm : m = 0
      · subst hm; simp
      · have e := hu (m - 1) (z - 1) (by omega) (by omega)
        have lt := (Array.getElem?_eq_some_iff.1 e).1
        have : (m - 1) * z + z = m * z := by rw [← Nat.succ_mul, show (m - 1).succ = m by omega]
        omega
    · rw [Addr.add_lit]
      simp only [World.cell?, hh]
      rw [List.getElem?_take] at hv
      split at hv
      · rw [List.getElem?_drop] at hv; simpa using hv
      · simp at hv
    · obtain ⟨k, hk, e⟩ := List.getElem_of_mem hv
      have hkl : k < m * z := by rw [List.length_take] at hk; omega
      have hq : k / z < m := by rw [Nat.div_lt_iff_lt_mul hz]; exact hkl
      have hm := Nat.mod_lt k hz
      have e2 := hu (k / z) (k % z) hq hm
      have e3 := hr (k / z) (k % z) hq hm
      have : off + k / z * z + k % z = off + k := by rw [Nat.add_assoc, Nat.mul_comm, Nat.div_add_mod]
      rw [this, ← Array.getElem?_toList] at e2
      have e4 : ((arr.toList.drop off).take (m * z))[k]? = some v := by rw [List.getElem?_eq_getElem hk, e]
      rw [List.getElem?_take, if_pos hkl, List.getElem?_drop, e2] at e4
      simp only [Option.some.injEq] at e4
      rw [← e4]; exact e3.one
    · have hi' : i < m := by omega
      refine ⟨u i j, ?_, hr i j hi' hj⟩
      rw [List.getElem?_take, if_pos (idx_lt hi' hj), List.getElem?_drop, Array.getElem?_toList]
      have := hu i j hi' hj
      rw [Nat.add_assoc] at this
      exact this

section
variable {P : Program} (w : World)
/-- an append to a row of one's own: where the row is then, whatever its block calls its elements -/
theorem append_at (base : Nat) (t ty e e0 : TypeId) (i : TypeInfo) (z : Value) (ht : P.underlying t = some (.slice e)) (hi : P.info? e = some i) (hz : i.zero = some z) (hzs : z.cells.size = i.size)
    (v : Value) (n : Nat) (xs : List Value) (hown : w.ownsRow base e0 i.size v n xs)
    (a : Addr) (m c : Nat) (news : List Value) (hl : news.length = m * i.size) (hnews : ∀ j u, news[j]? = some u → w.cell? (a.add j) = some u) (h1 : ∀ u ∈ news, u.oneCell' = true)
    (h63 : n + m ≤ maxLen) (hbytes : (n + m) * i.bytes ≤ 140737488355328) (hbase : base ≤ w.heap.size) :
    ∃ v' w' e', (Builtin.append_ #[t, t] ty #[v, .slice (some a) m c]).run P w = .ok v' w' ∧ w'.ownsRow base e' i.size v' (n + m) (xs ++ news) ∧ w.grownBy w' v.ownBlock ∧
      ∀ k, v'.ownBlock = some k → w.heap.size ≤ k ∨ v.ownBlock = some k := by
  have hsmall : n + m ≤ 9223372036854775807 := by simp only [maxLen] at h63; omega
  have hlen : (xs ++ news).length = (n + m) * i.size := by rw [List.length_append, hown.1, hl, Nat.add_mul]
  have grown : ∀ (old : Nat) (row : Option Nat),
      (w.drew.alloc (.cells (xs.toArray ++ news.toArray ++ Builtin.zeroCells z.cells (grownCap w (n + m) old e - (n + m))) e)).ownsRow base e i.size (.slice (some ⟨w.heap.size, 0, none⟩) (n + m) (grownCap w (n + m) old e)) (n + m) (xs ++ news) ∧
      w.grownBy (w.drew.alloc (.cells (xs.toArray ++ news.toArray ++ Builtin.zeroCells z.cells (grownCap w (n + m) old e - (n + m))) e)) row := by
    intro old row
    have hge := grownCap_ge w (n + m) old e
    have hcm := grownCap_le_maxLen w (n + m) old e h63
    refine ⟨⟨hlen, .inr ⟨w.heap.size, _, _, rfl, hbase, heap_alloc_new w.drew _, hge, hcm, ?_, ?_⟩⟩, ⟨rfl, rfl, rfl, by simp, fun k hk _ => heap_alloc_old w.drew _ k hk⟩⟩
    · have := congrArg (· * i.size) (show n + m + (grownCap w (n + m) old e - (n + m)) = grownCap w (n + m) old e by omega)
      simp only [Nat.add_mul] at this
      simp only [Array.size_append, List.size_toArray, size_zeroCells, hzs, hown.1, hl]
      exact this
    · rw [← hlen]
      simp only [Array.toList_append]
      exact List.take_left
  rcases hown.2 with ⟨rfl, rfl⟩ | ⟨g, cap, cur, rfl, hbg, hg, hnc, hcm, hcs, htake⟩
  · have hx : xs = [] := List.eq_nil_of_length_eq_zero (by simpa using hown.1)
    subst hx
    by_cases hm : m = 0
    · subst hm
      have hn : news = [] := List.eq_nil_of_length_eq_zero (by simpa using hl)
      subst hn
      refine ⟨.slice none 0 0, w, e, ?_, World.ownsRow_nil w base e i.size, ⟨rfl, rfl, rfl, Nat.le_refl _, fun _ _ _ => rfl⟩, fun k hk => by simp [Value.ownBlock] at hk⟩
      simp [Builtin.append_, run_underlying ht, sizeOf, typeInfo, hi, Builtin.lenOf, Builtin.firstCells, loadCells, loadCellsFrom]
    · have hr := run_append_nil (P := P) w t ty e i z ht hi hz a m c news hl hnews (by omega) (by omega) (by simp only [Nat.zero_add] at hbytes; omega)
      have hgr := grown 0 (Value.ownBlock (.slice none 0 0))
      simp only [Nat.zero_add, List.nil_append, Array.empty_append] at hgr ⊢
      exact ⟨_, _, e, hr, hgr.1, hgr.2, fun k hk => by simp only [Value.ownBlock, Option.some.injEq] at hk; omega⟩
  · by_cases hroom : n + m ≤ cap
    · have hfit : n * i.size + news.length ≤ cur.size := by rw [hl, hcs, ← Nat.add_mul]; exact Nat.mul_le_mul_right _ hroom
      have hf := run_firstCells_some (P := P) w i.size m a m c news hl hnews
      have hst := run_storeCells_at P g (n * i.size) e0 news 0 cur w hg (by simpa using hfit) h1
      simp only [Nat.add_zero] at hst
      have hr : (Builtin.append_ #[t, t] ty #[.slice (some ⟨g, 0, none⟩) n cap, .slice (some a) m c]).run P w =
          .ok (.slice (some ⟨g, 0, none⟩) (n + m) cap) (w.setRow g (cur.toList.take (n * i.size) ++ news ++ cur.toList.drop (n * i.size + news.length)).toArray) := by
        simp [Builtin.append_, run_underlying ht, sizeOf, typeInfo, hi, Builtin.lenOf, hroom, hf, Addr.add_lit, hst]
      refine ⟨_, _, e0, hr, ⟨hlen, .inr ⟨g, cap, _, rfl, hbg, setRow_heap w g cur _ e0 _ hg, hroom, hcm, ?_, ?_⟩⟩, ⟨rfl, rfl, rfl, by simp, fun k _ hk => setRow_other w g k _ (fun e => hk (by simp [Value.ownBlock, e]))⟩, fun k hk => Or.inr hk⟩
      · simp only [List.size_toArray, List.length_append, List.length_take, List.length_drop, Array.length_toList]
        omega
      · rw [htake, ← hlen]
        exact List.take_left
    · have holds : ∀ j u, xs[j]? = some u → w.cell? ((⟨g, 0, none⟩ : Addr).add j) = some u := hown.cells (g := g) rfl
      have hr := run_append_grow (P := P) w t ty e i z ht hi hz ⟨g, 0, none⟩ n cap xs hown.1 holds a m c news hl hnews (by omega) (by omega) (growslice_fits (by omega) hbytes)
      have hgr := grown cap (Value.ownBlock (.slice (some ⟨g, 0, none⟩) n cap))
      exact ⟨_, _, e, hr, hgr.1, hgr.2, fun k hk => by simp only [Value.ownBlock, Option.some.injEq] at hk; omega⟩
end

theorem made_get {l : List Value} (hl : 0 < l.length) {N i j : Nat} (h : i * l.length + j < N) (hj : j < l.length) : (madeCells l.toArray N).toList[i * l.length + j]? = l[j]? := by
  unfold madeCells
  rw [Array.getElem?_toList, Array.getElem?_map, Array.getElem?_range, if_pos h]
  simp only [Option.map_some, List.size_toArray]
  have : (i * l.length + j) % l.length = j := by rw [Nat.add_comm, Nat.add_mul_mod_self_right, Nat.mod_eq_of_lt hj]
  rw [this, List.getElem?_eq_getElem hj]
  simp [hj]
theorem RepRow.made {F : Nat → Prop} {w : World} {l : List Value} (hp : ∀ x ∈ l, plainB x = true) (hl : 0 < l.length) (n : Int) (N : Nat) (h : n.toNat ≤ N) : RepRow F w l.length n (.zer l) ((madeCells l.toArray (N * l.length)).toList.take (n.toNat * l.length)) := by
  refine RepRow.zer hp fun i j hi hj => ?_
  have lt := idx_lt (z := l.length) (show i < n.toNat by omega) hj
  rw [List.getElem?_take, if_pos lt]
  refine made_get hl ?_ hj
  have := Nat.mul_le_mul_right l.length h
  omega
end Go.Proofs.YtafaadnjkkkafaaDoor.QR
