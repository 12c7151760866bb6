/-
  The second edition of the pure way: every operation does what its effect says.
-/
import Derived.Test.YtafaadnjkkkafaaDoorQw
namespace Go.Proofs.YtafaadnjkkkafaaDoor.QR
open Go.RowKit PR
set_option linter.unusedVariables false
set_option linter.unusedSimpArgs false

section
variable {P : Program} {O : Oracle} {base : Nat} {X F0 : Nat → Prop} {B : Nat → Nat} {E : Env} {s : PSt} {a : Act} {w : World} {o : Oper}

theorem wp_new {K : Act → World → Prop} {Q : Exit → Act → World → Prop} {y : Value} {w' : World} (h : (execOp a.eval o).run P w = .ok (.value y) w') (hK : K (a.put o.dst y) w') : o.wp P a w K Q := by
  unfold Oper.wp; rw [h]; exact hK
theorem wp_skip' {K : Act → World → Prop} {Q : Exit → Act → World → Prop} {w' : World} (h : (execOp a.eval o).run P w = .ok .skip w') (hK : K (a.put o.dst undef) w') : o.wp P a w K Q := by
  unfold Oper.wp; rw [h]; exact hK

def bound_is (l d : Int) : Option Value → Prop
  | none => l = d
  | some v => ∃ k, v = .int k l
theorem bound_sound {d l : Int} {x : Option Operand} (h : boundOf s d x = some l) (hv : ∀ y, x = some y → ConcS (live s) E w (valOf s y) (a.eval y)) : bound_is l d (x.map a.eval) := by
  cases x with
  | none => simp only [boundOf, Option.some.injEq] at h; exact h.symm
  | some y =>
    unfold boundOf at h
    simp only at h
    split at h <;> try (simp at h; done)
    rename_i k n hk
    simp only [Option.some.injEq] at h
    subst h
    exact ⟨k, cv_int hk (hv y rfl)⟩
theorem run_slice {t el : TypeId} {z : Nat} (hu : P.underlying t = some (.slice el)) (hz : (sizeOf el).run P w = .ok z w) (ad : Option Addr) (ln c : Nat) {l h : Int} {lo hi : Option Value} (h0 : 0 ≤ l) (h1 : l ≤ h) (h2 : h ≤ c) (hl : bound_is l 0 lo) (hh : bound_is h ln hi) :
    (Instr.sliceAt t (.slice ad ln c) lo hi none).run P w = .ok (.slice (if c = l.toNat then ad else ad.map (·.add (l.toNat * z))) (h.toNat - l.toNat) (c - l.toNat)) w := by
  have e1 : 0 ≤ h := by omega
  have e2 : l ≤ (h.toNat : Int) := by omega
  have e3 : l.toNat ≤ h.toNat := by omega
  cases lo with
  | none =>
    have hl : l = 0 := hl
    subst hl
    cases hi with
    | none =>
      have hh : h = ln := hh
      subst hh
      simp [Instr.sliceAt, run_underlying hu, Instr.slice, Instr.sliceBounds, hz]
    | some v =>
      obtain ⟨k, rfl⟩ := hh
      simp [Instr.sliceAt, run_underlying hu, Instr.slice, Instr.sliceBounds, Instr.sliceBound, asIntOf, hz, e1, h2]
  | some v =>
    obtain ⟨k, rfl⟩ := hl
    cases hi with
    | none =>
      have hh : h = ln := hh
      subst hh
      have e4 : l ≤ (ln : Int) := h1
      simp [Instr.sliceAt, run_underlying hu, Instr.slice, Instr.sliceBounds, Instr.sliceBound, asIntOf, hz, h0, e4]
    | some v =>
      obtain ⟨k, rfl⟩ := hh
      have e6 : max h 0 = h := by omega
      have e7 : ¬ h < l := by omega
      simp [Instr.sliceAt, run_underlying hu, Instr.slice, Instr.sliceBounds, Instr.sliceBound, asIntOf, hz, h0, e1, h2, e6, e7]
theorem slice_sound {F : Nat → Prop} {t el : TypeId} {z : Nat} {n : Int} {r : Row} {y : Value} (hrep : Rep F w (.slc z n r) y) (hu : P.underlying t = some (.slice el)) (hz : (sizeOf el).run P w = .ok z w) {l h : Int} {lo hi : Option Value} (h0 : 0 ≤ l) (h1 : l ≤ h) (h2 : h ≤ n) (hl : bound_is l 0 lo) (hh : bound_is h n hi) :
    ∃ y', (Instr.sliceAt t y lo hi none).run P w = .ok y' w ∧ Rep F w (.slc z (subZ h l) (.sub r l)) y' := by
  cases hrep with
  | nil hz0 hc =>
    rename_i ad c
    obtain rfl : l = 0 := by omega
    obtain rfl : h = 0 := by omega
    refine ⟨_, run_slice hu hz ad 0 c (by omega) (by omega) (by omega) hl hh, ?_⟩
    show Rep F w (.slc z 0 (.sub r 0)) (.slice _ (0 - 0) _)
    refine .nil hz0 fun e => ?_
    cases ad with
    | none => rw [hc rfl]; rfl
    | some ad => split at e <;> simp at e
  | slc u hz0 hcap hF hg hu' hr =>
    rename_i n b off c arr t'
    obtain ⟨l, rfl⟩ := Int.eq_ofNat_of_zero_le h0
    obtain ⟨h, rfl⟩ := Int.eq_ofNat_of_zero_le (show 0 ≤ h by omega)
    refine ⟨_, run_slice hu hz (some ⟨b, off, none⟩) n c (by omega) h1 (by omega) hl hh, ?_⟩
    have e1 : subZ (h : Int) (l : Int) = ((h - l : Nat) : Int) := by unfold subZ; omega
    rw [e1, Int.toNat_natCast, Int.toNat_natCast]
    by_cases hd : h - l = 0
    · rw [hd]
      refine .nil hz0 fun e => ?_
      split at e <;> simp at e
    · rw [if_neg (by omega)]
      simp only [Option.map_some, Addr.add_lit]
      refine .slc (fun i j => u (i + l) j) hz0 (by omega) hF hg (fun i j hi hj => ?_) (fun i j hi hj => ?_)
      · have := hu' (i + l) j (by omega) hj
        rw [Nat.add_mul] at this
        rw [← this]
        congr 1
        omega
      · have := hr (i + l) j (by omega) hj
        show Rep F w (den r (addZ i l) j) _
        rw [show addZ (i : Int) (l : Int) = ((i + l : Nat) : Int) by unfold addZ; omega]
        exact this

theorem effect_sound (hO : OSound P O) (R : RelE base X F0 B E s a w) (hb : base ≤ w.heap.size) {name : Nat} {e : Eff} (he : effect P O name s o = some e) (hk : knownOf s o = true) (hok : ∀ q ∈ e.ok, q) (hnw : e.nw.isSome = true → s.mem name = none ∧ name < PN)
    {p : Prop} {li : List Tmp} {gen : Nat} {K : Act → World → Prop} {Q : Exit → Act → World → Prop}
    (hK : ∀ E' a' w', RelE base X F0 B E' ⟨setTmp s.tmps o.dst (gnow e.v), applyU s.mem (upsOf name e), p, li, gen⟩ a' w' → Keep base X w w' → K a' w') : o.wp P a w K Q := by
  have kn : (∀ c u v, o.op ≠ .pick c u v) → ∀ x ∈ o.op.operands.toList, ConcS (live s) E w (valOf s x) (a.eval x) :=
    fun hp x hx => R.eval x (known_all hp hk hx)
  unfold effect at he
  split at he
  · -- move
    rename_i x ho
    simp only [eV, Option.some.injEq] at he
    subst he
    exact fin R (by simp [execOp, ho]) (kn (by simp [ho]) x (by simp [ho, Op.operands])) hK
  · -- assign
    rename_i x ho
    simp only [eV, Option.some.injEq] at he
    subst he
    exact fin R (by simp [execOp, ho]) (kn (by simp [ho]) x (by simp [ho, Op.operands])) hK
  · -- nilCheck
    rename_i x ho
    have hx := kn (by simp [ho]) x (by simp [ho, Op.operands])
    split at he <;> try (simp at he; done)
    · rename_i m off q
      simp only [eV, Option.some.injEq] at he
      subst he
      rw [q] at hx
      refine fin R (y := a.eval x) ?_ hx hK
      simp only [execOp, ho, cv_ptr hx]; rfl
    · rename_i m z i off q
      simp only [eV, Option.some.injEq] at he
      subst he
      rw [q] at hx
      have hx' := hx
      obtain ⟨_, _, b, c, ln, _, _, hy⟩ := hx'
      refine fin R (y := a.eval x) ?_ hx hK
      simp only [execOp, ho, hy]; rfl
    · rename_i z r i off q
      simp only [eV, Option.some.injEq] at he
      subst he
      rw [q] at hx
      have hx' := hx
      obtain ⟨_, b, o', arr, t, _, _, hy, _⟩ := hx'
      refine fin R (y := a.eval x) ?_ hx hK
      simp only [execOp, ho, hy]; rfl
  · -- pick
    rename_i c x y ho
    unfold knownOf at hk
    rw [ho] at hk
    split at he <;> try (simp at he; done)
    · rename_i q
      simp only [eV, Option.some.injEq] at he
      subst he
      simp only [q, Bool.and_eq_true] at hk
      have hc := R.eval c hk.1
      have q' : (operand s c).v = _ := q
      rw [q'] at hc
      refine fin R (y := a.eval x) ?_ (R.eval x hk.2) hK
      simp [execOp, ho, cv_v hc, asBool]
    · rename_i q
      simp only [eV, Option.some.injEq] at he
      subst he
      simp only [q, Bool.and_eq_true] at hk
      have hc := R.eval c hk.1
      have q' : (operand s c).v = _ := q
      rw [q'] at hc
      refine fin R (y := a.eval y) ?_ (R.eval y hk.2) hK
      simp [execOp, ho, cv_v hc, asBool]
  · -- alloc
    rename_i t ho
    split at he <;> try (simp at he; done)
    rename_i l hz
    simp only [Option.some.injEq] at he
    subst he
    obtain ⟨hn1, hn2⟩ := hnw rfl
    obtain ⟨i, z, hi, hiz, hzc, _, hp⟩ := zeroL_spec hz
    obtain ⟨E', R'⟩ := R.new_cells hb hn1 hn2 l.toArray t (l.map .v) (zeroL_conc hp) o.dst p li gen
    refine wp_new (y := .pointer (some ⟨w.heap.size, 0, none⟩)) (w' := w.alloc (.cells l.toArray t)) ?_ (hK E' _ _ R' ⟨rfl, rfl, rfl, by simp, fun k hk _ => heap_alloc_old w _ _ (by omega)⟩)
    simp [execOp, ho, Instr.alloc, zeroValue, typeInfo, hi, hiz, hzc, newVar, newRow]
  · -- box
    rename_i t x ho
    have hx := kn (by simp [ho]) x (by simp [ho, Op.operands])
    split at he <;> try (simp at he; done)
    rename_i v q
    simp only [Option.some.injEq] at he
    subst he
    rw [q] at hx
    obtain ⟨hn1, hn2⟩ := hnw rfl
    obtain ⟨E', R'⟩ := R.new_cells hb hn1 hn2 (a.eval x).cells t (cellsOf v) (ConcX.cells hx) o.dst p li gen
    refine wp_new (y := .pointer (some ⟨w.heap.size, 0, none⟩)) (w' := w.alloc (.cells (a.eval x).cells t)) ?_ (hK E' _ _ R' ⟨rfl, rfl, rfl, by simp, fun k hk _ => heap_alloc_old w _ _ (by omega)⟩)
    simp [execOp, ho, Instr.box, newVar, newRow]
  · -- load
    rename_i t x ho
    have hx := kn (by simp [ho]) x (by simp [ho, Op.operands])
    split at he <;> try (simp at he; done)
    · rename_i m off q
      rw [q] at hx
      split at he <;> try (simp at he; done)
      rename_i l hm
      split at he <;> try (simp at he; done)
      rename_i v hp
      simp only [Option.some.injEq] at he
      subst he
      obtain ⟨arr, el, h1, h2⟩ := block_mem R hm hx.1
      obtain ⟨y, e1, e2⟩ := load_part (P := P) h1 h2 hp
      refine fin (v := .x v) R (y := y) ?_ e2 hK
      simp only [execOp, ho, cv_ptr hx, Sem.run_bind, e1]; rfl
    · rename_i m z i off q
      rw [q] at hx
      obtain ⟨_, h0, b, c, ln, hv, hi, hy⟩ := hx
      split at he <;> try (simp at he; done)
      rename_i z' n r hm
      split at he <;> try (simp at he; done)
      rename_i hz
      have hz := Nat.eq_of_beq_eq_true hz
      subst hz
      split at he <;> try (simp at he; done)
      rename_i v hp
      simp only [Option.some.injEq] at he
      subst he
      obtain ⟨arr, el, h1, h2⟩ := row_elem R hm hv h0 hi
      obtain ⟨y, e1, e2⟩ := load_elem (P := P) (L := live s) h1 h2 hp
      refine fin (v := .x v) R (y := y) ?_ e2 hK
      simp only [execOp, ho, hy, Sem.run_bind, e1]; rfl
    · rename_i z r i off q
      rw [q] at hx
      obtain ⟨_, b, o', arr, el, _, h1, hy, h2⟩ := hx
      split at he <;> try (simp at he; done)
      rename_i v hp
      simp only [eV, Option.some.injEq] at he
      subst he
      obtain ⟨y, e1, e2⟩ := load_elem (P := P) (L := live s) h1 h2 hp
      refine fin (v := .x v) R (y := y) ?_ e2 hK
      simp only [execOp, ho, hy, Sem.run_bind, e1]; rfl
  · -- store
    rename_i t x v ho
    have hx := kn (by simp [ho]) x (by simp [ho, Op.operands])
    have hv := kn (by simp [ho]) v (by simp [ho, Op.operands])
    split at he <;> try (simp at he; done)
    · rename_i m off xv q1 q2
      rw [q1] at hx
      rw [q2] at hv
      split at he <;> try (simp at he; done)
      rename_i l hm
      split at he <;> try (simp at he; done)
      rename_i hc
      simp only [Bool.and_eq_true, Nat.beq_eq, Nat.ble_eq] at hc
      obtain ⟨⟨c1, c2⟩, c3⟩ := hc
      simp only [Option.some.injEq] at he
      subst he
      obtain ⟨hlt, hX, hnF, arr, el, hg, hl⟩ := R.mem m _ hm
      have hcells := ConcX.cells hv
      have l1 := hcells.len
      have l2 := hl.len
      simp only [Array.length_toList] at l1 l2
      have hg' : w.heap[E.β m]? = some (.cells arr.toList.toArray el (0, 0)) := by simpa using hg
      have hsp := Fa2.splice off hl hcells
      have run := run_store_part (P := P) (E.β m) off el t arr.toList (a.eval v) hg' c1 (by omega) (by rw [Array.length_toList]; omega) (ConcX.ones hv)
      obtain ⟨R', kp⟩ := R.put_cells hm (PR.splice arr.toList off (a.eval v).cells.toList).toArray (by simpa using hsp) o.dst (gnow (.tup [])) undef (fun _ => ⟨[], rfl, trivial⟩) p li gen
      refine wp_skip' ?_ (hK E _ _ R' kp)
      have hp := cv_ptr hx
      rw [adr_lt hlt] at hp
      simp only [execOp, ho, hp, Sem.run_bind, run]; rfl
    · rename_i m z i off xv q1 q2
      rw [q1] at hx
      rw [q2] at hv
      obtain ⟨_, h0, b, c, ln, hν, hi, hy⟩ := hx
      split at he <;> try (simp at he; done)
      rename_i z' n r hro
      split at he <;> try (simp at he; done)
      rename_i hc
      simp only [Bool.and_eq_true, Nat.beq_eq, Nat.ble_eq] at hc
      obtain ⟨⟨⟨⟨c0, c1⟩, c2⟩, c3⟩, c4⟩ := hc
      subst c0
      simp only [Option.some.injEq] at he
      subst he
      unfold rowW at hro
      split at hro <;> try (simp at hro; done)
      rename_i z3 n3 r3 hm
      simp only [Option.some.injEq, Prod.mk.injEq] at hro
      obtain ⟨rfl, rfl, rfl⟩ := hro
      obtain ⟨_, k0, hz0, hnF, el, xs, ho', hr⟩ := R.mem m _ hm
      have hcells := ConcX.cells hv
      have l1 := hcells.len
      simp only [Array.length_toList] at l1
      obtain ⟨n, rfl⟩ := Int.eq_ofNat_of_zero_le k0
      rcases ho'.2 with ⟨hv', _⟩ | ⟨g, cap, cur, hv', hbg, hg, hnc, hcm, hcs, htake⟩
      · rw [hν] at hv'; simp at hv'
      · have hvv := hv'
        rw [hν] at hvv
        simp only [Value.slice.injEq, Option.some.injEq, Addr.mk.injEq, and_true] at hvv
        obtain ⟨rfl, rfl, _⟩ := hvv
        have hn : ((ln : Int)).toNat = ln := by simp
        rw [hn] at hnc htake
        have hlen : xs.length = ln * z3 := by rw [ho'.1, hn]
        have hiz : i.toNat * z3 + z3 ≤ ln * z3 := by
          have : (i.toNat + 1) * z3 ≤ ln * z3 := Nat.mul_le_mul_right z3 hi
          rw [Nat.add_mul, Nat.one_mul] at this; exact this
        have hcap : ln * z3 ≤ cap * z3 := Nat.mul_le_mul_right z3 hnc
        have hg' : w.heap[b]? = some (.cells cur.toList.toArray el (0, 0)) := by simpa using hg
        have run := run_store_part (P := P) b (i.toNat * z3 + off) el t cur.toList (a.eval v) hg' c1 (by omega) (by rw [Array.length_toList, hcs]; omega) (ConcX.ones hv)
        have ru := RepRow.upd (off := off) hr hlen (fz_reps c4 hcells) hi c3
        rw [show ((i.toNat : Nat) : Int) = i by omega] at ru
        have hown' : (w.setRow b (PR.splice cur.toList (i.toNat * z3 + off) (a.eval v).cells.toList).toArray).ownsRow base el z3 (E.ν m) ((ln : Int)).toNat (PR.splice xs (i.toNat * z3 + off) (a.eval v).cells.toList) := by
          refine ⟨by rw [hn]; exact ru.2, .inr ⟨b, cap, _, hv', hbg, setRow_heap w b cur _ el _ hg, by rw [hn]; exact hnc, hcm, ?_, ?_⟩⟩
          · unfold PR.splice
            rw [List.size_toArray, splice_len _ _ _ (by rw [Array.length_toList, Array.length_toList, hcs]; omega), Array.length_toList, hcs]
          · rw [hn, ← htake]
            apply List.ext_getElem?
            intro k
            unfold PR.splice
            rw [splice_get _ _ _ _ (by rw [List.length_take, Array.length_toList, Array.length_toList, hcs]; omega), List.getElem?_take]
            have e2 := splice_get cur.toList (a.eval v).cells.toList (i.toNat * z3 + off) k (by rw [Array.length_toList, Array.length_toList, hcs]; omega)
            simp only [List.getElem?_take] at *
            rw [e2]
            by_cases hk : k < ln * z3
            · simp only [hk, if_true]
            · simp only [hk, if_false]
              rw [if_neg (by omega), if_neg (by rw [Array.length_toList]; omega)]
        have ru' : RepRow E.F w z3 (ln : Int) (updsR r3 i off (cellsOf xv)) (PR.splice xs (i.toNat * z3 + off) (a.eval v).cells.toList) := ru.1
        obtain ⟨R', kp⟩ := R.put_row hm (w' := w.setRow b (PR.splice cur.toList (i.toNat * z3 + off) (a.eval v).cells.toList).toArray) (k0 := b) (by rw [hv']; rfl) (fun k hk => setRow_other w b k _ hk) ⟨rfl, rfl, rfl, by simp⟩ hown' ru' o.dst (gnow (.tup [])) undef (fun _ => ⟨[], rfl, trivial⟩) p li gen
        refine wp_skip' ?_ (hK E _ _ R' kp)
        simp only [execOp, ho, hy, Sem.run_bind, run]; rfl
  · -- binOp
    rename_i op t x y yt ho
    have hx := kn (by simp [ho]) x (by simp [ho, Op.operands])
    have hy := kn (by simp [ho]) y (by simp [ho, Op.operands])
    split at he <;> try (simp at he; done)
    · -- strings
      rename_i sa sb q1 q2
      rw [q1] at hx
      rw [q2] at hy
      have ex := cv_v hx
      have ey := cv_v hy
      split at he <;> try (simp at he; done)
      rename_i v hu hv
      simp only [eV, Option.some.injEq] at he
      subst he
      unfold strV at hv
      split at hv <;> try (simp at hv; done)
      · simp only [Option.some.injEq] at hv
        subst hv
        refine fin_v R rfl ?_ hK
        simp [execOp, ho, ex, ey, eqGuard_at_string, binOp_string_eql, ByteArray.toList_eq, seqB]
      · simp only [Option.some.injEq] at hv
        subst hv
        refine fin_v R rfl ?_ hK
        simp [execOp, ho, ex, ey, eqGuard_at_string, binOp, Op.stringOp, ByteArray.toList_eq, seqB, bnot, bne]
    · -- plain values
      rename_i va vb _ q1 q2
      rw [q1] at hx
      rw [q2] at hy
      have ex := cv_v hx
      have ey := cv_v hy
      split at he <;> try (simp at he; done)
      rename_i v l hv
      split at he <;> try (simp at he; done)
      rename_i hp
      simp only [Option.some.injEq] at he
      subst he
      have hb' : ∀ c ∈ l, c = true := fun c hc => hok (c = true) (List.mem_map.2 ⟨c, hc, rfl⟩)
      have r := binV_plain hv hb' x y w
      refine fin_v R hp ?_ hK
      simp only [execOp, ho, ex, ey]
      rw [Sem.run_bind, r]; rfl
    · -- cells
      rename_i la lb q1 q2
      rw [q1] at hx
      rw [q2] at hy
      obtain ⟨xs, ex, fx⟩ := hx
      obtain ⟨ys, ey, fy⟩ := hy
      split at he <;> try (simp at he; done)
      rename_i va vb h1 h2
      have e1 := toVs_conc h1 fx
      have e2 := toVs_conc h2 fy
      subst e1 e2
      split at he <;> try (simp at he; done)
      rename_i v l hv
      split at he <;> try (simp at he; done)
      rename_i hp
      simp only [Option.some.injEq] at he
      subst he
      have hb' : ∀ c ∈ l, c = true := fun c hc => hok (c = true) (List.mem_map.2 ⟨c, hc, rfl⟩)
      have r := binV_plain hv hb' x y w
      refine fin_v R hp ?_ hK
      simp only [execOp, ho, ex, ey]
      rw [Sem.run_bind, r]; rfl
  · -- unOp
    rename_i op t x ho
    have hx := kn (by simp [ho]) x (by simp [ho, Op.operands])
    split at he <;> try (simp at he; done)
    rename_i va q1
    rw [q1] at hx
    have ex := cv_v hx
    split at he <;> try (simp at he; done)
    rename_i v l hv
    split at he <;> try (simp at he; done)
    rename_i hp
    simp only [Option.some.injEq] at he
    subst he
    obtain ⟨r, _⟩ := run_unV hv w (P := P)
    refine fin_v R hp ?_ hK
    simp only [execOp, ho, ex, Sem.run_bind, r]; rfl
  · -- convert
    rename_i src dst x ho
    have hx := kn (by simp [ho]) x (by simp [ho, Op.operands])
    split at he <;> try (simp at he; done)
    · rename_i k n d k' q1 q2 q3
      simp only [eV, Option.some.injEq] at he
      subst he
      rw [q1] at hx
      have ex := cv_v hx
      have hd : P.intKind dst = k' := by simp [Program.intKind, q3]
      have r := run_convert_int (P := P) w src dst k n (by simp [q2]) (by rw [hd]; exact q3)
      rw [hd] at r
      refine fin_v R rfl ?_ hK
      simp only [execOp, ho, ex, Sem.run_bind, r]; rfl
    · rename_i k n d k' q1 q2 q3
      simp only [eV, Option.some.injEq] at he
      subst he
      rw [q1] at hx
      have ex := cv_v hx
      have r := run_convert_int_float (P := P) w src dst k k' n (by simp [q2]) q3
      refine fin_v R rfl ?_ hK
      simp only [execOp, ho, ex, Sem.run_bind, r]; rfl
  · -- fieldAddr
    rename_i t x f ho
    have hx := kn (by simp [ho]) x (by simp [ho, Op.operands])
    split at he <;> try (simp at he; done)
    rename_i fs q2
    split at he <;> try (simp at he; done)
    rename_i fd q3
    split at he <;> try (simp at he; done)
    rename_i q4
    simp only [beq_iff_eq] at q4
    have hz : (sizeOf fd.type).run P w = .ok (sizeT P fd.type) w := by
      unfold sizeT at *
      cases hi : P.info? fd.type with
      | none => simp [hi] at q4
      | some i => simp [sizeOf, typeInfo, hi]
    have run : ∀ b off : Nat, a.eval x = .pointer (some ⟨b, off, none⟩) → (execOp a.eval o).run P w = .ok (.value (.pointer (some ⟨b, off + fd.offset, none⟩))) w := by
      intro b off e1
      simp only [execOp, ho, e1, Sem.run_bind, Instr.fieldAt, run_underlying q2, Result.andThen_ok, q3, Instr.sureAddr, Sem.run_pure, fieldPlace, hz, q4, if_false, Addr.add_lit]
    split at he <;> try (simp at he; done)
    · rename_i m off q1
      simp only [eV, Option.some.injEq] at he
      subst he
      rw [q1] at hx
      exact fin (v := .x (.c (.ptr m (off + fd.offset)))) R (run _ _ (cv_ptr hx)) ⟨hx.1, rfl⟩ hK
    · rename_i m z i off q1
      simp only [eV, Option.some.injEq] at he
      subst he
      rw [q1] at hx
      obtain ⟨h1, h0, b, c, ln, hν, hi, hy⟩ := hx
      exact fin (v := .eptr m z i (off + fd.offset)) R (run _ _ hy) ⟨h1, h0, b, c, ln, hν, hi, by rw [Nat.add_assoc]⟩ hK
    · rename_i z r i off q1
      simp only [eV, Option.some.injEq] at he
      subst he
      rw [q1] at hx
      obtain ⟨h0, b, o', arr, el, hF, h1, hy, h2⟩ := hx
      exact fin (v := .fptr z r i (off + fd.offset)) R (run _ _ hy) ⟨h0, b, o', arr, el, hF, h1, by rw [Nat.add_assoc], h2⟩ hK
  · -- extract
    rename_i x i ho
    have hx := kn (by simp [ho]) x (by simp [ho, Op.operands])
    split at he <;> try (simp at he; done)
    rename_i l q1
    split at he <;> try (simp at he; done)
    rename_i v q2
    simp only [eV, Option.some.injEq] at he
    subst he
    rw [q1] at hx
    obtain ⟨ys, hy, hf⟩ := hx
    obtain ⟨y, e1, e2⟩ := hf.get q2
    refine fin (v := .x v) R (y := y) ?_ e2 hK
    have e1 : ys.toArray[i]? = some y := by simpa using e1
    simp only [execOp, ho, hy, Sem.run_bind, Instr.extract, e1]; rfl
  · -- call
    rename_i c ho
    have hv := kn (by simp [ho])
    split at he
    · rename_i b hcal
      exact builtin_sound R hb ho hv hcal he hok hnw hK
    · split at he <;> try (simp at he; done)
      rename_i f caps hcal
      exact call_sound hO R hb ho hv hcal he hok hK
  · -- build
    rename_i t parts ho
    have hv := kn (by simp [ho])
    split at he <;> try (simp at he; done)
    rename_i l ps pl hz hps hpl
    split at he <;> try (simp at he; done)
    rename_i cells hc
    simp only [eV, Option.some.injEq] at he
    subst he
    obtain ⟨i, z, hi, hiz, hzc, _, hp⟩ := zeroL_spec hz
    have hp1 := partsOf_sound (base := base) (X := X) (F0 := F0) (a := a) (w := w) (E := E) (fun q hq => hv q.2 (by simp only [ho, Op.operands]; exact List.mem_map_of_mem hq)) hps
    obtain ⟨arr, f1, f2⟩ := fill_sound hp1 (arr := z.cells) (by rw [hzc]; exact zeroL_conc hp) hc
    have hbd : P.built t (parts.map fun (i, x) => (i, a.eval x)).toList = some arr := by
      rw [built_eq hpl hi hiz, Array.toList_map]; exact f1
    refine fin (v := .x (.agg cells)) R (y := .agg arr) ?_ ⟨arr.toList, by simp, f2⟩ hK
    simp only [execOp, ho, Sem.run_bind, run_build (P := P) w t _ arr hbd]; rfl
  · -- buildSlice
    rename_i t len parts ho
    have hv := kn (by simp [ho])
    split at he <;> try (simp at he; done)
    rename_i el hu
    split at he <;> try (simp at he; done)
    rename_i l ps hz hps
    split at he <;> try (simp at he; done)
    rename_i hc
    simp only [Bool.and_eq_true, Nat.ble_eq, Nat.blt_eq] at hc
    obtain ⟨⟨c1, c2⟩, c3⟩ := hc
    split at he <;> try (simp at he; done)
    rename_i r hr
    simp only [Option.some.injEq] at he
    subst he
    obtain ⟨hn1, hn2⟩ := hnw rfl
    obtain ⟨i, z, hi, hiz, hzc, hzl, hp⟩ := zeroL_spec hz
    have hs : sizeT P el = i.size := by simp [sizeT, hi]
    rw [hs] at c1 c2 hr
    rw [hs] at hK
    rw [← hzl] at c1 c2 hr hK
    have hp1 := partsOf_sound (base := base) (X := X) (F0 := F0) (a := a) (w := w) (E := E) (fun q hq => hv q.2 (by simp only [ho, Op.operands]; exact List.mem_map_of_mem hq)) hps
    have hz0 : RepRow E.F w l.length len (.zer l) (madeCells l.toArray (len * l.length)).toList := by
      have := RepRow.made (F := E.F) (w := w) hp c2 (len : Int) len (by simp)
      rw [show ((len : Int)).toNat = len by simp, List.take_of_length_le (by rw [Array.length_toList, size_madeCells]; omega)] at this
      exact this
    obtain ⟨arr, f1, f2, f3⟩ := fillR_sound (n := len) hp1 (fun q hq => by have := List.all_eq_true.1 c3 q hq; simpa [Nat.blt_eq] using this) hz0 (size_madeCells _ _) hr
    have hown := World.ownsRow_lit (w := w) (base := base) (e := el) (size := l.length) arr len hb (by simp only [maxLen]; have := Nat.le_trans (Nat.le_mul_of_pos_right len c2) c1; omega) f3
    have T : ∀ k, E.F k → (w.alloc (.cells arr el)).heap[k]? = w.heap[k]? := fun k hk => heap_alloc_old w _ _ (R.frz k hk).1
    obtain ⟨⟨E', R'⟩, kp⟩ := R.new_row hb hn1 hn2 (World.grownBy_alloc w (.cells arr el) none) (u := []) (Or.inl ⟨rfl, rfl⟩) (n := len) (r := r) c2 (by omega) (by simpa using hown) (fun i' j h h' => by obtain ⟨u, q1, q2⟩ := f2 i' j h h'; exact ⟨u, q1, q2.mono (fun _ h => h) T⟩)
      (fun k hk => by simp only [Value.ownBlock, Option.some.injEq] at hk; omega) o.dst p li gen
    refine wp_new ?_ (hK E' _ _ R' kp)
    have hne : ¬ (16777216 < len * i.size) := by rw [← hzl]; omega
    have f1' : Instr.fill (fun k => some (k * i.size, i.size)) ((Array.range (len * i.size)).map (z.cells[· % z.cells.size]!)) (parts.map fun (i, x) => (i, a.eval x)).toList = some arr := by
      rw [hzc, ← hzl, Array.toList_map]; exact f1
    by_cases h0 : len * i.size = 0
    · have f1'' : Instr.fill (fun k => some (k * i.size, i.size)) #[] (parts.map fun (i, x) => (i, a.eval x)).toList = some arr := by
        rw [h0] at f1'; simpa [Array.range_zero'] using f1'
      simp only [Array.toList_map] at f1''
      simp [execOp, ho, Instr.buildSlice, run_underlying hu, sizeOf, typeInfo, hi, hne, h0, f1'', newRow, Array.range_zero']
    · simp only [Array.toList_map] at f1'
      simp [execOp, ho, Instr.buildSlice, run_underlying hu, sizeOf, typeInfo, hi, hne, h0, zeroValue, hiz, f1', newRow]
  · -- makeSlice
    rename_i t l c ho
    have hl := kn (by simp [ho]) l (by simp [ho, Op.operands])
    have hc := kn (by simp [ho]) c (by simp [ho, Op.operands])
    split at he <;> try (simp at he; done)
    rename_i el kl n kc k hu q1 q2
    split at he <;> try (simp at he; done)
    rename_i zs hz
    split at he <;> try (simp at he; done)
    rename_i hsz
    simp only [Nat.blt_eq] at hsz
    simp only [Option.some.injEq] at he
    subst he
    obtain ⟨hn1, hn2⟩ := hnw rfl
    obtain ⟨i, z, hi, hiz, hzc, hzl, hp⟩ := zeroL_spec hz
    have hs : sizeT P el = i.size := by simp [sizeT, hi]
    have hby : bytesT P el = i.bytes := by simp [bytesT, hi]
    rw [hs] at hsz hK
    rw [← hzl] at hsz hK
    simp only [List.mem_cons, List.not_mem_nil, or_false, forall_eq_or_imp, forall_eq, ile, decide_eq_true_eq, imulZ, hby] at hok
    obtain ⟨o1, o2, o3, o4⟩ := hok
    have run := run_make (P := P) w t el i z hu hi hiz kl kc n k o1 o2 (by rw [Int.mul_comm]; omega) (by omega)
    rw [hzc, ← hzl] at run
    have hcap : (madeCells zs.toArray (k.toNat * zs.length)).size = k.toNat * zs.length := size_madeCells _ _
    have hown : (w.alloc (.cells (madeCells zs.toArray (k.toNat * zs.length)) el)).ownsRow base el zs.length (.slice (some ⟨w.heap.size, 0, none⟩) n.toNat k.toNat) n.toNat ((madeCells zs.toArray (k.toNat * zs.length)).toList.take (n.toNat * zs.length)) := by
      refine ⟨?_, .inr ⟨w.heap.size, _, _, rfl, hb, heap_alloc_new w _, by omega, by simp only [maxLen]; omega, hcap, rfl⟩⟩
      have : n.toNat * zs.length ≤ k.toNat * zs.length := Nat.mul_le_mul_right _ (by omega)
      have e : (madeCells zs.toArray (k.toNat * zs.length)).toList.length = k.toNat * zs.length := hcap
      rw [List.length_take, e]; omega
    obtain ⟨⟨E', R'⟩, kp⟩ := R.new_row hb hn1 hn2 (World.grownBy_alloc w (.cells (madeCells zs.toArray (k.toNat * zs.length)) el) none) (u := []) (Or.inl ⟨rfl, rfl⟩) (n := n) (r := .zer zs) hsz o1 hown (RepRow.made hp hsz n k.toNat (by omega))
      (fun k' hk => by simp only [Value.ownBlock, Option.some.injEq] at hk; omega) o.dst p li gen
    refine wp_new ?_ (hK E' _ _ R' kp)
    simp only [execOp, ho, cv_int q1 hl, cv_int q2 hc, Sem.run_bind, run]; rfl
  · -- slice
    rename_i t x lo hh mx ho
    have hv := kn (by simp [ho])
    have hx := hv x (by simp [ho, Op.operands])
    split at he <;> try (simp at he; done)
    rename_i el ms z n r hu hsrc
    split at he <;> try (simp at he; done)
    rename_i l h hl hh'
    split at he <;> try (simp at he; done)
    rename_i hc
    simp only [Bool.and_eq_true, Nat.beq_eq] at hc
    obtain ⟨hc, hinfo⟩ := hc
    simp only [Option.some.injEq] at he
    subst he
    simp only [List.mem_cons, List.not_mem_nil, or_false, forall_eq_or_imp, forall_eq, ile, decide_eq_true_eq] at hok
    obtain ⟨o1, o2, o3⟩ := hok
    have hrep : Rep (callF E s ms) w (.slc z n r) (a.eval x) := by
      unfold sliceSrc at hsrc
      split at hsrc <;> try (simp at hsrc; done)
      rename_i c q
      split at hsrc <;> try (simp at hsrc; done)
      rename_i z' n' r' ms' hres
      simp only [Option.some.injEq, Prod.mk.injEq] at hsrc
      obtain ⟨rfl, rfl, rfl, rfl⟩ := hsrc
      rw [q] at hx
      exact resC_sound R hres (fun _ h => h) hx
    obtain ⟨i, hi⟩ := Option.isSome_iff_exists.1 hinfo
    have hz : (sizeOf el).run P w = .ok z w := by rw [hc]; simp [sizeOf, typeInfo, sizeT, hi]
    have hlv : bound_is l 0 (lo.map a.eval) := bound_sound hl fun y hy => hv y (by subst hy; simp [ho, Op.operands])
    have hhv : bound_is h n (hh.map a.eval) := bound_sound hh' fun y hy => hv y (by subst hy; simp [ho, Op.operands])
    obtain ⟨y, run, hy⟩ := slice_sound (P := P) hrep hu hz o1 o2 o3 hlv hhv
    have hp : Post (callF E s ms) w (([] : List Nat).map E.β) ⟨[.c (.slc z (subZ h l) (.sub r l))], [], []⟩ y w :=
      ⟨Keep.refl _ _ _, callF E s ms, fun _ h => h, fun k hk => ⟨callF_lt R hk, Or.inl hk⟩, hy, trivial⟩
    obtain ⟨⟨E', R'⟩, kp⟩ := R.called hb (refs := []) (by simp) hp (u := []) rfl o.dst p li gen
    rw [List.append_nil] at R'
    refine wp_new ?_ (hK E' _ _ R' kp)
    simp only [execOp, ho, Sem.run_bind, Option.map_none, run]; rfl
  · -- makeFunc
    rename_i f first caps ho
    split at he <;> try (simp at he; done)
    rename_i hf
    have hf : first = #[] := Array.eq_empty_of_size_eq_zero (Nat.eq_of_beq_eq_true hf)
    subst hf
    split at he <;> try (simp at he; done)
    rename_i l hl
    simp only [eV, Option.some.injEq] at he
    subst he
    have hcap : ∀ (cl : List Operand) (l : List (Nat × Nat)), capsOf s cl = some l → (∀ q ∈ l, live s q.1) ∧ cl.map a.eval = l.map fun q => Value.pointer (some ⟨adr E q.1, q.2, none⟩) := by
      intro cl
      induction cl with
      | nil => intro l h; simp only [capsOf, Option.some.injEq] at h; subst h; exact ⟨by simp, rfl⟩
      | cons x cl ih =>
        intro l h
        unfold capsOf at h
        split at h <;> try (simp at h; done)
        rename_i m off k h1 h2
        simp only [Option.some.injEq] at h
        subst h
        obtain ⟨i1, i2⟩ := ih k h2
        have hx := R.eval x (by rw [h1])
        rw [h1] at hx
        refine ⟨fun q hq => ?_, ?_⟩
        · rcases List.mem_cons.1 hq with rfl | hq
          · exact hx.1
          · exact i1 q hq
        · simp only [List.map_cons, i2, hx.2]
    obtain ⟨i1, i2⟩ := hcap _ _ hl
    refine fin (v := .x (.c (.fn f l))) R (y := .func (.func f) #[] (caps.map a.eval)) ?_ ⟨i1, ?_⟩ hK
    · simp [execOp, ho, Instr.makeFunc]
    · have : caps.map a.eval = (l.map fun q => Value.pointer (some ⟨adr E q.1, q.2, none⟩)).toArray := by
        apply Array.ext'; simpa using i2
      rw [this]
  · -- field
    rename_i t x f ho
    have hx := kn (by simp [ho]) x (by simp [ho, Op.operands])
    split at he <;> try (simp at he; done)
    rename_i l fs q1 q2
    split at he <;> try (simp at he; done)
    rename_i fd q3
    split at he <;> try (simp at he; done)
    rename_i v q4
    simp only [eV, Option.some.injEq] at he
    subst he
    rw [q1] at hx
    obtain ⟨ys, hy, hf⟩ := hx
    obtain ⟨y, e1, e2⟩ := part_conc (P := P) q4 hf
    refine fin (v := .x v) R (y := y) ?_ e2 hK
    simp only [execOp, ho, hy, Sem.run_bind, Instr.field, run_underlying q2, Result.andThen_ok, q3, asAgg, Sem.run_pure, run_partV e1]
  · -- index
    rename_i t x i ho
    have hx := kn (by simp [ho]) x (by simp [ho, Op.operands])
    have hi := kn (by simp [ho]) i (by simp [ho, Op.operands])
    split at he <;> try (simp at he; done)
    rename_i l k m len el q1 q2 q3
    split at he <;> try (simp at he; done)
    rename_i v q4
    split at he <;> try (simp at he; done)
    rename_i q5
    simp only [Option.some.injEq] at he
    subst he
    simp only [List.mem_cons, List.not_mem_nil, or_false, forall_eq_or_imp, forall_eq, ile, ilt, decide_eq_true_eq] at hok
    rw [q1] at hx
    obtain ⟨ys, hy, hf⟩ := hx
    have ei := cv_int q2 hi
    obtain ⟨y, e1, e2⟩ := part_conc (P := P) q4 hf
    obtain ⟨ie, q5⟩ := Option.isSome_iff_exists.1 q5
    have hz : (sizeOf el).run P w = .ok (sizeT P el) w := by simp [sizeOf, typeInfo, sizeT, q5]
    refine fin (v := .x v) R (y := y) ?_ e2 hK
    simp only [execOp, ho, hy, ei, Sem.run_bind, Instr.index, asIntOf, Sem.run_pure, run_underlying q3, Result.andThen_ok, hok.1, hok.2, and_self, if_true, hz, run_partV e1]
  · -- indexAddr
    rename_i t x i ho
    have hx := kn (by simp [ho]) x (by simp [ho, Op.operands])
    have hi := kn (by simp [ho]) i (by simp [ho, Op.operands])
    split at he <;> try (simp at he; done)
    · -- an array
      rename_i k m len el q2 q3
      split at he <;> try (simp at he; done)
      rename_i q5
      have ei := cv_int q2 hi
      obtain ⟨ie, q5⟩ := Option.isSome_iff_exists.1 q5
      have hz : (sizeOf el).run P w = .ok (sizeT P el) w := by simp [sizeOf, typeInfo, sizeT, q5]
      have run : 0 ≤ m → m < len → ∀ b off : Nat, a.eval x = .pointer (some ⟨b, off, none⟩) → (execOp a.eval o).run P w = .ok (.value (.pointer (some ⟨b, off + m.toNat * sizeT P el, none⟩))) w := by
        intro o1 o2 b off e1
        simp only [execOp, ho, e1, ei, Sem.run_bind, Instr.indexAt, asIntOf, Sem.run_pure, run_underlying q3, Result.andThen_ok, Instr.sureAddr, o1, o2, and_self, if_true, hz, Addr.add_lit]
      split at he <;> try (simp at he; done)
      · rename_i b off q1
        simp only [Option.some.injEq] at he
        subst he
        simp only [List.mem_cons, List.not_mem_nil, or_false, forall_eq_or_imp, forall_eq, ile, ilt, decide_eq_true_eq] at hok
        rw [q1] at hx
        exact fin (v := .x (.c (.ptr b (off + m.toNat * sizeT P el)))) R (run hok.1 hok.2 _ _ (cv_ptr hx)) ⟨hx.1, rfl⟩ hK
      · rename_i b z j off q1
        simp only [Option.some.injEq] at he
        subst he
        simp only [List.mem_cons, List.not_mem_nil, or_false, forall_eq_or_imp, forall_eq, ile, ilt, decide_eq_true_eq] at hok
        rw [q1] at hx
        obtain ⟨h1, h0, b', c, ln, hν, hi', hy⟩ := hx
        exact fin (v := .eptr b z j (off + m.toNat * sizeT P el)) R (run hok.1 hok.2 _ _ hy) ⟨h1, h0, b', c, ln, hν, hi', by rw [Nat.add_assoc]⟩ hK
      · rename_i z r j off q1
        simp only [Option.some.injEq] at he
        subst he
        simp only [List.mem_cons, List.not_mem_nil, or_false, forall_eq_or_imp, forall_eq, ile, ilt, decide_eq_true_eq] at hok
        rw [q1] at hx
        obtain ⟨h0, b', o', arr, el', hF, h1, hy, h2⟩ := hx
        exact fin (v := .fptr z r j (off + m.toNat * sizeT P el)) R (run hok.1 hok.2 _ _ hy) ⟨h0, b', o', arr, el', hF, h1, by rw [Nat.add_assoc], h2⟩ hK
    · -- a slice
      rename_i k m el q2 q3
      split at he <;> try (simp at he; done)
      rename_i q5
      have ei := cv_int q2 hi
      obtain ⟨ie, q5⟩ := Option.isSome_iff_exists.1 q5
      have hz : (sizeOf el).run P w = .ok (sizeT P el) w := by simp [sizeOf, typeInfo, sizeT, q5]
      have run : 0 ≤ m → ∀ b off ln cc : Nat, m < ln → a.eval x = .slice (some ⟨b, off, none⟩) ln cc → (execOp a.eval o).run P w = .ok (.value (.pointer (some ⟨b, off + m.toNat * sizeT P el, none⟩))) w := by
        intro o1 b off ln cc o2 e1
        simp only [execOp, ho, e1, ei, Sem.run_bind, Instr.indexAt, asIntOf, Sem.run_pure, run_underlying q3, Result.andThen_ok, o1, o2, and_self, if_true, hz, Addr.add_lit]
      split at he <;> try (simp at he; done)
      · rename_i b n q1
        simp only [Option.some.injEq] at he
        subst he
        simp only [List.mem_cons, List.not_mem_nil, or_false, forall_eq_or_imp, forall_eq, ile, ilt, decide_eq_true_eq] at hok
        rw [q1] at hx
        obtain ⟨h1, h2, h3, h4⟩ := hx
        rcases h4 with ⟨_, rfl⟩ | ⟨g, cc, h4⟩
        · omega
        · exact fin (v := .eptr b (sizeT P el) m 0) R (run hok.1 g 0 n.toNat cc (by omega) h4) ⟨h1, hok.1, g, cc, n.toNat, by rw [← h2, h4], by omega, by simp⟩ hK
      · rename_i z n r q1
        split at he <;> try (simp at he; done)
        rename_i hzz
        have hzz := Nat.eq_of_beq_eq_true hzz
        subst hzz
        simp only [Option.some.injEq] at he
        subst he
        simp only [List.mem_cons, List.not_mem_nil, or_false, forall_eq_or_imp, forall_eq, ile, ilt, decide_eq_true_eq] at hok
        rw [q1] at hx
        have hx : Rep E.F w (.slc (sizeT P el) n r) (a.eval x) := hx
        generalize hav : a.eval x = av at hx
        cases hx with
        | nil => omega
        | slc u hz' hc hF hh hu hr =>
          rename_i n' b off c arr t'
          refine fin (v := .fptr (sizeT P el) r m 0) R (run hok.1 b off n' c hok.2 hav) ⟨hok.1, b, off + m.toNat * sizeT P el, arr, t', hF, hh, rfl, fun j hj => ⟨u m.toNat j, hu _ _ (by omega) hj, ?_⟩⟩ hK
          have := hr m.toNat j (by omega) hj
          rw [show ((m.toNat : Nat) : Int) = m by omega] at this; exact this
  · simp at he
end
end Go.Proofs.YtafaadnjkkkafaaDoor.QR
