import Derived.Test.YtcckcifmhhaepaaZaa
import Derived.Test.YtcckcifmhhaepaaZyc
namespace Go.Proofs.Ytcckcifmhhaepaa
open Go.RowKit PR QR
set_option linter.unusedVariables false
set_option linter.unusedSimpArgs false
set_option maxRecDepth 20000
theorem flt_e (m : Im) : imFt m = bif fitB m.w m.h then (bif imF m then 0 else 7) else 6 := rfl
theorem va_e {m : Im} : vaW m = (bif m.sol then 1 else m.w) ∧ vaH m = bif m.sol then 1 else m.h := ⟨rfl, rfl⟩
theorem va_in {m : Im} (f : fitB m.w m.h = true) : (1 ≤ vaW m ∧ vaW m ≤ m.w) ∧ 1 ≤ vaH m ∧ vaH m ≤ m.h := by
  have f4 := fit_iff.1 f
  rw [va_e.1, va_e.2]
  cases m.sol <;> simp <;> omega
theorem va_all {m : Im} {t : Int} (f : fitB m.w m.h = true) : imAll m t = true ↔ ∀ x y : Int, 0 ≤ x → x < vaW m → 0 ≤ y → y < vaH m → pxB m t x y = true := by
  have f4 := fit_iff.1 f
  rw [va_e.1, va_e.2]
  cases hs : m.sol
  · exact imAll_iff f
  · have pb : ∀ x y, pxB m t x y = pvB m.c0 m.c1 m.c2 m.a m.f t := fun x y => by unfold pxB pxV; rw [hs]; rfl
    rw [imAll_sol f hs]
    exact ⟨fun h x y _ _ _ _ => by rw [pb]; exact h, fun h => by have := h 0 0 (by omega) (by simp) (by omega) (by simp); rwa [pb] at this⟩
theorem plr_all {w h : Int} {p : List (List Int)} (hp : plrAll 0 0 w h p) (hw : 1 ≤ w) {x y : Int} (hx : 0 ≤ x ∧ x < w) (hy : 0 ≤ y ∧ y < h) : [x, y] ∈ p := by
  obtain ⟨h1, h2⟩ := hp
  rw [Int.sub_zero, Int.sub_zero] at h1
  have m0 := Int.mul_nonneg hy.1 (show 0 ≤ w by omega)
  have m1 := Int.mul_le_mul_of_nonneg_right (show y ≤ h - 1 by omega) (show 0 ≤ w by omega)
  have m2 : (h - 1) * w = h * w - w := by rw [Int.sub_mul, Int.one_mul]
  have hl : (y * w + x).toNat < p.length := by unfold lnI at h1; omega
  have e := h2 _ _ (List.getElem?_eq_getElem hl)
  have : plrAt 0 0 w (y * w + x).toNat = [x, y] := by
    unfold plrAt
    rw [Int.toNat_of_nonneg (by omega), Int.sub_zero, Int.add_comm (y * w), Int.add_mul_emod_self_right, Int.emod_eq_of_lt hx.1 hx.2, Int.add_mul_ediv_right _ _ (by omega), Int.ediv_eq_zero_of_lt hx.1 hx.2, Int.zero_add, Int.zero_add, Int.zero_add]
  rw [this] at e
  rw [← e]
  exact List.getElem_mem hl
theorem va_im {m : Im} (ok : imOk m = true) {x y : Int} (hx : 0 ≤ x ∧ x < vaW m) (hy : 0 ≤ y ∧ y < vaH m) : imIn m x y = true := by
  have := va_in (ok_iff.1 ok).1
  exact imIn_iff.2 ⟨ok, ⟨hx.1, by omega⟩, hy.1, by omega⟩
theorem a_iv : Answers2 16 s_ime := by
  intro al ans hh hq
  unfold s_ime at hh
  split at hh <;> try (simp at hh; done)
  rename_i l t
  cases em : s_imOf l with
  | none => simp [em] at hh
  | some pm =>
  obtain ⟨m, Am⟩ := pm
  simp only [em] at hh
  simp only [Option.some.injEq] at hh
  subst hh
  refine does_args2 (al' := [.x (.agg (imC m)), .x (.c (.v (.int .u16 t)))]) ⟨imOf_eq em fun p hp => hq p (by simp [hp]), .v _, trivial⟩ ?_
  have hq := asked hq
  refine QR.does_of_evalT (O := o_ival) (QR.orc_cons a_ifault (QR.orc_cons a_ivari (QR.orc_cons a_iplc (QR.orc_cons a_pvalid2 (QR.orc_cons a_ipixel QR.orc_nil))))) mixed ((QR.noLoops)) ((fun n => bif Nat.beq n 7 then some (o_rng_val m t) else none)) itP_ok Try.func16 (by kernel_rfl) (by kernel_rfl) (by simp) ?_
  rw [ivalI_vc]
  delta zz1 zz12 zz44 zz108
  have hG := hq.1
  have e : imE m t = bif fitB m.w m.h then (bif imF m then (bif imAll m t then 0 else 8) else 7) else 6 := rfl
  generalize imE m t = b at e ⊢
  have ef := flt_e m
  cases f : fitB m.w m.h
  · rw [f] at e ef
    simp [eqS_t, okAns, eqXs, eqX, eqo, eqLo, eqL, eqc, veq, eqUs, bcond_iff, bnot, intRow_one, hG, f, e, ef, ine]
  cases g : imF m
  · rw [f, g] at e ef
    simp [eqS_t, okAns, eqXs, eqX, eqo, eqLo, eqL, eqc, veq, eqUs, bcond_iff, bnot, intRow_one, hG, f, g, e, ef, ine]
  rw [f, g] at e ef
  have ok := ok_iff.2 ⟨f, g⟩
  have v1 := va_in f
  have w1 := fit_le f
  have it := plr_it (a := 0) (b := 0) (c := vaW m) (d := vaH m) ⟨by omega, by omega, by omega⟩ ⟨by omega, by omega, by omega⟩
  simp only [eqS_t, okAns, eqXs, eqX, eqo, eqLo, eqL, eqc, veq, eqUs, bcond_iff, bnot, intRow_one, hG, f, g, ef, cond_true, ine, bne_self_eq_false, true_and, and_true, and_self, implies_true, true_implies, reduceCtorEq, false_implies, Bool.not_true, Bool.not_false, forall_eq, or_false, exists_eq_right, exists_eq_right', Bool.false_eq_true]
  refine ⟨it, fun v ⟨x, y, e, _⟩ => (by rw [e]; rfl), fun v hv => (by simp at hv), fun pre v hg hl hv => ?_, fun pre hp hg => ?_⟩
  · obtain ⟨x, y, rfl, hx, hy⟩ := hv
    have hx' : nthI [x, y] 0 = x := rfl
    have hy' : nthI [x, y] 1 = y := rfl
    rw [hx', hy']
    refine ⟨va_im ok hx hy, fun h => ?_, fun h u hu => ?_⟩
    · have : imAll m t = false := by
        rw [← Bool.not_eq_true, va_all f]
        intro k
        have k : pvB _ _ _ _ _ _ = true := k x y hx.1 hx.2 hy.1 hy.2
        rw [k] at h; simp at h
      rw [e, this]; rfl
    · unfold snocL at hu
      rcases List.mem_append.1 hu with hu | hu
      · exact hg u hu
      · simp only [List.mem_singleton] at hu
        subst hu
        show pvB _ _ _ _ _ _ = true
        rw [hx', hy']
        cases q : pvB (pxV m 0 x y) (pxV m 1 x y) (pxV m 2 x y) (pxV m 3 x y) (pxV m 4 x y) t
        · rw [q] at h; simp at h
        · rfl
  · have : imAll m t = true := by
      rw [va_all f]
      intro x y x0 x1 y0 y1
      exact hg _ (plr_all hp (by omega) ⟨x0, x1⟩ ⟨y0, y1⟩)
    rw [e, this]; rfl
theorem re_of {w h : Int} (f : fitB w h = true) : reB 0 0 w h = false := by
  have f4 := fit_iff.1 f
  have w1 := fit_le f
  refine re_f.2 ⟨?_, by omega, by omega⟩
  unfold F30
  omega
theorem a_iat : Answers2 25 s_imat := by
  intro al ans hh hq
  unfold s_imat at hh
  split at hh <;> try (simp at hh; done)
  rename_i l x y
  cases em : s_imOf l with
  | none => simp [em] at hh
  | some pm =>
  obtain ⟨m, Am⟩ := pm
  simp only [em] at hh
  simp only [Option.some.injEq] at hh
  subst hh
  refine does_args2 (al' := [.x (.agg (imC m)), .x (.c (.v (.int .i64 x))), .x (.c (.v (.int .i64 y)))]) ⟨imOf_eq em fun p hp => hq p (by simp [hp]), .v _, .v _, trivial⟩ ?_
  have hq := asked hq
  refine QR.does_of_eval (O := o_iatI) (QR.orc_cons a_ifault (QR.orc_cons a_iwhole (QR.orc_cons a_rcont (QR.orc_cons a_ipixel QR.orc_nil)))) mixed (QR.noLoops) Try.func25 (by kernel_rfl) (by kernel_rfl) (by simp) ?_
  rw [iatI_vc]
  delta zz12 zz81 zz83 zz96
  have pv : ∀ k, pxA m k x y = bif imIn m x y then pxV m k x y else 0 := fun _ => rfl
  have hG := hq.1
  have ef := flt_e m
  have no : imOk m = false → ine (imFt m) 0 = true := fun k => by
    rw [ef]
    unfold imOk at k
    cases f : fitB m.w m.h <;> cases g : imF m <;> simp [f, g] at k ⊢ <;> decide
  have yes : imOk m = true → ine (imFt m) 0 = false := fun k => by
    obtain ⟨f, g⟩ := ok_iff.1 k
    rw [ef, f, g]; decide
  have rc : imOk m = true → rcB 0 0 m.w m.h x y = decide ((0 ≤ x ∧ x < m.w) ∧ 0 ≤ y ∧ y < m.h) := fun k => by
    unfold rcB
    rw [Bool.eq_iff_iff, decide_eq_true_eq, decide_eq_true_eq]
    exact ⟨fun h => ⟨⟨h.2.1, h.2.2.1⟩, h.2.2.2⟩, fun h => ⟨re_of (ok_iff.1 k).1, h.1.1, h.1.2, h.2⟩⟩
  cases ok : imOk m
  · have hi : imIn m x y = false := by
      rw [← Bool.not_eq_true, imIn_iff, ok]; simp
    simp [eqS_t, okAns, eqXs, eqX, eqo, eqLo, eqL, eqc, veq, eqUs, bcond_iff, bnot, intRow_one, hG, pv, hi, no ok]
  · cases hi : imIn m x y
    · have : rcB 0 0 m.w m.h x y = false := by
        rw [rc ok]
        refine decide_eq_false fun k => ?_
        rw [imIn_iff.2 ⟨ok, k⟩] at hi; simp at hi
      simp [eqS_t, okAns, eqXs, eqX, eqo, eqLo, eqL, eqc, veq, eqUs, bcond_iff, bnot, intRow_one, hG, pv, hi, yes ok, this]
    · have : rcB 0 0 m.w m.h x y = true := by
        rw [rc ok]
        exact decide_eq_true (imIn_iff.1 hi).2
      simp [eqS_t, okAns, eqXs, eqX, eqo, eqLo, eqL, eqc, veq, eqUs, bcond_iff, bnot, intRow_one, hG, pv, hi, yes ok, this]
theorem pxL_snoc (m : Im) (pre : List (List Int)) (v : List Int) (k : Nat) (i : Nat) (hi : ilt (Int.ofNat i) (addZ (lnI pre) 1) = true) :
    isel (ilt (Int.ofNat i) (lnI pre)) (pxL m pre (Int.ofNat i) k) (isel (ieq (subZ (Int.ofNat i) (lnI pre)) 0) (pxV m k (nthI v 0) (nthI v 1)) 0) = pxL m (snocL pre v) (Int.ofNat i) k := by
  have hi := ilt_tt hi
  have hi : (i : Int) < (pre.length : Int) + 1 := hi
  unfold pxL snocL
  show isel (ilt (Int.ofNat i) (lnI pre)) (pxV m k (nthI ((pre[i]?).getD []) 0) (nthI ((pre[i]?).getD []) 1)) _ = pxV m k (nthI (((pre ++ [v])[i]?).getD []) 0) (nthI (((pre ++ [v])[i]?).getD []) 1)
  by_cases c : i < pre.length
  · have e : ilt (Int.ofNat i) (lnI pre) = true := ilt_t (by unfold lnI; show (i : Int) < _; omega)
    rw [e, isel_t, List.getElem?_append_left c]
  · have e : ilt (Int.ofNat i) (lnI pre) = false := decide_eq_false (by unfold lnI; show ¬ (i : Int) < _; omega)
    have e2 : ieq (subZ (Int.ofNat i) (lnI pre)) 0 = true := decide_eq_true (by unfold lnI subZ; show (i : Int) - _ = 0; omega)
    obtain rfl : i = pre.length := by omega
    rw [e, e2, isel_f, isel_t, List.getElem?_append_right (Nat.le_refl _), Nat.sub_self]
    rfl
theorem flt_no {m : Im} (k : imOk m = false) : ine (imFt m) 0 = true := by
  rw [flt_e]
  unfold imOk at k
  cases f : fitB m.w m.h <;> cases g : imF m <;> simp [f, g] at k ⊢ <;> decide
theorem flt_yes {m : Im} (k : imOk m = true) : ine (imFt m) 0 = false := by
  obtain ⟨f, g⟩ := ok_iff.1 k
  rw [flt_e, f, g]; decide
theorem a_ipxs : Answers2 28 s_impxs := by
  intro al ans hh hq
  unfold s_impxs at hh
  split at hh <;> try (simp at hh; done)
  rename_i l
  cases em : s_imOf l with
  | none => simp [em] at hh
  | some pm =>
  obtain ⟨m, Am⟩ := pm
  simp only [em] at hh
  simp only [Option.some.injEq] at hh
  subst hh
  refine does_args2 (al' := [.x (.agg (imC m))]) ⟨imOf_eq em fun p hp => hq p (by simp [hp]), trivial⟩ ?_
  have hq := asked hq
  refine QR.does_of_evalT (O := o_ipxsI) (QR.orc_cons a_ifault (QR.orc_cons a_iwhole (QR.orc_cons a_iplc (QR.orc_cons a_ipixel QR.orc_nil)))) mixed ((QR.noLoops)) ((fun n => bif Nat.beq n 7 then some (o_rng_pxs m) else none)) itP_ok Try.func28 (by kernel_rfl) (by kernel_rfl) (by simp) ?_
  rw [ipxsI_vc]
  delta zz1 zz12 zz44
  have hG := hq.1
  have e : imN m = bif imOk m then m.w * m.h else 0 := rfl
  have z5 : Nat.blt 0 5 = true := rfl
  cases ok : imOk m
  · rw [ok] at e
    simp [eqS_t, okAns, eqXs, eqX, eqo, eqLo, eqL, eqc, veq, eqUs, bcond_iff, bnot, nilC, intRow_one, hG, ok, e, z5, flt_no ok]
  rw [ok] at e
  obtain ⟨f, g⟩ := ok_iff.1 ok
  have w1 := fit_le f
  have f4 := fit_iff.1 f
  have m0 := Int.mul_nonneg (show 0 ≤ m.w by omega) (show 0 ≤ m.h by omega)
  have it := plr_it (a := 0) (b := 0) (c := m.w) (d := m.h) ⟨by omega, by omega, by omega⟩ ⟨by omega, by omega, by omega⟩
  have em : imul .i64 m.w m.h = m.w * m.h := IntWalk.i64_in _ (by omega)
  simp only [eqS_t, okAns, eqXs, eqX, eqo, eqLo, eqL, eqc, veq, eqUs, bcond_iff, bnot, nilC, intRow_one, hG, ok, flt_yes ok, z5, em, true_and, and_true, and_self, implies_true, true_implies, reduceCtorEq, false_implies, Bool.not_true, Bool.not_false, forall_eq, or_false, false_or, and_false, false_and, exists_false, exists_eq_right, exists_eq_right', Bool.false_eq_true]
  have no : ∀ i : Nat, ilt (Int.ofNat i) 0 = true → False := fun i h => by have := ilt_tt h; simp at this; omega
  refine ⟨⟨ile_t m0, ile_t (by unfold imulZ; omega), ile_t (by omega)⟩, it, fun v ⟨x, y, e, _⟩ => (by rw [e]; rfl), trivial, ?_, fun pre v hg hl hv => ?_, fun pre hp hg => ?_⟩
  · refine ⟨rfl, rfl, ⟨⟨⟨?_, ?_⟩, ?_⟩, ?_⟩, ?_⟩ <;> exact fun i hi => (no i hi).elim
  · obtain ⟨x, y, rfl, hx, hy⟩ := hv
    have hl := ilt_tt hl
    unfold plrN at hl
    have hl : lnI pre < (((m.h - 0) * (m.w - 0)).toNat : Int) := hl
    rw [Int.sub_zero, Int.sub_zero, Int.mul_comm, Int.toNat_of_nonneg m0] at hl
    refine ⟨⟨ile_t (by unfold imulZ addZ; omega), imIn_iff.2 ⟨ok, hx, hy⟩⟩, trivial, (by unfold lnI addZ snocL; simp), (by unfold lnI addZ snocL; simp), ⟨⟨⟨pxL_snoc m pre _ 0, pxL_snoc m pre _ 1⟩, pxL_snoc m pre _ 2⟩, pxL_snoc m pre _ 3⟩, pxL_snoc m pre _ 4⟩
  · have hp1 := hp.1
    rw [Int.sub_zero, Int.sub_zero, Int.mul_comm] at hp1
    have el : lnI pre = imN m := by rw [hp1, e]; rfl
    rw [el]
    refine .slc fun i j hi hj => ?_
    have hi' : i < pre.length := by have : (i : Int) < lnI pre := by rw [el]; exact hi
                                    unfold lnI at this; omega
    have ev := hp.2 i _ (List.getElem?_eq_getElem hi')
    show EqC (.v (.int .u16 (pxL m pre i j))) (.v (.int .u16 (pxI m i j)))
    have : pxL m pre i j = pxI m i j := by
      unfold pxL pxI
      rw [Int.toNat_natCast, List.getElem?_eq_getElem hi', Option.getD_some, ev]
      unfold plrAt
      rw [Int.sub_zero, Int.zero_add, Int.zero_add]
      rfl
    rw [this]; exact .v _
theorem a_ieq : Answers2 30 s_imeq := by
  intro al ans hh hq
  unfold s_imeq at hh
  split at hh <;> try (simp at hh; done)
  rename_i l k
  cases em : s_imOf l with
  | none => simp [em] at hh
  | some pm =>
  obtain ⟨m, Am⟩ := pm
  cases en : s_imOf k with
  | none => simp [en] at hh
  | some pn =>
  obtain ⟨n, An⟩ := pn
  simp only [em, en] at hh
  simp only [Option.some.injEq] at hh
  subst hh
  refine does_args2 (al' := [.x (.agg (imC m)), .x (.agg (imC n))]) ⟨imOf_eq em fun p hp => hq p (by simp [hp]), imOf_eq en fun p hp => hq p (by simp [hp]), trivial⟩ ?_
  have hq := asked hq
  refine QR.does_of_evalT (O := o_ieqI) (QR.orc_cons a_ifault (QR.orc_cons a_ivari (QR.orc_cons a_rhull (QR.orc_cons a_iplc (QR.orc_cons a_ipixel QR.orc_nil))))) mixed ((QR.noLoops)) ((fun k => bif Nat.beq k 6 then some (o_rng_ieq m n) else none)) itP_ok Try.func30 (by kernel_rfl) (by kernel_rfl) (by simp) ?_
  rw [ieqI_vc]
  delta zz1 zz12 zz18 zz55
  have hG := hq.1
  have hG2 := hq.2.1
  have e : imEq m n = (imOk m && (imOk n && (decide (m.w = n.w) && (decide (m.h = n.h) && pxSame (imN m) (imN n) (pxI m) (pxI n))))) := rfl
  generalize imEq m n = b at e ⊢
  cases ok : imOk m
  · rw [ok] at e
    simp [eqS_t, okAns, eqXs, eqX, eqo, eqLo, eqL, eqc, veq, eqUs, bcond_iff, bnot, intRow_one, hG, hG2, e, flt_no ok]
  cases ok2 : imOk n
  · rw [ok, ok2] at e
    simp [eqS_t, okAns, eqXs, eqX, eqo, eqLo, eqL, eqc, veq, eqUs, bcond_iff, bnot, intRow_one, hG, hG2, e, flt_yes ok, flt_no ok2]
  by_cases ew : m.w = n.w
  case neg => 
    have : ine m.w n.w = true := ine_t ew
    rw [ok, ok2, decide_eq_false ew] at e
    simp [eqS_t, okAns, eqXs, eqX, eqo, eqLo, eqL, eqc, veq, eqUs, bcond_iff, bnot, intRow_one, hG, hG2, e, flt_yes ok, flt_yes ok2, this]
  by_cases eh : m.h = n.h
  case neg => 
    have : ine m.h n.h = true := ine_t eh
    rw [ok, ok2, decide_eq_false eh] at e
    simp [eqS_t, okAns, eqXs, eqX, eqo, eqLo, eqL, eqc, veq, eqUs, bcond_iff, bnot, intRow_one, hG, hG2, e, flt_yes ok, flt_yes ok2, ew, ine_f, this]
  rw [ok, ok2, decide_eq_true ew, decide_eq_true eh] at e
  simp only [eqS_t, okAns, eqXs, eqX, eqo, eqLo, eqL, eqc, veq, eqUs, bcond_iff, bnot, intRow_one, hG, hG2, flt_yes ok, flt_yes ok2, ew, eh, ine_f, true_and, and_true, and_self, implies_true, true_implies, reduceCtorEq, false_implies, Bool.not_true, Bool.not_false, forall_eq, or_false, false_or, and_false, false_and, exists_false, exists_eq_right, exists_eq_right', Bool.false_eq_true]
  have va := va_in (ok_iff.1 ok).1
  have va' := va_in (ok_iff.1 ok2).1
  have w1 := fit_le (ok_iff.1 ok).1
  have w2 := fit_le (ok_iff.1 ok2).1
  have f4 := fit_iff.1 (ok_iff.1 ok).1
  obtain ⟨R, hR⟩ : ∃ R : QR.Row, R = (((((((((QR.Row.zer [Value.int IntKind.i64 0, Value.int IntKind.i64 0, Value.int IntKind.i64 0, Value.int IntKind.i64 0]).upd 0 0 (CV.v (Value.int IntKind.i64 0))).upd 0 1 (CV.v (Value.int IntKind.i64 0))).upd 0 2 (CV.v (Value.int IntKind.i64 (vaW m)))).upd 0 3 (CV.v (Value.int IntKind.i64 (vaH m)))).upd 1 0 (CV.v (Value.int IntKind.i64 0))).upd 1 1 (CV.v (Value.int IntKind.i64 0))).upd 1 2 (CV.v (Value.int IntKind.i64 (vaW n)))).upd 1 3 (CV.v (Value.int IntKind.i64 (vaH n)))) := ⟨_, rfl⟩
  rw [← hR]
  have d00 : den R (0 : Nat) 0 = .v (.int .i64 0) := by rw [hR]; rfl
  have d01 : den R (0 : Nat) 1 = .v (.int .i64 0) := by rw [hR]; rfl
  have d02 : den R (0 : Nat) 2 = .v (.int .i64 (vaW m)) := by rw [hR]; rfl
  have d03 : den R (0 : Nat) 3 = .v (.int .i64 (vaH m)) := by rw [hR]; rfl
  have d10 : den R (1 : Nat) 0 = .v (.int .i64 0) := by rw [hR]; rfl
  have d11 : den R (1 : Nat) 1 = .v (.int .i64 0) := by rw [hR]; rfl
  have d12 : den R (1 : Nat) 2 = .v (.int .i64 (vaW n)) := by rw [hR]; rfl
  have d13 : den R (1 : Nat) 3 = .v (.int .i64 (vaH n)) := by rw [hR]; rfl
  clear hR
  have hrow : intRow .i64 4 2 R := fun i j hi hj => by
    have hi : (i : Int) < 2 := hi
    match i, j, (show i < 2 by omega), hj with
    | 0, 0, _, _ => rw [d00]; rfl
    | 0, 1, _, _ => rw [d01]; rfl
    | 0, 2, _, _ => rw [d02]; rfl
    | 0, 3, _, _ => rw [d03]; rfl
    | 1, 0, _, _ => rw [d10]; rfl
    | 1, 1, _, _ => rw [d11]; rfl
    | 1, 2, _, _ => rw [d12]; rfl
    | 1, 3, _, _ => rw [d13]; rfl
  have rm : reB 0 0 (vaW m) (vaH m) = false := re_f.2 ⟨by unfold F30; omega, by omega, by omega⟩
  have rn : reB 0 0 (vaW n) (vaH n) = false := re_f.2 ⟨by unfold F30; omega, by omega, by omega⟩
  have hu : huN R 2 = ⟨0, 0, if vaW n ≤ vaW m then vaW m else vaW n, if vaH n ≤ vaH m then vaH m else vaH n⟩ := by
    show r4H (r4H r4z ⟨intC (den R (0 : Nat) 0), intC (den R (0 : Nat) 1), intC (den R (0 : Nat) 2), intC (den R (0 : Nat) 3)⟩) ⟨intC (den R (1 : Nat) 0), intC (den R (1 : Nat) 1), intC (den R (1 : Nat) 2), intC (den R (1 : Nat) 3)⟩ = _
    rw [d00, d01, d02, d03, d10, d11, d12, d13]
    have z : r4E r4z = true := by decide
    have em : r4E ⟨0, 0, vaW m, vaH m⟩ = false := rm
    have en : r4E ⟨0, 0, vaW n, vaH n⟩ = false := rn
    simp only [intC]
    have h1 : r4H r4z ⟨0, 0, vaW m, vaH m⟩ = ⟨0, 0, vaW m, vaH m⟩ := by unfold r4H; rw [em, z]; rfl
    rw [h1]
    unfold r4H
    rw [em, en]
    simp
  have eW : (if vaW n ≤ vaW m then vaW m else vaW n) = rqW m n := by
    show _ = bif m.sol && n.sol then 1 else m.w
    rw [va_e.1, va_e.1]
    cases m.sol <;> cases n.sol <;> simp <;> omega
  have eH : (if vaH n ≤ vaH m then vaH m else vaH n) = rqH m n := by
    show _ = bif m.sol && n.sol then 1 else m.h
    rw [va_e.2, va_e.2]
    cases m.sol <;> cases n.sol <;> simp <;> omega
  have q0 : huR 0 2 R = 0 := by show r4G 0 (huN R 2) = _; rw [hu]; rfl
  have q1 : huR 1 2 R = 0 := by show r4G 1 (huN R 2) = _; rw [hu]; rfl
  have q2 : huR 2 2 R = rqW m n := by show r4G 2 (huN R 2) = _; rw [hu, ← eW]; rfl
  have q3 : huR 3 2 R = rqH m n := by show r4G 3 (huN R 2) = _; rw [hu, ← eH]; rfl
  rw [q0, q1, q2, q3]
  have bw : 1 ≤ rqW m n ∧ rqW m n ≤ m.w ∧ 1 ≤ rqH m n ∧ rqH m n ≤ m.h := by
    show 1 ≤ (bif m.sol && n.sol then 1 else m.w) ∧ (bif m.sol && n.sol then 1 else m.w) ≤ m.w ∧ 1 ≤ (bif m.sol && n.sol then 1 else m.h) ∧ (bif m.sol && n.sol then 1 else m.h) ≤ m.h
    cases m.sol && n.sol <;> simp <;> omega
  have it := plr_it (a := 0) (b := 0) (c := rqW m n) (d := rqH m n) ⟨by omega, by omega, by omega⟩ ⟨by omega, by omega, by omega⟩
  have pxc : ∀ (k : Nat) (x y : Int), m.sol = true → pxV m k x y = pxV m k 0 0 := fun k x y h => by unfold pxV; rw [h]; rfl
  have pxd : ∀ (k : Nat) (x y : Int), n.sol = true → pxV n k x y = pxV n k 0 0 := fun k x y h => by unfold pxV; rw [h]; rfl
  have eN : imN m = m.w * m.h := by show (bif imOk m then _ else _) = _; rw [ok]; rfl
  have eN2 : imN n = m.w * m.h := by show (bif imOk n then _ else _) = _; rw [ok2, ew, eh]; rfl
  have same : pxSame (imN m) (imN n) (pxI m) (pxI n) = true ↔ ∀ x y : Int, 0 ≤ x → x < rqW m n → 0 ≤ y → y < rqH m n → ∀ k : Nat, k < 5 → pxV m k x y = pxV n k x y := by
    unfold pxSame
    rw [eN, eN2, decide_eq_true rfl, Bool.true_and, List.all_eq_true]
    constructor
    · intro h x y x0 x1 y0 y1 k hk
      have hx : x < m.w := by omega
      have hy : y < m.h := by omega
      have m0 := Int.mul_nonneg y0 (show 0 ≤ m.w by omega)
      have m1 := Int.mul_le_mul_of_nonneg_right (show y ≤ m.h - 1 by omega) (show 0 ≤ m.w by omega)
      have m2 : (m.h - 1) * m.w = m.w * m.h - m.w := by rw [Int.sub_mul, Int.one_mul, Int.mul_comm]
      have := List.all_eq_true.1 (h (y * m.w + x).toNat (List.mem_range.2 (by omega))) k (List.mem_range.2 hk)
      rw [beq_iff_eq] at this
      unfold pxI at this
      rw [← ew, Int.toNat_of_nonneg (by omega), Int.add_comm (y * m.w), Int.add_mul_emod_self_right, Int.emod_eq_of_lt x0 hx, Int.add_mul_ediv_right _ _ (by omega), Int.ediv_eq_zero_of_lt x0 hx, Int.zero_add] at this
      exact this
    · intro h i hi
      have hi := List.mem_range.1 hi
      have m0 := Int.mul_nonneg (show 0 ≤ m.w by omega) (show 0 ≤ m.h by omega)
      have hi' : (i : Int) < m.h * m.w := by rw [Int.mul_comm]; omega
      refine List.all_eq_true.2 fun k hk => ?_
      have hk := List.mem_range.1 hk
      rw [beq_iff_eq]
      unfold pxI
      rw [← ew]
      have x0 := Int.emod_nonneg (i : Int) (show m.w ≠ 0 by omega)
      have x1 := Int.emod_lt_of_pos (i : Int) (show 0 < m.w by omega)
      have y0 := Int.ediv_nonneg (show 0 ≤ (i : Int) by omega) (show 0 ≤ m.w by omega)
      have y1 := Int.ediv_lt_of_lt_mul (show 0 < m.w by omega) hi'
      cases hm : m.sol && n.sol
      · have e1 : rqW m n = m.w := by show (bif m.sol && n.sol then _ else _) = _; rw [hm]; rfl
        have e2 : rqH m n = m.h := by show (bif m.sol && n.sol then _ else _) = _; rw [hm]; rfl
        exact h _ _ x0 (by rw [e1]; exact x1) y0 (by rw [e2]; exact y1) k hk
      · simp only [Bool.and_eq_true] at hm
        rw [pxc _ _ _ hm.1, pxd _ _ _ hm.2]
        exact h 0 0 (by omega) (by omega) (by omega) (by omega) k hk
  refine ⟨hrow, it, fun v ⟨x, y, e, _⟩ => (by rw [e]; rfl), fun v hv => (by simp at hv), fun pre v hg hl hv => ?_, fun pre hp hg => ?_⟩
  · obtain ⟨x, y, rfl, hx, hy⟩ := hv
    have hx' : nthI [x, y] 0 = x := rfl
    have hy' : nthI [x, y] 1 = y := rfl
    rw [hx', hy']
    refine ⟨⟨imIn_iff.2 ⟨ok2, ⟨hx.1, by omega⟩, hy.1, by omega⟩, imIn_iff.2 ⟨ok, ⟨hx.1, by omega⟩, hy.1, by omega⟩⟩, fun h => ?_, fun h u hu k hk => ?_⟩
    · have : pxSame (imN m) (imN n) (pxI m) (pxI n) = false := by
        rw [← Bool.not_eq_true, same]
        intro k
        have k := k x y hx.1 hx.2 hy.1 hy.2
        rw [k 0 (by decide), k 1 (by decide), k 2 (by decide), k 3 (by decide), k 4 (by decide)] at h
        simp [band, ieq] at h
      rw [e, this]; rfl
    · unfold snocL at hu
      rcases List.mem_append.1 hu with hu | hu
      · exact hg u hu k hk
      · simp only [List.mem_singleton] at hu
        subst hu
        rw [hx', hy']
        simp only [band, ieq, Bool.not_eq_false', Bool.and_eq_true, decide_eq_true_eq, and_true] at h
        match k, hk with
        | 0, _ => exact beq_iff_eq.1 (h.1.1)
        | 1, _ => exact beq_iff_eq.1 (h.1.2.1)
        | 2, _ => exact beq_iff_eq.1 (h.1.2.2)
        | 3, _ => exact beq_iff_eq.1 (h.2.1)
        | 4, _ => exact beq_iff_eq.1 (h.2.2)
  · have : pxSame (imN m) (imN n) (pxI m) (pxI n) = true := by
      rw [same]
      intro x y x0 x1 y0 y1 k hk
      exact hg _ (plr_all hp (by omega) ⟨x0, x1⟩ ⟨y0, y1⟩) k hk
    rw [e, this]; rfl
end Go.Proofs.Ytcckcifmhhaepaa
