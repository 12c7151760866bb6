import Derived.Test.YtcckcifmhhaepaaZaa
import Derived.Test.YtcckcifmhhaepaaZya
import Derived.Test.YtcckcifmhhaepaaRf
import Derived.RangeFuncNested
import Derived.RangeFuncBound
import Derived.RangeFuncCalls
import Derived.RangeFuncLeaves
import Derived.Shelf.Abstract
import Derived.Shelf.RegionOpen
import Derived.WalkKit
import Derived.OwnWalkIn
import Derived.TacticsInMore
import Derived.LoopNIn
import Derived.LoopIn
namespace Go.Proofs.Ytcckcifmhhaepaa
open Go Go.RowKit Go.Shelf PR QR
set_option linter.unusedVariables false
set_option linter.unusedSimpArgs false
set_option maxRecDepth 20000
theorem one_inl {p : QR.Inl → Prop} {k : Nat} {I : QR.Inl} (h : p I) : ∀ n c, (bif Nat.beq n k then some I else none) = some c → p c := by
  intro n c e
  cases q : Nat.beq n k
  · rw [q] at e; simp at e
  · rw [q, cond_true, Option.some.injEq] at e; rw [← e]; exact h
theorem no_inl {p : QR.Inl → Prop} : ∀ (n : Nat) (c : QR.Inl), none = some c → p c := fun n c e => by simp at e
theorem eqS_t (n : Int) (l : Int → Int) : EqC (.slc 1 n (.fn fun i _ => .v (.int .u16 (l i)))) (.slc 1 n (.fn fun i _ => .v (.int .u16 (l i)))) = True := eq_true (.slc fun i j _ _ => .v _)
theorem eqQ_t (z : Nat) (n : Int) (q : Int → Nat → Int) : EqC (.slc z n (.fn fun i j => .v (.int .u16 (q i j)))) (.slc z n (.fn fun i j => .v (.int .u16 (q i j)))) = True := eq_true (.slc fun i j _ _ => .v _)
theorem a_iprm : Answers2 51 s_fit := by
  intro al ans h hq
  unfold s_fit at h
  split at h <;> try (simp at h; done)
  rename_i w h
  simp only [Option.some.injEq] at h
  subst h
  have hq := asked hq
  refine QR.does_of_eval (O := (QR.orc [])) QR.orc_nil mixed (QR.noLoops) Try.func51 (by kernel_rfl) (by kernel_rfl) (by simp) ?_
  rw [iprm_vc]
  obtain ⟨iw, ih, _⟩ := hq
  have iw := in64_iff.1 iw
  simp only [eqS_t, eqQ_t, okAns, eqXs, eqX, eqo, eqLo, eqc, veq, eqUs, bcond_iff, ige, ile, decide_eq_true_eq, decide_eq_false_iff_not, true_and, and_true]
  refine ⟨fun h1 => ⟨fun h2 => ⟨ine_t (by omega), ?_⟩, fun h2 => ?_⟩, fun h1 => ?_⟩
  · rw [iquo_pos (by omega) (by omega), Bool.eq_iff_iff, decide_eq_true_eq, fit_iff, ← fit_div (by omega) (by omega)]
    exact ⟨fun k => ⟨by omega, by omega, k⟩, fun k => k.2.2⟩
  · exact (decide_eq_false fun k => by omega).symm
  · exact (decide_eq_false fun k => by omega).symm
theorem a_iwhole : Answers2 56 s_whole := by
  intro al ans hh hq
  unfold s_whole at hh
  split at hh <;> try (simp at hh; done)
  rename_i l
  cases em : s_imOf l with
  | none => simp [em] at hh
  | some pm =>
  obtain ⟨m, Am⟩ := pm
  simp only [em] at hh
  simp only [Option.some.injEq] at hh
  subst hh
  refine does_args3 (al' := [.ref 0 (imC m)]) ⟨⟨rfl, imOf_eq em fun p hp => hq p (by simp [hp])⟩, trivial⟩ ?_
  have hq := asked hq
  refine QR.does_of_eval (O := (QR.orc [])) QR.orc_nil mixed (QR.noLoops) Try.func56 (by kernel_rfl) (by kernel_rfl) (by simp) ?_
  rw [iwhole_vc]
  delta zz13
  simp [eqS_t, eqQ_t, okAns, eqXs, eqX, eqo, eqLo, eqL, eqc, veq, eqUs, imC]
theorem a_ivari : Answers2 43 s_varied := by
  intro al ans hh hq
  unfold s_varied at hh
  split at hh <;> try (simp at hh; done)
  rename_i l
  cases em : s_imOf l with
  | none => simp [em] at hh
  | some pm =>
  obtain ⟨m, Am⟩ := pm
  simp only [em] at hh
  simp only [Option.some.injEq] at hh
  subst hh
  refine does_args3 (al' := [.ref 0 (imC m)]) ⟨⟨rfl, imOf_eq em fun p hp => hq p (by simp [hp])⟩, trivial⟩ ?_
  have hq := asked hq
  refine QR.does_of_eval (O := o_vari) (QR.orc_cons a_iwhole QR.orc_nil) mixed (QR.noLoops) Try.func43 (by kernel_rfl) (by kernel_rfl) (by simp) ?_
  rw [ivari_vc]
  delta zz13 zz44
  have e1 : vaW m = bif m.sol then 1 else m.w := rfl
  have e2 : vaH m = bif m.sol then 1 else m.h := rfl
  cases hs : m.sol <;> simp [eqS_t, eqQ_t, okAns, eqXs, eqX, eqo, eqLo, eqL, eqc, veq, eqUs, imC, bcond_iff, hs, e1, e2, intRow_one]
theorem a_iplc : Answers2 42 s_plcI := by
  intro al ans h hq
  unfold s_plcI at h
  split at h <;> try (simp at h; done)
  rename_i a b c d
  simp only [Option.some.injEq] at h
  subst h
  have hq := asked hq
  refine QR.does_of_eval (O := (QR.orc [])) QR.orc_nil mixed (QR.noLoops) Try.func42 (by kernel_rfl) (by kernel_rfl) (by simp) ?_
  rw [iplc_vc]
  simp [eqS_t, eqQ_t, okAns, eqXs, eqX, eqo, eqLo, eqL, eqc, veq, eqUs]
theorem a_isolI : Answers2 23 s_isol := by
  intro al ans h hq
  unfold s_isol at h
  split at h <;> try (simp at h; done)
  rename_i w h c0 c1 c2 a f
  simp only [Option.some.injEq] at h
  subst h
  have hq := asked hq
  refine QR.does_of_eval (O := (QR.orc [])) QR.orc_nil mixed (QR.noLoops) Try.func23 (by kernel_rfl) (by kernel_rfl) (by simp) ?_
  rw [isolI_vc]
  delta zz98
  have z : Nat.blt 0 1 = true := rfl
  simp [eqS_t, eqQ_t, okAns, eqXs, eqX, eqo, eqLo, eqL, eqc, veq, eqUs, imC, imSol, plZero, nilC, z]
theorem a_ipixel : Answers2 45 s_pixelI := by
  intro al ans hh hq
  unfold s_pixelI at hh
  split at hh <;> try (simp at hh; done)
  rename_i l x y
  cases em : s_imOf l with
  | none => simp [em] at hh
  | some pm =>
  obtain ⟨m, Am⟩ := pm
  simp only [em] at hh
  simp only [Option.some.injEq] at hh
  subst hh
  refine does_args3 (al' := [.ref 0 (imC m), .x (.c (.v (.int .i64 x))), .x (.c (.v (.int .i64 y)))]) ⟨⟨rfl, imOf_eq em fun p hp => hq p (by simp [hp])⟩, .v _, .v _, trivial⟩ ?_
  have hq := asked hq
  refine QR.does_of_eval (O := (QR.orc [])) QR.orc_nil mixed ((fun n => bif Nat.beq n 5 then some (.rounds 6) else none)) Try.func45 (by kernel_rfl) (by kernel_rfl) (by simp) ?_
  rw [ipxl_vc]
  delta zz13 zz140
  obtain ⟨hG, hi, _⟩ := hq
  have pv : ∀ k, pxV m k x y = bif m.sol then imCol m k else (imPl m k).l (patI (imPl m k).s x y) := fun _ => rfl
  cases hs : m.sol
  · obtain ⟨a0, b0, c0⟩ := im_ix hi hs (k := 0) (by decide)
    obtain ⟨a1, b1, c1⟩ := im_ix hi hs (k := 1) (by decide)
    obtain ⟨a2, b2, c2⟩ := im_ix hi hs (k := 2) (by decide)
    obtain ⟨a3, b3, c3⟩ := im_ix hi hs (k := 3) (by decide)
    obtain ⟨a4, b4, c4⟩ := im_ix hi hs (k := 4) (by decide)
    simp only [imPl] at a0 b0 c0 a1 b1 c1 a2 b2 c2 a3 b3 c3 a4 b4 c4
    simp [eqS_t, eqQ_t, okAns, eqXs, eqX, eqo, eqLo, eqL, eqc, veq, eqUs, bcond_iff, hs, pv, imPl, imC, a0, b0, c0, a1, b1, c1, a2, b2, c2, a3, b3, c3, a4, b4, c4]
  · simp [eqS_t, eqQ_t, okAns, eqXs, eqX, eqo, eqLo, eqL, eqc, veq, eqUs, bcond_iff, hs, pv, imCol, imC]
theorem a_iofc : Answers2 53 s_ofc := by
  intro al ans hh hq
  unfold s_ofc at hh
  split at hh <;> try (simp at hh; done)
  rename_i x y c w
  cases en : slcOf 5 c with
  | none => simp [en] at hh
  | some pn =>
  obtain ⟨n, rn⟩ := pn
  simp only [en] at hh
  simp only [Option.some.injEq] at hh
  subst hh
  obtain ⟨q, hdn⟩ : ∃ q : Int → Nat → Int, q = fun i j => intC (den rn i j) := ⟨_, rfl⟩
  try rw [← hdn]
  refine does_args3 (al' := [.x (.c (.v (.int .i64 x))), .x (.c (.v (.int .i64 y))), .ref 0 [.slc 5 n (.fn fun i j => .v (.int .u16 (q i j)))], .ref 0 [.v (.int .i64 w)]]) ⟨.v _, .v _, ⟨rfl, (hdn ▸ slcOf_ints en (by decide) (hq _ (by simp))), trivial⟩, ⟨rfl, .v _, trivial⟩, trivial⟩ ?_
  have hq := asked hq
  refine QR.does_of_eval (O := (QR.orc [])) QR.orc_nil mixed (QR.noLoops) Try.func53 (by kernel_rfl) (by kernel_rfl) (by simp) ?_
  rw [iofc_vc]
  obtain ⟨_, h1, h2, _⟩ := hq
  subst hdn
  simp [eqS_t, eqQ_t, okAns, eqXs, eqX, eqo, eqLo, eqL, eqc, veq, eqUs, h1, h2]
theorem a_irpc : Answers2 68 s_rpc := by
  intro al ans hh hq
  unfold s_rpc at hh
  split at hh <;> try (simp at hh; done)
  rename_i x y l
  cases em : s_imOf l with
  | none => simp [em] at hh
  | some pm =>
  obtain ⟨m, Am⟩ := pm
  simp only [em] at hh
  simp only [Option.some.injEq] at hh
  subst hh
  refine does_args3 (al' := [.x (.c (.v (.int .i64 x))), .x (.c (.v (.int .i64 y))), .ref 0 (imC m)]) ⟨.v _, .v _, ⟨rfl, imOf_eq em fun p hp => hq p (by simp [hp])⟩, trivial⟩ ?_
  have hq := asked hq
  refine QR.does_of_eval (O := o_irpc) (QR.orc_cons a_ipixel QR.orc_nil) mixed (QR.noLoops) Try.func68 (by kernel_rfl) (by kernel_rfl) (by simp) ?_
  rw [irpc_vc]
  delta zz13 zz81 zz83
  obtain ⟨hG, hi, _⟩ := hq
  simp [eqS_t, eqQ_t, okAns, eqXs, eqX, eqo, eqLo, eqL, eqc, veq, eqUs, imC, hG, hi, intRow_one]
theorem ok_fits : QR.InlOK Try.prog o_inl_fits ∧ QR.GB ≤ o_inl_fits.T :=
  QR.inl_flat (O := o_ifit) (QR.orc_cons a_plv QR.orc_nil) mixed QR.noLoops (J' := fun _ => none) no_inl (j := 6) Try.func72 (by kernel_rfl) (by kernel_rfl)
theorem ok_cfault : QR.CfgOK Try.prog o_cfg_fault 500 := ⟨one_inl ok_fits, no_inl, .inl fun _ => rfl⟩
theorem pf_step {m : Im} {p : Pl} {b : Int} {Q : Prop} (no : plW m p ≠ true → 7 = b) (yes : plW m p = true → Q) : (ieq p.w m.w = true → (ieq p.h m.h = true → (plB p.w p.h p.s p.n = false → 7 = b) ∧ (plB p.w p.h p.s p.n = true → Q)) ∧ (ieq p.h m.h = false → 7 = b)) ∧ (ieq p.w m.w = false → 7 = b) := by
  refine ⟨fun h1 => ⟨fun h2 => ⟨fun h3 => no fun k => ?_, fun h3 => yes (plW_iff.2 ⟨h3, of_decide_eq_true h1, of_decide_eq_true h2⟩)⟩, fun h2 => no fun k => of_decide_eq_false h2 (plW_iff.1 k).2.2⟩, fun h1 => no fun k => of_decide_eq_false h1 (plW_iff.1 k).2.1⟩
  rw [(plW_iff.1 k).1] at h3; simp at h3
theorem pz_step {p : Pl} {b : Int} {Q : Prop} (no : plZ p ≠ true → 7 = b) (yes : plZ p = true → Q) : (ieq p.w 0 = true → (ieq p.h 0 = true → (ieq p.s 0 = true → ∀ i : Int, i = p.n → (ieq i 0 = false → 7 = b) ∧ (ieq i 0 = true → Q)) ∧ (ieq p.s 0 = false → 7 = b)) ∧ (ieq p.h 0 = false → 7 = b)) ∧ (ieq p.w 0 = false → 7 = b) :=
  ⟨fun h1 => ⟨fun h2 => ⟨fun h3 i hi => ⟨fun h4 => no fun k => of_decide_eq_false h4 (hi ▸ (plZ_iff.1 k).2.2.2), fun h4 => yes (plZ_iff.2 ⟨of_decide_eq_true h1, of_decide_eq_true h2, of_decide_eq_true h3, hi ▸ of_decide_eq_true h4⟩)⟩, fun h3 => no fun k => of_decide_eq_false h3 (plZ_iff.1 k).2.2.1⟩, fun h2 => no fun k => of_decide_eq_false h2 (plZ_iff.1 k).2.1⟩, fun h1 => no fun k => of_decide_eq_false h1 (plZ_iff.1 k).1⟩
theorem a_ifault : Answers2 41 s_fault := by
  intro al ans hh hq
  unfold s_fault at hh
  split at hh <;> try (simp at hh; done)
  rename_i l
  cases em : s_imOf l with
  | none => simp [em] at hh
  | some p =>
  obtain ⟨m, A⟩ := p
  simp only [em] at hh
  simp only [Option.some.injEq] at hh
  subst hh
  have hG : imG m := hq _ (by simp)
  refine does_args3 (al' := [.ref 0 (imC m)]) ⟨⟨rfl, imOf_eq em fun p hp => hq p (by simp [hp])⟩, trivial⟩ ?_
  obtain ⟨⟨iw, ih⟩, _, ⟨w0, h0, s0, n0, _⟩, ⟨w1, h1, s1, n1, _⟩, ⟨w2, h2, s2, n2, _⟩, ⟨w3, h3, s3, n3, _⟩, w4, h4, s4, n4, _⟩ := hG
  have e : imFt m = bif fitB m.w m.h then (bif imF m then 0 else 7) else 6 := rfl
  generalize imFt m = b at e ⊢
  have nz : ∀ (n : Int), ile 0 n = true → ieq n 0 = decide (n = 0) := fun n _ => rfl
  cases hs : m.sol
  · rw [imC_sol hs]
    refine QR.does_of_evalJ (O := o_flt) (QR.orc_cons a_iprm QR.orc_nil) mixed (C := o_cfg_fault) ok_cfault itP_ok Try.func41 (by kernel_rfl) (by kernel_rfl) (by simp) ?_
    rw [ifltF_vc]
    delta zz3 zz61 zz62 zz63 zz64 zz70
    simp only [eqS_t, eqQ_t, okAns, eqXs, eqX, eqo, eqLo, eqL, eqc, veq, eqUs, imC, bcond_iff, bnot, band, intRow_one, iw, ih, w0, h0, s0, n0, w1, h1, s1, n1, w2, h2, s2, n2, w3, h3, s3, n3, w4, h4, s4, n4, true_and, and_true, implies_true, true_implies, reduceCtorEq, false_implies, and_self, Bool.not_true, Bool.false_eq_true, Bool.not_false]
    have mm : ∀ q : Bool, (!q) = true ↔ q = false := fun q => by cases q <;> simp
    have m2 : ∀ q : Bool, (!q) = false ↔ q = true := fun q => by cases q <;> simp
    simp only [mm, m2]
    refine ⟨fun f => by rw [e, f]; rfl, fun f => ?_⟩
    rw [f, cond_true] at e
    have no : ∀ k : Nat, k < 5 → plW m (imPl m k) ≠ true → 7 = b := fun k hk h => by rw [e, imF_no hs hk (Bool.eq_false_iff.2 h)]; rfl
    refine ⟨fun c => ?_, fun c => pf_step (no 0 (by decide)) fun x0 => pf_step (no 1 (by decide)) fun x1 => pf_step (no 2 (by decide)) fun x2 => pf_step (no 3 (by decide)) fun x3 => pf_step (no 4 (by decide)) fun x4 => ?_⟩
    · have : imF m = false := by
        have cz : colZ m = false := by rw [← c]; unfold colZ ieq; rw [Bool.eq_iff_iff]; simp [and_assoc]
        unfold imF; rw [hs, cz]; simp
      rw [e, this]; rfl
    · have : imF m = true := by
        have cz : colZ m = true := by rw [← c]; unfold colZ ieq; rw [Bool.eq_iff_iff]; simp [and_assoc]
        rw [imF_all hs fun k hk => by match k, hk with | 0, _ => exact x0 | 1, _ => exact x1 | 2, _ => exact x2 | 3, _ => exact x3 | 4, _ => exact x4, cz]
      rw [e, this]; rfl
  · rw [imC_sol hs]
    refine QR.does_of_evalJ (O := o_flt) (QR.orc_cons a_iprm QR.orc_nil) mixed (C := o_cfg_fault) ok_cfault itP_ok Try.func41 (by kernel_rfl) (by kernel_rfl) (by simp) ?_
    rw [ifltT_vc]
    delta zz2
    simp only [eqS_t, eqQ_t, okAns, eqXs, eqX, eqo, eqLo, eqL, eqc, veq, eqUs, imC, bcond_iff, bnot, band, intRow_one, iw, ih, w0, h0, s0, n0, w1, h1, s1, n1, w2, h2, s2, n2, w3, h3, s3, n3, w4, h4, s4, n4, true_and, and_true, implies_true, true_implies, reduceCtorEq, false_implies, and_self, Bool.not_true, Bool.false_eq_true, Bool.not_false]
    have mm : ∀ q : Bool, (!q) = true ↔ q = false := fun q => by cases q <;> simp
    have m2 : ∀ q : Bool, (!q) = false ↔ q = true := fun q => by cases q <;> simp
    simp only [mm, m2]
    refine ⟨fun f => by rw [e, f]; rfl, fun f => ?_⟩
    rw [f, cond_true] at e
    have no : ∀ k : Nat, k < 5 → plZ (imPl m k) ≠ true → 7 = b := fun k hk h => by rw [e, imF_noS hs hk (Bool.eq_false_iff.2 h)]; rfl
    refine pz_step (no 0 (by decide)) fun x0 => pz_step (no 1 (by decide)) fun x1 => pz_step (no 2 (by decide)) fun x2 => pz_step (no 3 (by decide)) fun x3 => pz_step (no 4 (by decide)) fun x4 => ?_
    rw [e, imF_allS hs fun k hk => by match k, hk with | 0, _ => exact x0 | 1, _ => exact x1 | 2, _ => exact x2 | 3, _ => exact x3 | 4, _ => exact x4]; rfl
attribute [local go_sem] Oper.semAt_some
def plrOk (a b c d : Int) (v : List Int) : Prop := ∃ x y : Int, v = [x, y] ∧ (a ≤ x ∧ x < c) ∧ b ≤ y ∧ y < d
abbrev PlR (a b c d : Int) := { v : List Int // plrOk a b c d v }
def plrAt (a b c : Int) (i : Nat) : List Int := [a + (i : Int) % (c - a), b + (i : Int) / (c - a)]
def plrPre (a b c d : Int) (k : Int) (pre : List (PlR a b c d)) : Prop := (pre.length : Int) = k ∧ ∀ (i : Nat) (v : PlR a b c d), pre[i]? = some v → v.1 = plrAt a b c i
theorem plr_nil (a b c d : Int) : plrPre a b c d 0 [] := ⟨rfl, fun i v e => by simp at e⟩
theorem plr_snoc {a b c d k x y : Int} {pre : List (PlR a b c d)} (hp : plrPre a b c d k pre) (hk : k = (y - b) * (c - a) + (x - a)) (hx : a ≤ x ∧ x < c) (hy : b ≤ y ∧ y < d) : plrPre a b c d (k + 1) (pre ++ [⟨[x, y], x, y, rfl, hx, hy⟩]) := by
  refine ⟨by simp [hp.1], fun i v e => ?_⟩
  rw [List.getElem?_append] at e
  split at e
  · exact hp.2 i v e
  · rename_i q
    have hl := hp.1
    cases h : i - pre.length with
    | succ j => rw [h] at e; simp at e
    | zero =>
      rw [h] at e
      simp only [List.getElem?_cons_zero, Option.some.injEq] at e
      subst e
      have hi : (i : Int) = (y - b) * (c - a) + (x - a) := by omega
      unfold plrAt
      rw [hi, Int.add_comm ((y - b) * (c - a)), Int.add_mul_emod_self_right, Int.emod_eq_of_lt (by omega) (by omega), Int.add_mul_ediv_right _ _ (by omega), Int.ediv_eq_zero_of_lt (by omega) (by omega)]
      simp only [List.cons.injEq, and_true]
      exact ⟨by omega, by omega⟩
def leftR (h : Int) : Value → Nat
  | .int _ y => (h - y).toNat
  | _ => 0
set_option maxRecDepth 100000 in
set_option maxHeartbeats 1000000 in
theorem plr_stops {a b c d : Int} (hac : a ≤ c ∧ -1099511627776 ≤ a ∧ c ≤ 1099511627776) (hbd : b ≤ d ∧ -1099511627776 ≤ b ∧ d ≤ 1099511627776) (W0 : World) (b1 : Nat) (t1 : TypeId) (e1 : W0.heap[b1]? = some (.cells #[.int .i64 a, .int .i64 b, .int .i64 c, .int .i64 d] t1 (0, 0))) (n : Nat) :
    SeqStopsK (α := PlR a b c d) Fence.wide n Try.prog 73 #[.pointer (some ⟨b1, 0, none⟩)] (fun v => (v.1.map fun x => Value.int .i64 x).toArray) (fun W W' => ∀ b ∈ [b1], W'.heap[b]? = W.heap[b]?)
      (fun xs => plrPre a b c d ((d - b) * (c - a)) xs) (fun _ => True) ((d - b) * (c - a)).toNat W0 := fun l J Jx W hW hJ hJx hY h0 => by
  have l1 : b1 < W0.heap.size := (Array.getElem?_eq_some_iff.1 e1).1
  have c0 : ∀ {V : World}, V.heap[b1]? = some (.cells #[.int .i64 a, .int .i64 b, .int .i64 c, .int .i64 d] t1 (0, 0)) → V.cell? ⟨b1, 0, none⟩ = some (.int .i64 a) := fun e => by simp [World.cell?, e]
  have c1 : ∀ {V : World}, V.heap[b1]? = some (.cells #[.int .i64 a, .int .i64 b, .int .i64 c, .int .i64 d] t1 (0, 0)) → V.cell? ⟨b1, 1, none⟩ = some (.int .i64 b) := fun e => by simp [World.cell?, e]
  have c2 : ∀ {V : World}, V.heap[b1]? = some (.cells #[.int .i64 a, .int .i64 b, .int .i64 c, .int .i64 d] t1 (0, 0)) → V.cell? ⟨b1, 2, none⟩ = some (.int .i64 c) := fun e => by simp [World.cell?, e]
  have c3 : ∀ {V : World}, V.heap[b1]? = some (.cells #[.int .i64 a, .int .i64 b, .int .i64 c, .int .i64 d] t1 (0, 0)) → V.cell? ⟨b1, 3, none⟩ = some (.int .i64 d) := fun e => by simp [World.cell?, e]
  have f1 : W.heap[b1]? = some (.cells #[.int .i64 a, .int .i64 b, .int .i64 c, .int .i64 d] t1 (0, 0)) := by rw [hW.block b1 l1]; exact e1
  refine callsIn_of_wp Try.func73 rfl trivial ?_ rfl
  have r1 := c1 f1
  have cw : 0 ≤ c - a := by omega
  simp only [Try.ntmps73, List.size_toArray, List.length_cons, List.length_nil, Nat.reduceAdd, Nat.reduceSub, Array.replicate_succ, Array.replicate_zero, List.push_toArray, List.append_toArray, List.nil_append, List.cons_append]
  gi_wp2
  gi_loopw [3] (fun p wr => ∃ (y : Int) (pre : List (PlR a b c d)), p = .int .i64 y ∧ (b ≤ y ∧ y ≤ d) ∧ plrPre a b c d ((y - b) * (c - a)) pre ∧ J pre wr ∧ wr.heap[b1]? = some (.cells #[.int .i64 a, .int .i64 b, .int .i64 c, .int .i64 d] t1 (0, 0)))
    (fun p wr => leftR d p)
  case atStart => exact ⟨b, [], rfl, ⟨by omega, by omega⟩, by rw [Int.sub_self, Int.zero_mul]; exact plr_nil a b c d, h0, f1⟩
  case round =>
    obtain ⟨y, pre, rfl, hy, hp, hJs, g1⟩ := hrel
    have r0 := c0 g1
    have r3 := c3 g1
    by_cases hlt : y < d
    · have hlt' : decide (y < d) = true := decide_eq_true hlt
      gi_wp2
      gi_loopw [4] (fun p wr => ∃ (x : Int) (pre : List (PlR a b c d)), p = .int .i64 x ∧ (a ≤ x ∧ x ≤ c) ∧ plrPre a b c d ((y - b) * (c - a) + (x - a)) pre ∧ J pre wr ∧ wr.heap[b1]? = some (.cells #[.int .i64 a, .int .i64 b, .int .i64 c, .int .i64 d] t1 (0, 0)))
        (fun p wr => leftR c p)
      case atStart => exact ⟨a, pre, rfl, ⟨by omega, by omega⟩, by rw [Int.sub_self, Int.add_zero]; exact hp, hJs, g1⟩
      case round =>
        obtain ⟨x, pre, rfl, hx, hp, hJs, g1⟩ := hrel
        have r2 := c2 g1
        by_cases hxt : x < c
        · have hxt' : decide (x < c) = true := decide_eq_true hxt
          have m0 := Int.mul_nonneg (show 0 ≤ y - b by omega) cw
          have m1 := Int.mul_le_mul_of_nonneg_right (show y - b ≤ d - b - 1 by omega) cw
          have m2 : (d - b - 1) * (c - a) = (d - b) * (c - a) - (c - a) := by rw [Int.sub_mul, Int.one_mul]
          obtain ⟨fn, tmps, assign, body, hy', hR⟩ := hY pre ⟨[x, y], x, y, rfl, ⟨hx.1, hxt⟩, hy.1, hlt⟩ wr hJs (by rw [← Int.ofNat_lt, hp.1, Int.toNat_of_nonneg (by omega)]; omega)
          dsimp only [List.map] at hy'
          gi_wp2
          refine ⟨fun h => (by cases h), hR.mono ?_⟩
          rintro e W3 (⟨rfl, hJ3, hk3⟩ | ⟨rfl, hJx3⟩)
          · have g13 := (hk3 b1 (by simp)).trans g1
            have ia : iadd .i64 x 1 = x + 1 := IntWalk.i64_in _ (by omega)
            gi_wp2
            exact ⟨⟨x + 1, _, rfl, ⟨by omega, by omega⟩, by rw [show x + 1 - a = (x - a) + 1 by omega, ← Int.add_assoc]; exact plr_snoc hp rfl ⟨hx.1, hxt⟩ ⟨hy.1, hlt⟩, hJ3, g13⟩, by show (c - (x + 1)).toNat < (c - x).toNat; omega⟩
          · gi_wp2
            refine bodyPost_ret (results_none rfl _ _ _) rfl ?_
            exact ⟨⟨_, rfl⟩, .inr ⟨_, trivial, hJx3⟩⟩
        · have hxt' : decide (x < c) = false := decide_eq_false hxt
          gi_wp2
          obtain rfl : x = c := by omega
          exact ⟨⟨y + 1, pre, rfl, ⟨by omega, by omega⟩, by rw [show y + 1 - b = (y - b) + 1 by omega, Int.add_mul, Int.one_mul]; exact hp, hJs, g1⟩, by show (d - (y + 1)).toNat < (d - y).toNat; omega⟩
    · have hlt' : decide (y < d) = false := decide_eq_false hlt
      gi_wp2
      obtain rfl : y = d := by omega
      go_end0
      exact ⟨⟨_, rfl⟩, .inl ⟨pre, hp, hJs⟩⟩
def plrAll (a b c d : Int) (p : List (List Int)) : Prop := lnI p = (d - b) * (c - a) ∧ ∀ (i : Nat) (v : List Int), p[i]? = some v → v = plrAt a b c i
theorem plr_it {a b c d : Int} (hac : a ≤ c ∧ -1099511627776 ≤ a ∧ c ≤ 1099511627776) (hbd : b ≤ d ∧ -1099511627776 ≤ b ∧ d ≤ 1099511627776) : itP 73 [[.int .i64 a, .int .i64 b, .int .i64 c, .int .i64 d]] (plrOk a b c d) (plrAll a b c d) ((d - b) * (c - a)).toNat := by
  refine ⟨enters_of Try.func73 (by kernel_rfl) rfl, fun W bs hb n => ?_⟩
  match bs, hb with
  | [b1], ⟨⟨t1, e1⟩, _⟩ =>
    have := plr_stops hac hbd W b1 t1 e1 n
    have eS : (fun xs : List (PlR a b c d) => plrAll a b c d (xs.map (·.1))) = fun xs => plrPre a b c d ((d - b) * (c - a)) xs := by
      funext xs
      apply propext
      unfold plrAll plrPre
      constructor
      · rintro ⟨h1, h2⟩
        exact ⟨by unfold lnI at h1; simpa using h1, fun i v e => h2 i v.1 (by rw [List.getElem?_map, e]; rfl)⟩
      · rintro ⟨h1, h2⟩
        refine ⟨by unfold lnI; simpa using h1, fun i v e => ?_⟩
        rw [List.getElem?_map] at e
        cases ex : xs[i]? with
        | none => rw [ex] at e; simp at e
        | some u => rw [ex] at e; simp at e; rw [← e]; exact h2 i u ex
    rw [eS]
    exact this
end Go.Proofs.Ytcckcifmhhaepaa
