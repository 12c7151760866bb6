import Derived.Test.YtcckcifmhhaepaaZaa
import Derived.Test.YtcckcifmhhaepaaZye
namespace Go.Proofs.Ytcckcifmhhaepaa
open Go.RowKit PR QR
set_option linter.unusedVariables false
set_option linter.unusedSimpArgs false
set_option maxRecDepth 20000
theorem a_plnF : Answers2 76 s_plnF := by
  intro al ans h hq
  unfold s_plnF at h
  split at h <;> try (simp at h; done)
  rename_i w h s
  simp only [Option.some.injEq] at h
  subst h
  have hq := asked hq
  refine QR.does_of_eval (O := o_pnv) (QR.orc_cons a_pprm (QR.orc_cons a_pndd QR.orc_nil)) mixed (QR.noLoops) Try.func76 (by kernel_rfl) (by kernel_rfl) (by simp) ?_
  rw [lpln_vc]
  obtain ⟨fw, es, _⟩ := hq
  obtain rfl : s = w := of_decide_eq_true es
  have f1 := fit_le fw
  have f3 := fit_iff.1 fw
  have f : prB s h s = true := pr_iff.2 ⟨fw, by omega, by omega⟩
  have en : ndN s h s = bdN s h := by show (h - 1) * s + s = s * h; rw [Int.sub_mul, Int.one_mul, Int.mul_comm]; omega
  have eb : bdN s h = s * h := rfl
  have m0 := Int.mul_nonneg (show 0 ≤ s by omega) (show 0 ≤ h by omega)
  have iw : in64 s = true := in64_iff.2 (by omega)
  have ih : in64 h = true := in64_iff.2 (by omega)
  have c3 : igt (bdN s h) 16777216 = false := by rw [igt_le', eb]; simp; omega
  have c4 : ile 0 (bdN s h) = true := ile_t (by omega)
  have c5 : ile (bdN s h) (bdN s h) = true := ile_t (Int.le_refl _)
  have c6 : ile (imulZ (bdN s h) 2) 140737488355328 = true := ile_t (by unfold imulZ; omega)
  have c7 : ile (bdN s h) 140737488355328 = true := ile_t (by omega)
  simp [okAns, eqXs, eqX, eqo, eqLo, eqL, eqc, veq, eqUs, bcond_iff, bnot, f, iw, ih, en, c3, c4, c5, c6, c7]
  exact .slc fun i j hi hj => by obtain rfl : j = 0 := by omega
                                 exact .v _
theorem ok_put (j : Nat) : QR.InlOK Try.prog (o_inl_put j) ∧ QR.GB ≤ (o_inl_put j).T :=
  QR.inl_flat (O := QR.orc []) QR.orc_nil mixed (fun n => bif Nat.beq n 3 then some (.rounds 6) else none) (J' := fun _ => none) no_inl (j := j) Try.func69 (by kernel_rfl) (by kernel_rfl)
theorem ok_whole : QR.InlOK Try.prog o_inl_whole ∧ QR.GB ≤ o_inl_whole.T :=
  QR.inl_flat (O := QR.orc []) QR.orc_nil mixed QR.noLoops (J' := fun _ => none) no_inl (j := 0) Try.func56 (by kernel_rfl) (by kernel_rfl)
theorem ok_cbld (B : List (Nat × Blk)) (f : CV) (w h : Int) (g : Nat → Int → Int → Int) : QR.CfgOK Try.prog (o_cfg_bld B f w h g) 750 :=
  ⟨one_inl (ok_put 6), one_inl (p := fun c => QR.InlOK Try.prog c ∧ 750 ≤ c.T) ⟨ok_whole.1, by decide⟩, .inr (Nat.le_refl _)⟩
theorem ok_bld (j : Nat) {k : Nat} {s : List AV → Option QR.Ans} (a : Answers2 k s) (B : List (Nat × Blk)) (f : CV) (w h : Int) (g : Nat → Int → Int → Int) : QR.InlOK Try.prog (o_inl_bld j (o_bldO k s) B f w h g) ∧ 500 ≤ (o_inl_bld j (o_bldO k s) B f w h g).T :=
  ⟨QR.inl_top (O := o_bldO k s) (QR.orc_cons a_plnF (QR.orc_cons a_iplc (QR.orc_cons a QR.orc_nil))) mixed (ok_cbld B f w h g) (by decide) itP_ok (j := j) Try.func52 (by kernel_rfl) (by kernel_rfl), by show 500 ≤ 750; omega⟩
theorem ok_cof (w h n : Int) (q : Int → Nat → Int) : QR.CfgOK Try.prog (o_cfg_of w h n q) 500 := ⟨no_inl, one_inl (p := fun c => QR.InlOK Try.prog c ∧ 500 ≤ c.T) (ok_bld 3 a_iofc _ _ _ _ _), .inr (Nat.le_refl _)⟩
theorem bd_snoc (g : Int → Int → Int) (w : Int) (p : List (List Int)) (v : List Int) (i : Int) : bdV g w (snocL p v) i = if nthI v 1 * w + nthI v 0 = i then g (nthI v 0) (nthI v 1) else bdV g w p i := by
  unfold bdV snocL
  rw [List.foldl_append]; rfl
theorem take_snoc {α : Type} (p : List α) (n : Nat) (h : n < p.length) : p.take (n + 1) = p.take n ++ [p[n]] := by
  rw [List.take_add_one, List.getElem?_eq_getElem h]; rfl
theorem bd_all {w h : Int} {p : List (List Int)} (hp : plrAll 0 0 w h p) (hw : 1 ≤ w) (g : Int → Int → Int) {i : Int} (h0 : 0 ≤ i) (h1 : i < w * h) : bdV g w p i = g (i % w) (i / w) := by
  obtain ⟨hl, ha⟩ := hp
  rw [Int.sub_zero, Int.sub_zero, Int.mul_comm] at hl
  have step : ∀ n : Nat, n ≤ p.length → bdV g w (p.take n) i = if i < n then g (i % w) (i / w) else 0 := by
    intro n
    induction n with
    | zero => intro _; rw [if_neg (by omega)]; rfl
    | succ n ih =>
      intro hn
      have e := ha n _ (List.getElem?_eq_getElem (by omega))
      rw [take_snoc p n (by omega), show p.take n ++ [p[n]] = snocL (p.take n) p[n] from rfl, bd_snoc, e, ih (by omega)]
      have x1 : nthI (plrAt 0 0 w n) 0 = (n : Int) % w := by unfold plrAt nthI; simp
      have x2 : nthI (plrAt 0 0 w n) 1 = (n : Int) / w := by unfold plrAt nthI; simp
      rw [x1, x2]
      have ed : (n : Int) / w * w + (n : Int) % w = n := by rw [Int.mul_comm]; exact Int.mul_ediv_add_emod _ _
      rw [ed]
      by_cases c : (n : Int) = i
      · rw [if_pos c, if_pos (by omega), c]
      · rw [if_neg c]
        by_cases d : i < n
        · rw [if_pos d, if_pos (by omega)]
        · rw [if_neg d, if_neg (by omega)]
  have := step p.length (Nat.le_refl _)
  rw [List.take_length] at this
  rw [this, if_pos (by unfold lnI at hl; omega)]
theorem bd_ix {w h x y : Int} (f : fitB w h = true) (hx : 0 ≤ x ∧ x < w) (hy : 0 ≤ y ∧ y < h) : iadd .i64 (imul .i64 y w) x = y * w + x ∧ 0 ≤ y * w + x ∧ y * w + x < w * h := by
  have f4 := fit_iff.1 f
  have w1 := fit_le f
  have m0 := Int.mul_nonneg hy.1 (show 0 ≤ w by omega)
  have m1 := Int.mul_le_mul_of_nonneg_right (show y ≤ h - 1 by omega) (show 0 ≤ w by omega)
  have m2 : (h - 1) * w = w * h - w := by rw [Int.sub_mul, Int.one_mul, Int.mul_comm]
  refine ⟨?_, by omega, by omega⟩
  rw [show imul .i64 y w = y * w from IntWalk.i64_in _ (by omega)]
  exact IntWalk.i64_in _ (by omega)
theorem bd_K {g : Int → Int → Int} {w x y u v : Int} {pre : List (List Int)} (hu : u = y * w + x) (hv : v = g x y) (t : Nat) : isel (ieq (Int.ofNat t) u) v (bdV g w pre (Int.ofNat t)) = bdV g w (snocL pre [x, y]) (Int.ofNat t) := by
  rw [bd_snoc]
  show _ = if y * w + x = _ then g x y else _
  cases e : ieq (Int.ofNat t) u
  · have e := ieq_ff e
    rw [isel_f, if_neg (by omega)]
  · have e := ieq_t2 e
    rw [isel_t, if_pos (by omega), hv]
theorem bd_row {w h n : Int} {pre : List (List Int)} (hp : plrAll 0 0 w h pre) (hw : 1 ≤ w) (en : n = w * h) {g : Int → Int → Int} {r : Int → Int} (hr : ∀ t : Int, 0 ≤ t → t < w * h → g (t % w) (t / w) = r t) :
    EqC (.slc 1 (bdN w h) (.fn fun i _ => .v (.int .u16 (bdV g w pre i)))) (.slc 1 n (.fn fun i _ => .v (.int .u16 (r i)))) := by
  subst en
  refine .slc fun t j ht hj => ?_
  have ht : (t : Int) < w * h := ht
  show EqC (.v (.int .u16 (bdV g w pre t))) _
  rw [bd_all hp hw g (by omega) ht, hr _ (by omega) ht]; exact .v _
theorem row_i (n : Int) (q : Int → Nat → Int) : intRow .u16 5 n (.fn fun i j => .v (.int .u16 (q i j))) := fun i j _ _ => rfl
theorem a_iof : Answers2 20 s_imof := by
  intro al ans hh hq
  unfold s_imof at hh
  split at hh <;> try (simp at hh; done)
  rename_i w h c
  cases en : slcOf 5 c with
  | none => simp [en] at hh
  | some pn =>
  obtain ⟨n, rn⟩ := pn
  simp only [en] at hh
  simp only [Option.some.injEq] at hh
  subst hh
  obtain ⟨q, hdn⟩ : ∃ q : Int → Nat → Int, q = fun i j => intC (den rn i j) := ⟨_, rfl⟩
  try rw [← hdn]
  refine does_args2 (al' := [.x (.c (.v (.int .i64 w))), .x (.c (.v (.int .i64 h))), .x (.c (.slc 5 n (.fn fun i j => .v (.int .u16 (q i j)))))]) ⟨.v _, .v _, (hdn ▸ slcOf_ints en (by decide) (hq _ (by simp))), trivial⟩ ?_
  have hq := asked hq
  refine QR.does_of_evalJ (O := o_iof) (QR.orc_cons a_iprm QR.orc_nil) mixed (C := (o_cfg_of w h n q)) (ok_cof w h n q) itP_ok Try.func20 (by kernel_rfl) (by kernel_rfl) (by simp) ?_
  rw [iofI_vc]
  delta zz0 zz7 zz16 zz73 zz82 zz93 zz95 zz107 zz120
  obtain ⟨_, iw, ih, n0, _⟩ := hq
  have z1 : Nat.blt 0 1 = true := rfl
  simp only [eqS_t, eqQ_t, okAns, eqXs, eqX, eqo, eqLo, eqL, eqc, veq, eqUs, bcond_iff, bnot, nilC, row_i, iw, ih, z1, true_and, and_true, and_self, implies_true, true_implies, reduceCtorEq, false_implies, Bool.not_true, Bool.not_false, forall_eq, or_false, false_or, and_false, false_and, exists_false, exists_eq_right, exists_eq_right']
  have no : imofOk w h n = false → eqLo [.v (.int .i64 0), .v (.int .i64 0), .v (.bool false), .v (.int .u16 0), .v (.int .u16 0), .v (.int .u16 0), .v (.int .u16 0), .v (.int .u16 0), .v (.int .i64 0), .v (.int .i64 0), .v (.int .i64 0), .v (.slice none 0 0), .v (.int .i64 0), .v (.int .i64 0), .v (.int .i64 0), .v (.slice none 0 0), .v (.int .i64 0), .v (.int .i64 0), .v (.int .i64 0), .v (.slice none 0 0), .v (.int .i64 0), .v (.int .i64 0), .v (.int .i64 0), .v (.slice none 0 0), .v (.int .i64 0), .v (.int .i64 0), .v (.int .i64 0), .v (.slice none 0 0)] (imC (imofV w h n q)) ∧ false = imofOk w h n := fun k => by
    rw [imof_f k, k]; exact ⟨eq_zim, rfl⟩
  refine ⟨⟨fun c => no (decide_eq_false fun k => by rw [k.1] at c; simp at c), fun f => ⟨fun c => no (decide_eq_false fun k => ?_), fun c => ?_⟩⟩, fun _ ok => ?_⟩
  · have w1 := fit_le k.1
    have f4 := fit_iff.1 k.1
    have m0 := Int.mul_nonneg (show 0 ≤ w by omega) (show 0 ≤ h by omega)
    have em : imul .i64 w h = w * h := IntWalk.i64_in _ (by omega)
    rw [em] at c
    exact ine_tt c k.2
  · have f : fitB w h = true := by simpa using f
    have w1 := fit_le f
    have f4 := fit_iff.1 f
    have m0 := Int.mul_nonneg (show 0 ≤ w by omega) (show 0 ≤ h by omega)
    have em : imul .i64 w h = w * h := IntWalk.i64_in _ (by omega)
    rw [em] at c
    exact ⟨0, decide_eq_true ⟨f, ine_ff c⟩⟩
  have ok : imofOk w h n = true := ok
  obtain ⟨f, c⟩ := of_decide_eq_true ok
  have w1 := fit_le f
  have f4 := fit_iff.1 f
  have m0 := Int.mul_nonneg (show 0 ≤ w by omega) (show 0 ≤ h by omega)
  have ew : ieq w w = true := decide_eq_true rfl
  have it := plr_it (a := 0) (b := 0) (c := w) (d := h) ⟨by omega, by omega, by omega⟩ ⟨by omega, by omega, by omega⟩
  have eN : ((h - 0) * (w - 0)).toNat = plrN 0 0 w h := rfl
  refine ⟨⟨⟨f, ew⟩, ⟨f, ew⟩, ⟨f, ew⟩, ⟨f, ew⟩, ⟨f, ew⟩, 0, fun _ _ => rfl, fun _ _ => rfl, fun _ _ => rfl, fun _ _ => rfl, fun _ _ => rfl⟩, fun _ => ⟨it, fun v ⟨x, y, e, _⟩ => (by rw [e]; rfl), trivial, fun pre v hg hl hv => ?_, fun pre hp hg => ?_⟩⟩
  · obtain ⟨x, y, rfl, hx, hy⟩ := hv
    obtain ⟨e1, e2, e3⟩ := bd_ix f hx hy
    have hx' : nthI [x, y] 0 = x := rfl
    have hy' : nthI [x, y] 1 = y := rfl
    rw [hx', hy']
    have g0 : ile 0 (iadd .i64 (imul .i64 y w) x) = true := by rw [e1]; exact ile_t e2
    have g1 : ilt (iadd .i64 (imul .i64 y w) x) n = true := by rw [e1, c]; exact ilt_t e3
    have g2 : ilt (iadd .i64 (imul .i64 y w) x) (bdN w h) = true := by rw [e1]; exact ilt_t e3
    exact ⟨⟨g0, g1⟩, ⟨g0, g2⟩, ⟨g0, g2⟩, ⟨g0, g2⟩, ⟨g0, g2⟩, ⟨g0, g2⟩, trivial, fun t _ => bd_K (g := ofG q w 0) e1 rfl t, fun t _ => bd_K (g := ofG q w 1) e1 rfl t, fun t _ => bd_K (g := ofG q w 2) e1 rfl t, fun t _ => bd_K (g := ofG q w 3) e1 rfl t, fun t _ => bd_K (g := ofG q w 4) e1 rfl t⟩
  · rw [imof_t ok]
    refine ⟨?_, ok.symm⟩
    simp only [imC, plLaid, eqLo, eqo, eqc, veq, true_and, and_true, and_self]
    have K : ∀ k : Nat, ∀ t : Int, 0 ≤ t → t < w * h → ofG q w k (t % w) (t / w) = q t k := fun k t t0 t1 => by
      have x0 := Int.emod_nonneg t (show w ≠ 0 by omega)
      have x1 := Int.emod_lt_of_pos t (show 0 < w by omega)
      have y0 := Int.ediv_nonneg t0 (show 0 ≤ w by omega)
      have y1 := Int.ediv_lt_of_lt_mul (show 0 < w by omega) (show t < h * w by rw [Int.mul_comm]; exact t1)
      unfold ofG
      rw [(bd_ix f ⟨x0, x1⟩ ⟨y0, y1⟩).1, Int.mul_comm (t / w) w, Int.mul_ediv_add_emod]
    exact ⟨bd_row hp f4.1 c (K 0), bd_row hp f4.1 c (K 1), bd_row hp f4.1 c (K 2), bd_row hp f4.1 c (K 3), bd_row hp f4.1 c (K 4)⟩
theorem a_cnvW : Answers2 60 s_cnvW := by
  intro al ans h hq
  unfold s_cnvW at h
  split at h <;> try (simp at h; done)
  rename_i s t
  simp only [Option.some.injEq] at h
  subst h
  have hq := asked hq
  refine QR.does_of_eval (O := (QR.orc [])) QR.orc_nil mixed (QR.noLoops) Try.func60 (by kernel_rfl) (by kernel_rfl) (by simp) ?_
  rw [icnv_vc]
  simp [okAns, eqXs, eqX, eqo, eqLo, eqL, eqc, veq, eqUs, bcond_iff, hq.1]
theorem a_cnvN : Answers2 60 s_cnvN := by
  intro al ans h hq
  unfold s_cnvN at h
  split at h <;> try (simp at h; done)
  rename_i s t
  simp only [Option.some.injEq] at h
  subst h
  have hq := asked hq
  refine QR.does_of_eval (O := (QR.orc [])) QR.orc_nil mixed (QR.noLoops) Try.func60 (by kernel_rfl) (by kernel_rfl) (by simp) ?_
  rw [icnv_vc]
  have g : igt s t = true := hq.1
  have h : ilt s t = false := ilt_f (by have := of_decide_eq_true g; omega)
  simp [okAns, eqXs, eqX, eqo, eqLo, eqL, eqc, veq, eqUs, bcond_iff, g, h]
theorem a_cnvI : Answers2 60 s_cnvI := by
  intro al ans h hq
  unfold s_cnvI at h
  split at h <;> try (simp at h; done)
  rename_i s t
  simp only [Option.some.injEq] at h
  subst h
  have hq := asked hq
  refine QR.does_of_eval (O := (QR.orc [])) QR.orc_nil mixed (QR.noLoops) Try.func60 (by kernel_rfl) (by kernel_rfl) (by simp) ?_
  rw [icnv_vc]
  have e : s = t := of_decide_eq_true hq.1
  have g : igt s t = false := decide_eq_false (by omega)
  have h : ilt s t = false := ilt_f (by omega)
  simp [okAns, eqXs, eqX, eqo, eqLo, eqL, eqc, veq, eqUs, bcond_iff, g, h]
theorem a_cv1 : Answers2 79 s_cv1 := by
  intro al ans h hq
  unfold s_cv1 at h
  split at h <;> try (simp at h; done)
  rename_i c0 c1 c2 a f
  simp only [Option.some.injEq] at h
  subst h
  have hq := asked hq
  refine QR.does_of_eval (O := (QR.orc [])) QR.orc_nil mixed (QR.noLoops) Try.func79 (by kernel_rfl) (by kernel_rfl) (by simp) ?_
  rw [icnv1_vc]
  delta zz83
  simp [okAns, eqXs, eqX, eqo, eqLo, eqL, eqc, veq, eqUs]
theorem a_cvcW : Answers2 61 s_cvcW := by
  intro al ans hh hq
  unfold s_cvcW at hh
  split at hh <;> try (simp at hh; done)
  rename_i x y g l
  cases em : s_imOf l with
  | none => simp [em] at hh
  | some p =>
  obtain ⟨m, A⟩ := p
  simp only [em] at hh
  simp only [Option.some.injEq] at hh
  subst hh
  obtain rfl : g = 77 := Nat.eq_of_beq_eq_true (hq _ (by simp))
  have hG : imG m := hq _ (by simp)
  have hi : imIn m x y = true := hq _ (by simp)
  refine does_args3 (al' := [.x (.c (.v (.int .i64 x))), .x (.c (.v (.int .i64 y))), .ref 0 [.v (.func (.func 77) ⟨[]⟩ ⟨[]⟩)], .ref 0 (imC m)]) ⟨.v _, .v _, ⟨rfl, .v _, trivial⟩, ⟨rfl, imOf_eq em fun p hp => hq p (by simp [hp])⟩, trivial⟩ ?_
  refine QR.does_of_eval (O := o_cvcW) (QR.orc_cons a_ipixel (QR.orc_cons a_widen2 QR.orc_nil)) mixed QR.noLoops Try.func61 (by kernel_rfl) (by kernel_rfl) (by simp) ?_
  rw [icvcW_vc]
  delta zz13 zz83 zz99
  have i0 := px16 hG hi (k := 0) (by decide)
  have i1 := px16 hG hi (k := 1) (by decide)
  have i2 := px16 hG hi (k := 2) (by decide)
  have i3 := px16 hG hi (k := 3) (by decide)
  have i4 := px16 hG hi (k := 4) (by decide)
  simp [eqS_t, okAns, eqXs, eqX, eqo, eqLo, eqL, eqc, veq, eqUs, imC, hG, hi, intRow_one, i0, i1, i2, i3, i4]
theorem a_cvcN : Answers2 61 s_cvcN := by
  intro al ans hh hq
  unfold s_cvcN at hh
  split at hh <;> try (simp at hh; done)
  rename_i x y g l
  cases em : s_imOf l with
  | none => simp [em] at hh
  | some p =>
  obtain ⟨m, A⟩ := p
  simp only [em] at hh
  simp only [Option.some.injEq] at hh
  subst hh
  obtain rfl : g = 78 := Nat.eq_of_beq_eq_true (hq _ (by simp))
  have hG : imG m := hq _ (by simp)
  have hi : imIn m x y = true := hq _ (by simp)
  refine does_args3 (al' := [.x (.c (.v (.int .i64 x))), .x (.c (.v (.int .i64 y))), .ref 0 [.v (.func (.func 78) ⟨[]⟩ ⟨[]⟩)], .ref 0 (imC m)]) ⟨.v _, .v _, ⟨rfl, .v _, trivial⟩, ⟨rfl, imOf_eq em fun p hp => hq p (by simp [hp])⟩, trivial⟩ ?_
  refine QR.does_of_eval (O := o_cvcN) (QR.orc_cons a_ipixel (QR.orc_cons a_narrow2 QR.orc_nil)) mixed QR.noLoops Try.func61 (by kernel_rfl) (by kernel_rfl) (by simp) ?_
  rw [icvcN_vc]
  delta zz13 zz83 zz99
  have i0 := px16 hG hi (k := 0) (by decide)
  have i1 := px16 hG hi (k := 1) (by decide)
  have i2 := px16 hG hi (k := 2) (by decide)
  have i3 := px16 hG hi (k := 3) (by decide)
  have i4 := px16 hG hi (k := 4) (by decide)
  simp [eqS_t, okAns, eqXs, eqX, eqo, eqLo, eqL, eqc, veq, eqUs, imC, hG, hi, intRow_one, i0, i1, i2, i3, i4]
theorem a_cvcI : Answers2 61 s_cvcI := by
  intro al ans hh hq
  unfold s_cvcI at hh
  split at hh <;> try (simp at hh; done)
  rename_i x y g l
  cases em : s_imOf l with
  | none => simp [em] at hh
  | some p =>
  obtain ⟨m, A⟩ := p
  simp only [em] at hh
  simp only [Option.some.injEq] at hh
  subst hh
  obtain rfl : g = 79 := Nat.eq_of_beq_eq_true (hq _ (by simp))
  have hG : imG m := hq _ (by simp)
  have hi : imIn m x y = true := hq _ (by simp)
  refine does_args3 (al' := [.x (.c (.v (.int .i64 x))), .x (.c (.v (.int .i64 y))), .ref 0 [.v (.func (.func 79) ⟨[]⟩ ⟨[]⟩)], .ref 0 (imC m)]) ⟨.v _, .v _, ⟨rfl, .v _, trivial⟩, ⟨rfl, imOf_eq em fun p hp => hq p (by simp [hp])⟩, trivial⟩ ?_
  refine QR.does_of_eval (O := o_cvcI) (QR.orc_cons a_ipixel (QR.orc_cons a_cv1 QR.orc_nil)) mixed QR.noLoops Try.func61 (by kernel_rfl) (by kernel_rfl) (by simp) ?_
  rw [icvcI_vc]
  delta zz13 zz81 zz83
  have i0 := px16 hG hi (k := 0) (by decide)
  have i1 := px16 hG hi (k := 1) (by decide)
  have i2 := px16 hG hi (k := 2) (by decide)
  have i3 := px16 hG hi (k := 3) (by decide)
  have i4 := px16 hG hi (k := 4) (by decide)
  simp [eqS_t, okAns, eqXs, eqX, eqo, eqLo, eqL, eqc, veq, eqUs, imC, hG, hi, intRow_one, i0, i1, i2, i3, i4]
theorem ok_ccv {k : Nat} {sp : List AV → Option QR.Ans} (a : Answers2 61 sp) (c : Int → Int) (m : Im) (s t : Int) : QR.CfgOK Try.prog (o_cfg_cv k sp c m s t) 500 := ⟨no_inl, one_inl (p := fun c => QR.InlOK Try.prog c ∧ 500 ≤ c.T) (ok_bld 5 a _ _ _ _ _), .inr (Nat.le_refl _)⟩
theorem icv_e {m : Im} {s t : Int} : imCvE m s t = (bif smOk s && smOk t then imE m (smV s) else 1) ∧ imCv m s t = bif imCvE m s t == 0 then (bif m.sol then imSol m.w m.h (cvV s t m.c0) (cvV s t m.c1) (cvV s t m.c2) (cvV s t m.a) (cvV s t m.f) else imofV m.w m.h (imN m) fun i k => cvV s t (pxI m i k)) else imZero := ⟨rfl, rfl⟩
theorem icv_in {m : Im} {s t : Int} (h : cvOK m s t) {c : Int → Int} (cv : ∀ x, cvV s t x = c x) : (fitB m.w m.h = true ∧ ieq m.w m.w = true) ∧ itP 73 [[.int .i64 0, .int .i64 0, .int .i64 m.w, .int .i64 m.h]] (fun v => plrOk 0 0 m.w m.h v) (fun p => plrAll 0 0 m.w m.h p) (plrN 0 0 m.w m.h) ∧
    (∀ x y : Int, (0 ≤ x ∧ x < m.w) → (0 ≤ y ∧ y < m.h) → imIn m x y = true ∧ (ile 0 (iadd .i64 (imul .i64 y m.w) x) = true ∧ ilt (iadd .i64 (imul .i64 y m.w) x) (bdN m.w m.h) = true) ∧ iadd .i64 (imul .i64 y m.w) x = y * m.w + x) ∧
    ∀ pre, plrAll 0 0 m.w m.h pre → eqLo [.v (.int .i64 m.w), .v (.int .i64 m.h), .v (.bool false), .v (.int .u16 0), .v (.int .u16 0), .v (.int .u16 0), .v (.int .u16 0), .v (.int .u16 0),
      .v (.int .i64 m.w), .v (.int .i64 m.h), .v (.int .i64 m.w), .slc 1 (bdN m.w m.h) (.fn fun i _ => .v (.int .u16 (bdV (cvG c m 0) m.w pre i))), .v (.int .i64 m.w), .v (.int .i64 m.h), .v (.int .i64 m.w), .slc 1 (bdN m.w m.h) (.fn fun i _ => .v (.int .u16 (bdV (cvG c m 1) m.w pre i))),
      .v (.int .i64 m.w), .v (.int .i64 m.h), .v (.int .i64 m.w), .slc 1 (bdN m.w m.h) (.fn fun i _ => .v (.int .u16 (bdV (cvG c m 2) m.w pre i))), .v (.int .i64 m.w), .v (.int .i64 m.h), .v (.int .i64 m.w), .slc 1 (bdN m.w m.h) (.fn fun i _ => .v (.int .u16 (bdV (cvG c m 3) m.w pre i))),
      .v (.int .i64 m.w), .v (.int .i64 m.h), .v (.int .i64 m.w), .slc 1 (bdN m.w m.h) (.fn fun i _ => .v (.int .u16 (bdV (cvG c m 4) m.w pre i)))] (imC (imCv m s t)) := by
  obtain ⟨e0, hs⟩ := h
  have hz : imE m (smV s) = 0 := by
    have e1 := icv_e (m := m) (s := s) (t := t)
    rw [e0] at e1
    cases a : smOk s && smOk t
    · rw [a] at e1; have := e1.1; simp at this
    · rw [a] at e1; exact e1.1.symm
  obtain ⟨ok, _⟩ := ime_ok hz
  have f := (ok_iff.1 ok).1
  have f4 := fit_iff.1 f
  have w1 := fit_le f
  have eN : imN m = m.w * m.h := by show (bif imOk m then _ else _) = _; rw [ok]; rfl
  have okF : imofOk m.w m.h (imN m) = true := decide_eq_true ⟨f, eN⟩
  refine ⟨⟨f, decide_eq_true rfl⟩, plr_it (a := 0) (b := 0) (c := m.w) (d := m.h) ⟨by omega, by omega, by omega⟩ ⟨by omega, by omega, by omega⟩, fun x y hx hy => ?_, fun pre hp => ?_⟩
  · obtain ⟨e1, e2, e3⟩ := bd_ix f hx hy
    exact ⟨imIn_iff.2 ⟨ok, hx, hy⟩, ⟨by rw [e1]; exact ile_t e2, by rw [e1]; exact ilt_t e3⟩, e1⟩
  · have e2 : imCv m s t = imofV m.w m.h (imN m) fun i k => cvV s t (pxI m i k) := by rw [icv_e.2, e0, hs]; rfl
    rw [e2, imof_t okF]
    simp only [imC, plLaid, eqLo, eqo, eqc, veq, true_and, and_true, and_self]
    have K : ∀ k : Nat, ∀ t' : Int, 0 ≤ t' → t' < m.w * m.h → cvG c m k (t' % m.w) (t' / m.w) = cvV s t (pxI m t' k) := fun k t' _ _ => by rw [cv]; rfl
    exact ⟨bd_row hp f4.1 eN (K 0), bd_row hp f4.1 eN (K 1), bd_row hp f4.1 eN (K 2), bd_row hp f4.1 eN (K 3), bd_row hp f4.1 eN (K 4)⟩
theorem a_icv : Answers2 32 s_imcv := by
  intro al ans hh hq
  unfold s_imcv at hh
  split at hh <;> try (simp at hh; done)
  rename_i l s t
  cases em : s_imOf l with
  | none => simp [em] at hh
  | some p =>
  obtain ⟨m, A⟩ := p
  simp only [em] at hh
  simp only [Option.some.injEq] at hh
  subst hh
  have hG : imG m := hq _ (by simp)
  refine does_args3 (al' := [.x (.agg (imC m)), .x (.c (.v (.int .i64 s))), .x (.c (.v (.int .i64 t)))]) ⟨imOf_eq em fun p hp => hq p (by simp [hp]), .v _, .v _, trivial⟩ ?_
  have no : ∀ e : Int, e ≠ 0 → imCvE m s t = e → imCv m s t = imZero := fun e h k => by rw [icv_e.2, k, show (e == 0) = false by simpa using h]; rfl
  have no1 : ∀ e : Int, e ≠ 0 → imCvE m s t = e → eqLo _ (imC (imCv m s t)) ∧ e = imCvE m s t := fun e h k => by rw [no e h k, k]; exact ⟨eq_zim, rfl⟩
  rcases Int.lt_trichotomy s t with q | q | q
  · refine QR.does_of_evalJ (O := o_icvW) (QR.orc_cons a_smax2 (QR.orc_cons a_iv (QR.orc_cons a_cnvW (QR.orc_cons a_widen2 (QR.orc_cons a_isolI QR.orc_nil))))) mixed (C := o_cfg_cv 77 s_cvcW t16 m s t) (ok_ccv a_cvcW t16 m s t) itP_ok Try.func32 (by kernel_rfl) (by kernel_rfl) (by simp) ?_
    rw [icvW_vc]
    delta zz0 zz1 zz7 zz9 zz12 zz20 zz26 zz35 zz77 zz86 zz93 zz107 zz120 zz155
    simp only [eqS_t, eqQ_t, okAns, eqXs, eqX, eqo, eqLo, eqL, eqc, veq, eqUs, bcond_iff, bnot, nilC, intRow_one, hG, true_and, and_true, and_self, implies_true, true_implies, reduceCtorEq, false_implies, Bool.not_true, Bool.not_false, forall_eq, or_false, false_or, and_false, false_and, exists_false, exists_eq_right, exists_eq_right']
    have cv : ∀ x, cvV s t x = t16 x := fun x => if_pos q
    refine ⟨fun c => no1 1 (by decide) (by rw [icv_e.1]; simp at c; rw [c]; rfl), fun c1 => ⟨fun c => no1 1 (by decide) (by rw [icv_e.1]; simp at c; rw [c]; simp), fun c2 => ?_⟩⟩
    have e1 : imCvE m s t = imE m (smV s) := by rw [icv_e.1]; simp at c1 c2; rw [c1, c2]; rfl
    refine ⟨fun c => no1 _ (ine_tt c) e1, fun c3 => ⟨ilt_t q, ⟨fun c => ?_, fun c => ⟨0, e1.trans (ine_ff c3), c⟩⟩, fun _ hc => ?_⟩⟩
    · have e2 : imCvE m s t = 0 := e1.trans (ine_ff c3)
      have eV2 : imCv m s t = imSol m.w m.h (cvV s t m.c0) (cvV s t m.c1) (cvV s t m.c2) (cvV s t m.a) (cvV s t m.f) := by rw [icv_e.2, e2, c]; rfl
      rw [eV2, e2, cv, cv, cv, cv, cv]
      exact ⟨hG.2.1, eq_sol m.w m.h (t16 m.c0) (t16 m.c1) (t16 m.c2) (t16 m.a) (t16 m.f), rfl⟩
    · obtain ⟨f, it, F, K⟩ := icv_in hc cv
      refine ⟨⟨f, f, f, f, f, 0, fun _ _ => rfl, fun _ _ => rfl, fun _ _ => rfl, fun _ _ => rfl, fun _ _ => rfl⟩, fun _ => ⟨it, fun v ⟨x, y, e, _⟩ => (by rw [e]; rfl), trivial, fun pre v hg hl hv => ?_, fun pre hp hg => ⟨K pre hp, hc.1.symm⟩⟩⟩
      obtain ⟨x, y, rfl, hx, hy⟩ := hv
      obtain ⟨hi, g, e1⟩ := F x y hx hy
      have hx' : nthI [x, y] 0 = x := rfl
      have hy' : nthI [x, y] 1 = y := rfl
      rw [hx', hy']
      exact ⟨hi, g, g, g, g, g, trivial, fun t _ => bd_K (g := cvG t16 m 0) e1 rfl t, fun t _ => bd_K (g := cvG t16 m 1) e1 rfl t, fun t _ => bd_K (g := cvG t16 m 2) e1 rfl t, fun t _ => bd_K (g := cvG t16 m 3) e1 rfl t, fun t _ => bd_K (g := cvG t16 m 4) e1 rfl t⟩
  · refine QR.does_of_evalJ (O := o_icvI) (QR.orc_cons a_smax2 (QR.orc_cons a_iv (QR.orc_cons a_cnvI (QR.orc_cons a_cv1 (QR.orc_cons a_isolI QR.orc_nil))))) mixed (C := o_cfg_cv 79 s_cvcI cvI m s t) (ok_ccv a_cvcI cvI m s t) itP_ok Try.func32 (by kernel_rfl) (by kernel_rfl) (by simp) ?_
    rw [icvI_vc]
    delta zz0 zz1 zz7 zz9 zz12 zz20 zz26 zz35 zz77 zz86 zz93 zz107 zz120 zz141
    simp only [eqS_t, eqQ_t, okAns, eqXs, eqX, eqo, eqLo, eqL, eqc, veq, eqUs, bcond_iff, bnot, nilC, intRow_one, hG, true_and, and_true, and_self, implies_true, true_implies, reduceCtorEq, false_implies, Bool.not_true, Bool.not_false, forall_eq, or_false, false_or, and_false, false_and, exists_false, exists_eq_right, exists_eq_right']
    have cv : ∀ x, cvV s t x = cvI x := fun x => by unfold cvV; rw [if_neg (by omega), if_neg (by omega)]; rfl
    refine ⟨fun c => no1 1 (by decide) (by rw [icv_e.1]; simp at c; rw [c]; rfl), fun c1 => ⟨fun c => no1 1 (by decide) (by rw [icv_e.1]; simp at c; rw [c]; simp), fun c2 => ?_⟩⟩
    have e1 : imCvE m s t = imE m (smV s) := by rw [icv_e.1]; simp at c1 c2; rw [c1, c2]; rfl
    refine ⟨fun c => no1 _ (ine_tt c) e1, fun c3 => ⟨decide_eq_true q, ⟨fun c => ?_, fun c => ⟨0, e1.trans (ine_ff c3), c⟩⟩, fun _ hc => ?_⟩⟩
    · have e2 : imCvE m s t = 0 := e1.trans (ine_ff c3)
      have eV2 : imCv m s t = imSol m.w m.h (cvV s t m.c0) (cvV s t m.c1) (cvV s t m.c2) (cvV s t m.a) (cvV s t m.f) := by rw [icv_e.2, e2, c]; rfl
      rw [eV2, e2, cv, cv, cv, cv, cv]
      exact ⟨eq_sol m.w m.h (cvI m.c0) (cvI m.c1) (cvI m.c2) (cvI m.a) (cvI m.f), rfl⟩
    · obtain ⟨f, it, F, K⟩ := icv_in hc cv
      refine ⟨⟨f, f, f, f, f, 0, fun _ _ => rfl, fun _ _ => rfl, fun _ _ => rfl, fun _ _ => rfl, fun _ _ => rfl⟩, fun _ => ⟨it, fun v ⟨x, y, e, _⟩ => (by rw [e]; rfl), trivial, fun pre v hg hl hv => ?_, fun pre hp hg => ⟨K pre hp, hc.1.symm⟩⟩⟩
      obtain ⟨x, y, rfl, hx, hy⟩ := hv
      obtain ⟨hi, g, e1⟩ := F x y hx hy
      have hx' : nthI [x, y] 0 = x := rfl
      have hy' : nthI [x, y] 1 = y := rfl
      rw [hx', hy']
      exact ⟨hi, g, g, g, g, g, trivial, fun t _ => bd_K (g := cvG cvI m 0) e1 rfl t, fun t _ => bd_K (g := cvG cvI m 1) e1 rfl t, fun t _ => bd_K (g := cvG cvI m 2) e1 rfl t, fun t _ => bd_K (g := cvG cvI m 3) e1 rfl t, fun t _ => bd_K (g := cvG cvI m 4) e1 rfl t⟩
  · refine QR.does_of_evalJ (O := o_icvN) (QR.orc_cons a_smax2 (QR.orc_cons a_iv (QR.orc_cons a_cnvN (QR.orc_cons a_narrow2 (QR.orc_cons a_isolI QR.orc_nil))))) mixed (C := o_cfg_cv 78 s_cvcN t8 m s t) (ok_ccv a_cvcN t8 m s t) itP_ok Try.func32 (by kernel_rfl) (by kernel_rfl) (by simp) ?_
    rw [icvN_vc]
    delta zz0 zz1 zz7 zz9 zz12 zz20 zz26 zz35 zz77 zz86 zz93 zz107 zz120 zz150
    simp only [eqS_t, eqQ_t, okAns, eqXs, eqX, eqo, eqLo, eqL, eqc, veq, eqUs, bcond_iff, bnot, nilC, intRow_one, hG, true_and, and_true, and_self, implies_true, true_implies, reduceCtorEq, false_implies, Bool.not_true, Bool.not_false, forall_eq, or_false, false_or, and_false, false_and, exists_false, exists_eq_right, exists_eq_right']
    have cv : ∀ x, cvV s t x = t8 x := fun x => by unfold cvV; rw [if_neg (by omega), if_pos q]
    refine ⟨fun c => no1 1 (by decide) (by rw [icv_e.1]; simp at c; rw [c]; rfl), fun c1 => ⟨fun c => no1 1 (by decide) (by rw [icv_e.1]; simp at c; rw [c]; simp), fun c2 => ?_⟩⟩
    have e1 : imCvE m s t = imE m (smV s) := by rw [icv_e.1]; simp at c1 c2; rw [c1, c2]; rfl
    refine ⟨fun c => no1 _ (ine_tt c) e1, fun c3 => ⟨decide_eq_true q, ⟨fun c => ?_, fun c => ⟨0, e1.trans (ine_ff c3), c⟩⟩, fun _ hc => ?_⟩⟩
    · have e2 : imCvE m s t = 0 := e1.trans (ine_ff c3)
      have eV2 : imCv m s t = imSol m.w m.h (cvV s t m.c0) (cvV s t m.c1) (cvV s t m.c2) (cvV s t m.a) (cvV s t m.f) := by rw [icv_e.2, e2, c]; rfl
      rw [eV2, e2, cv, cv, cv, cv, cv]
      exact ⟨hG.2.1, eq_sol m.w m.h (t8 m.c0) (t8 m.c1) (t8 m.c2) (t8 m.a) (t8 m.f), rfl⟩
    · obtain ⟨f, it, F, K⟩ := icv_in hc cv
      refine ⟨⟨f, f, f, f, f, 0, fun _ _ => rfl, fun _ _ => rfl, fun _ _ => rfl, fun _ _ => rfl, fun _ _ => rfl⟩, fun _ => ⟨it, fun v ⟨x, y, e, _⟩ => (by rw [e]; rfl), trivial, fun pre v hg hl hv => ?_, fun pre hp hg => ⟨K pre hp, hc.1.symm⟩⟩⟩
      obtain ⟨x, y, rfl, hx, hy⟩ := hv
      obtain ⟨hi, g, e1⟩ := F x y hx hy
      have hx' : nthI [x, y] 0 = x := rfl
      have hy' : nthI [x, y] 1 = y := rfl
      rw [hx', hy']
      exact ⟨hi, g, g, g, g, g, trivial, fun t _ => bd_K (g := cvG t8 m 0) e1 rfl t, fun t _ => bd_K (g := cvG t8 m 1) e1 rfl t, fun t _ => bd_K (g := cvG t8 m 2) e1 rfl t, fun t _ => bd_K (g := cvG t8 m 3) e1 rfl t, fun t _ => bd_K (g := cvG t8 m 4) e1 rfl t⟩
end Go.Proofs.Ytcckcifmhhaepaa
