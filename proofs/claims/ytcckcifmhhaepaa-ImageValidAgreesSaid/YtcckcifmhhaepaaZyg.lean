import Derived.Test.YtcckcifmhhaepaaZaa
import Derived.Test.YtcckcifmhhaepaaZyf
namespace Go.Proofs.Ytcckcifmhhaepaa
open Go.RowKit PR QR
set_option linter.unusedVariables false
set_option linter.unusedSimpArgs false
set_option maxRecDepth 20000
theorem ok_crp (m : Im) (a b c d n : Int) (q : Int → Nat → Int) : QR.CfgOK Try.prog (o_cfg_rp m a b c d n q) 500 := ⟨one_inl (ok_put 5), one_inl (p := fun c => QR.InlOK Try.prog c ∧ 500 ≤ c.T) (ok_bld 5 a_irpc _ _ _ _ _), .inr (Nat.le_refl _)⟩
theorem rp_snoc (l base : Int → Int) (w : Int) (p : List (List Int)) (v : List Int) (i : Int) : rpF l base w (snocL p v) i = if nthI v 1 * w + nthI v 0 = i then l (lnI p) else rpF l base w p i := by
  have len : ∀ (p : List (List Int)) (s : Int × Int), (p.foldl (fun (s : Int × Int) v => (s.1 + 1, if nthI v 1 * w + nthI v 0 = i then l s.1 else s.2)) s).1 = s.1 + p.length := by
    intro p
    induction p with
    | nil => intro s; simp
    | cons x p ih => intro s; rw [List.foldl_cons, ih]; simp only [List.length_cons]; omega
  unfold rpF snocL
  rw [List.foldl_append]
  show (if nthI v 1 * w + nthI v 0 = i then l (List.foldl _ (0, base i) p).1 else (List.foldl _ (0, base i) p).2) = _
  rw [len]
  unfold lnI
  rw [Int.zero_add]
theorem rp_all {a b c d w h : Int} {p : List (List Int)} (hp : plrAll a b c d p) (hx : 0 ≤ a ∧ a < c ∧ c ≤ w) (hy : 0 ≤ b ∧ b < d ∧ d ≤ h) (l base : Int → Int) {t : Int} (t0 : 0 ≤ t) :
    rpF l base w p t = if (a ≤ t % w ∧ t % w < c) ∧ b ≤ t / w ∧ t / w < d then l ((t / w - b) * (c - a) + (t % w - a)) else base t := by
  obtain ⟨hl, ha⟩ := hp
  have step : ∀ n : Nat, n ≤ p.length → rpF l base w (p.take n) t = if ((a ≤ t % w ∧ t % w < c) ∧ b ≤ t / w ∧ t / w < d) ∧ (t / w - b) * (c - a) + (t % w - a) < n then l ((t / w - b) * (c - a) + (t % w - a)) else base t := by
    intro n
    induction n with
    | zero =>
      intro _
      rw [if_neg]
      · rfl
      · rintro ⟨⟨h1, h2⟩, h3⟩
        have := Int.mul_nonneg (show 0 ≤ t / w - b by omega) (show 0 ≤ c - a by omega)
        omega
    | succ n ih =>
      intro hn
      have e := ha n _ (List.getElem?_eq_getElem (by omega))
      rw [take_snoc p n (by omega), show p.take n ++ [p[n]] = snocL (p.take n) p[n] from rfl, rp_snoc, e, ih (by omega)]
      have x1 : nthI (plrAt a b c n) 0 = a + (n : Int) % (c - a) := by unfold plrAt nthI; simp
      have x2 : nthI (plrAt a b c n) 1 = b + (n : Int) / (c - a) := by unfold plrAt nthI; simp
      rw [x1, x2]
      have el : lnI (p.take n) = n := by unfold lnI; rw [List.length_take]; omega
      rw [el]
      have m0 := Int.emod_nonneg (n : Int) (show c - a ≠ 0 by omega)
      have m1 := Int.emod_lt_of_pos (n : Int) (show 0 < c - a by omega)
      have m2 := Int.ediv_nonneg (show 0 ≤ (n : Int) by omega) (show 0 ≤ c - a by omega)
      have m3 := Int.ediv_lt_of_lt_mul (show 0 < c - a by omega) (show (n : Int) < (d - b) * (c - a) by unfold lnI at hl; omega)
      have m4 : (c - a) * ((n : Int) / (c - a)) + (n : Int) % (c - a) = n := Int.mul_ediv_add_emod _ _
      have key : ((b + (n : Int) / (c - a)) * w + (a + (n : Int) % (c - a)) = t) ↔ ((a ≤ t % w ∧ t % w < c) ∧ b ≤ t / w ∧ t / w < d) ∧ (t / w - b) * (c - a) + (t % w - a) = n := by
        constructor
        · intro q
          have u1 : t % w = a + (n : Int) % (c - a) := by rw [← q, Int.add_comm, Int.add_mul_emod_self_right, Int.emod_eq_of_lt (by omega) (by omega)]
          have u2 : t / w = b + (n : Int) / (c - a) := by rw [← q, Int.add_comm, Int.add_mul_ediv_right _ _ (by omega), Int.ediv_eq_zero_of_lt (by omega) (by omega), Int.zero_add]
          rw [u1, u2]
          refine ⟨⟨⟨by omega, by omega⟩, by omega, by omega⟩, ?_⟩
          rw [show b + (n : Int) / (c - a) - b = (n : Int) / (c - a) by omega, Int.mul_comm]
          omega
        · rintro ⟨⟨h1, h2⟩, h3⟩
          have u1 : (n : Int) % (c - a) = t % w - a := by rw [← h3, Int.add_comm, Int.add_mul_emod_self_right, Int.emod_eq_of_lt (by omega) (by omega)]
          have u2 : (n : Int) / (c - a) = t / w - b := by rw [← h3, Int.add_comm, Int.add_mul_ediv_right _ _ (by omega), Int.ediv_eq_zero_of_lt (by omega) (by omega), Int.zero_add]
          rw [u1, u2, show b + (t / w - b) = t / w by omega, show a + (t % w - a) = t % w by omega, Int.mul_comm]
          exact Int.mul_ediv_add_emod _ _
      by_cases q : (b + (n : Int) / (c - a)) * w + (a + (n : Int) % (c - a)) = t
      · obtain ⟨k1, k2⟩ := key.1 q
        rw [if_pos q, if_pos ⟨k1, by omega⟩, k2]
      · rw [if_neg q]
        by_cases r : ((a ≤ t % w ∧ t % w < c) ∧ b ≤ t / w ∧ t / w < d)
        · have ne : (t / w - b) * (c - a) + (t % w - a) ≠ n := fun h => q (key.2 ⟨r, h⟩)
          by_cases z : (t / w - b) * (c - a) + (t % w - a) < n
          · rw [if_pos ⟨r, z⟩, if_pos ⟨r, by omega⟩]
          · rw [if_neg (fun h => z h.2), if_neg (fun h => by have := h.2; omega)]
        · rw [if_neg (fun h => r h.1), if_neg (fun h => r h.1)]
  have := step p.length (Nat.le_refl _)
  rw [List.take_length] at this
  rw [this]
  by_cases r : ((a ≤ t % w ∧ t % w < c) ∧ b ≤ t / w ∧ t / w < d)
  · have n0 := Int.mul_le_mul_of_nonneg_right (show t / w - b ≤ d - b - 1 by omega) (show 0 ≤ c - a by omega)
    have n1 : (d - b - 1) * (c - a) = (d - b) * (c - a) - (c - a) := by rw [Int.sub_mul, Int.one_mul]
    rw [if_pos r, if_pos ⟨r, by unfold lnI at hl; omega⟩]
  · rw [if_neg r, if_neg (fun h => r h.1)]
theorem rp_eq' {m : Im} {a b c d n : Int} {q : Int → Nat → Int} (h : imRpE m a b c d n = 0) : imRp m a b c d n q = imofV m.w m.h (imN m) (imRpV m a b c d q) := by unfold imRp; rw [h]; rfl
theorem rp_K {l base : Int → Int} {w x y u v : Int} {pre : List (List Int)} (hu : u = y * w + x) (hv : v = l (lnI pre)) (t : Nat) : isel (ieq (Int.ofNat t) u) v (rpF l base w pre (Int.ofNat t)) = rpF l base w (snocL pre [x, y]) (Int.ofNat t) := by
  rw [rp_snoc]
  show _ = if y * w + x = _ then l (lnI pre) else _
  cases e : ieq (Int.ofNat t) u
  · have e := ieq_ff e
    rw [isel_f, if_neg (by omega)]
  · have e := ieq_t2 e
    rw [isel_t, if_pos (by omega), hv]
theorem rpF_row {a b c d w h n : Int} {p : List (List Int)} (hp : plrAll a b c d p) (hx : 0 ≤ a ∧ a < c ∧ c ≤ w) (hy : 0 ≤ b ∧ b < d ∧ d ≤ h) (en : n = w * h) {l base r : Int → Int}
    (hr : ∀ t : Int, 0 ≤ t → (if (a ≤ t % w ∧ t % w < c) ∧ b ≤ t / w ∧ t / w < d then l ((t / w - b) * (c - a) + (t % w - a)) else base t) = r t) :
    EqC (.slc 1 (bdN w h) (.fn fun i _ => .v (.int .u16 (rpF l base w p i)))) (.slc 1 n (.fn fun i _ => .v (.int .u16 (r i)))) := by
  subst en
  refine .slc fun t j ht hj => ?_
  show EqC (.v (.int .u16 (rpF l base w p t))) _
  rw [rp_all hp hx hy l base (by omega), hr _ (by omega)]; exact .v _
theorem a_irp : Answers2 36 s_imrp := by
  intro al ans hh hq
  unfold s_imrp at hh
  split at hh <;> try (simp at hh; done)
  rename_i l a b c d e
  cases em : s_imOf l with
  | none => simp [em] at hh
  | some pm =>
  obtain ⟨m, Am⟩ := pm
  cases en : slcOf 5 e with
  | none => simp [en] at hh
  | some pn =>
  obtain ⟨n, rn⟩ := pn
  simp only [em, en] at hh
  simp only [Option.some.injEq] at hh
  subst hh
  obtain ⟨q, hdn⟩ : ∃ q : Int → Nat → Int, q = fun i j => intC (den rn i j) := ⟨_, rfl⟩
  try rw [← hdn]
  refine does_args2 (al' := [.x (.agg (imC m)), .x (.agg [.v (.int .i64 a), .v (.int .i64 b), .v (.int .i64 c), .v (.int .i64 d)]), .x (.c (.slc 5 n (.fn fun i j => .v (.int .u16 (q i j)))))]) ⟨imOf_eq em fun p hp => hq p (by simp [hp]), ⟨.v _, .v _, .v _, .v _, trivial⟩, (hdn ▸ slcOf_ints en (by decide) (hq _ (by simp))), trivial⟩ ?_
  have hq := asked hq
  refine QR.does_of_evalJ (O := o_irp) (QR.orc_cons a_ifault (QR.orc_cons a_rempty (QR.orc_cons a_iwhole (QR.orc_cons a_rcov (QR.orc_cons a_rarea (QR.orc_cons a_iplc QR.orc_nil)))))) mixed (C := (o_cfg_rp m a b c d n q)) (ok_crp m a b c d n q) itP_ok Try.func36 (by kernel_rfl) (by kernel_rfl) (by simp) ?_
  rw [irpI_vc]
  delta zz0 zz1 zz7 zz9 zz12 zz16 zz20 zz26 zz44 zz82 zz93 zz94 zz107 zz108 zz120
  obtain ⟨hG, _, hn, _⟩ := hq
  have z1 : Nat.blt 0 1 = true := rfl
  simp only [eqS_t, eqQ_t, okAns, eqXs, eqX, eqo, eqLo, eqL, eqc, veq, eqUs, bcond_iff, bnot, nilC, intRow_one, row_i, hG, hn, z1, true_and, and_true, and_self, implies_true, true_implies, reduceCtorEq, false_implies, Bool.not_true, Bool.not_false, forall_eq, or_false, false_or, and_false, false_and, exists_false, exists_eq_right, exists_eq_right']
  have hn := ile_tt hn
  have eE : imRpE m a b c d n = bif fitB m.w m.h then (bif imF m then (bif !(reB a b c d) && (rcovB 0 0 m.w m.h a b c d && decide (n = raV a b c d)) then 0 else 20) else 7) else 6 := rfl
  have no1 : ∀ e : Int, e ≠ 0 → imRpE m a b c d n = e → eqLo _ (imC (imRp m a b c d n q)) ∧ e = imRpE m a b c d n := fun e h k => by
    have : imRp m a b c d n q = imZero := by unfold imRp; rw [k, show (e == 0) = false by simpa using h]; rfl
    rw [this, k]; exact ⟨eq_zim, rfl⟩
  have ok_of : ine (imFt m) 0 = false → imOk m = true := fun k => by
    rw [← Bool.not_eq_false]
    intro h
    rw [flt_no h] at k; simp at k
  have er : imOk m = true → imRpE m a b c d n = bif !(reB a b c d) && (rcovB 0 0 m.w m.h a b c d && decide (n = raV a b c d)) then 0 else 20 := fun k => by
    rw [eE, (ok_iff.1 k).1, (ok_iff.1 k).2]; rfl
  refine ⟨fun c1 => no1 _ (ine_tt c1) ?_, fun c1 => ⟨⟨fun c3 => no1 20 (by decide) (by rw [er (ok_of c1), c3]; rfl), fun c3 => ⟨fun c4 => no1 20 (by decide) (by rw [er (ok_of c1), c3]; simp at c4; rw [c4]; rfl), fun c4 => ⟨fun c5 => no1 20 (by decide) ?_, fun c5 => ⟨0, ?_⟩⟩⟩⟩, fun _ h0 => ?_⟩⟩
  · rw [flt_e] at c1 ⊢
    rw [eE]
    cases f : fitB m.w m.h
    · rfl
    · cases g : imF m
      · rfl
      · rw [f, g] at c1; exact absurd rfl (ine_tt c1)
  · have cv : rcovB 0 0 m.w m.h a b c d = true := by simpa using c4
    rw [er (ok_of c1), c3, cv, decide_eq_false (ine_tt c5)]; rfl
  · have cv : rcovB 0 0 m.w m.h a b c d = true := by simpa using c4
    show imRpE m a b c d n = 0
    rw [er (ok_of c1), c3, cv, decide_eq_true (ine_ff c5)]; rfl
  have h0 : imRpE m a b c d n = 0 := h0
  have ok : imOk m = true := by
    unfold imOk
    rw [eE] at h0
    cases f : fitB m.w m.h <;> cases g : imF m <;> rw [f, g] at h0 <;> simp at h0 ⊢
  obtain ⟨c3, cv, en⟩ : reB a b c d = false ∧ rcovB 0 0 m.w m.h a b c d = true ∧ n = raV a b c d := by
    rw [er ok] at h0
    cases x : reB a b c d <;> cases y : rcovB 0 0 m.w m.h a b c d <;> rw [x, y] at h0 <;> simp at h0 ⊢
    by_cases z : n = raV a b c d
    · exact z
    · rw [decide_eq_false z] at h0; simp at h0
  have f := (ok_iff.1 ok).1
  have f4 := fit_iff.1 f
  have w1 := fit_le f
  have hr := cov_in f4.1 f4.2.1 c3 cv
  have ar := re_area c3
  have re := re_f.1 c3
  have eN : imN m = m.w * m.h := by show (bif imOk m then _ else _) = _; rw [ok]; rfl
  have okF : imofOk m.w m.h (imN m) = true := decide_eq_true ⟨f, eN⟩
  have fe : fitB m.w m.h = true ∧ ieq m.w m.w = true := ⟨f, decide_eq_true rfl⟩
  have it := plr_it (a := 0) (b := 0) (c := m.w) (d := m.h) ⟨by omega, by omega, by omega⟩ ⟨by omega, by omega, by omega⟩
  have it2 := plr_it (a := a) (b := b) (c := c) (d := d) ⟨by omega, by omega, by omega⟩ ⟨by omega, by omega, by omega⟩
  refine ⟨⟨fe, fe, fe, fe, fe, 0, fun _ _ => rfl, fun _ _ => rfl, fun _ _ => rfl, fun _ _ => rfl, fun _ _ => rfl⟩, fun _ => ⟨it, fun v ⟨x, y, e, _⟩ => (by rw [e]; rfl), trivial, fun pre v hg hl hv => ?_, fun pre hp hg => ⟨it2, fun v ⟨x, y, e, _⟩ => (by rw [e]; rfl), trivial, ?_, fun pre v hg hl hv => ?_, fun pre hp hg => ⟨?_, h0.symm⟩⟩⟩⟩
  · obtain ⟨x, y, rfl, hx, hy⟩ := hv
    obtain ⟨e1, e2, e3⟩ := bd_ix f hx hy
    have g : ile 0 (iadd .i64 (imul .i64 y m.w) x) = true ∧ ilt (iadd .i64 (imul .i64 y m.w) x) (bdN m.w m.h) = true := ⟨by rw [e1]; exact ile_t e2, by rw [e1]; exact ilt_t e3⟩
    have hx' : nthI [x, y] 0 = x := rfl
    have hy' : nthI [x, y] 1 = y := rfl
    rw [hx', hy']
    exact ⟨imIn_iff.2 ⟨ok, hx, hy⟩, g, g, g, g, g, trivial, fun t _ => bd_K (g := cvG cvI m 0) e1 rfl t, fun t _ => bd_K (g := cvG cvI m 1) e1 rfl t, fun t _ => bd_K (g := cvG cvI m 2) e1 rfl t, fun t _ => bd_K (g := cvG cvI m 3) e1 rfl t, fun t _ => bd_K (g := cvG cvI m 4) e1 rfl t⟩
  · have L0 : ∀ (k i : Nat), q (Int.ofNat i) k = rpL q [] (Int.ofNat i) k := fun k i => by unfold rpL lnI; simp
    have B0 : ∀ (k i : Nat), ilt (Int.ofNat i) (bdN m.w m.h) = true → bdV (cvG cvI m k) m.w pre (Int.ofNat i) = rpF (rpS0 q k) (rpB m k) m.w [] (Int.ofNat i) := fun k i hi => by
      rw [bd_all hp f4.1 _ (show (0 : Int) ≤ Int.ofNat i from Int.natCast_nonneg i) (ilt_tt hi)]; rfl
    exact ⟨⟨by unfold rpM lnI; simp, ⟨⟨⟨fun i _ => L0 0 i, fun i _ => L0 1 i⟩, fun i _ => L0 2 i⟩, fun i _ => L0 3 i⟩, fun i _ => L0 4 i⟩, B0 0, B0 1, B0 2, B0 3, B0 4⟩
  · obtain ⟨x, y, rfl, hx, hy⟩ := hv
    obtain ⟨e1, e2, e3⟩ := bd_ix (w := m.w) (h := m.h) f (x := x) (y := y) (by omega) (by omega)
    have g : ile 0 (iadd .i64 (imul .i64 y m.w) x) = true ∧ ilt (iadd .i64 (imul .i64 y m.w) x) (bdN m.w m.h) = true := ⟨by rw [e1]; exact ile_t e2, by rw [e1]; exact ilt_t e3⟩
    have hx' : nthI [x, y] 0 = x := rfl
    have hy' : nthI [x, y] 1 = y := rfl
    rw [hx', hy']
    have p0 := Int.mul_nonneg (show 0 ≤ d - b by omega) (show 0 ≤ c - a by omega)
    have hl := ilt_tt hl
    have hl : lnI pre < (((d - b) * (c - a)).toNat : Int) := hl
    rw [Int.toNat_of_nonneg p0] at hl
    have nn : lnI pre < n := by rw [en, ar, Int.mul_comm]; exact hl
    have sn : lnI (snocL pre [x, y]) = lnI pre + 1 := by unfold lnI snocL; simp
    have L1 : ∀ k i : Nat, rpL q pre (addZ (Int.ofNat i) 1) k = rpL q (snocL pre [x, y]) (Int.ofNat i) k := fun k i => by
      unfold rpL addZ; rw [sn]; congr 1; omega
    have V : ∀ k : Nat, rpL q pre 0 k = rpS0 q k (lnI pre) := fun k => by unfold rpL rpS0; rw [Int.zero_add]
    have M : subZ (rpM n pre) 1 = rpM n (snocL pre [x, y]) := by unfold rpM subZ; rw [sn]; omega
    have m1 : ilt 0 (rpM n pre) = true := ilt_t (by unfold rpM; omega)
    have m2 : ile 1 (rpM n pre) = true := ile_t (by unfold rpM; omega)
    exact ⟨m1, g, g, g, g, g, ⟨m2, ile_t (Int.le_refl _)⟩, trivial, ⟨M, ⟨⟨⟨fun i _ => L1 0 i, fun i _ => L1 1 i⟩, fun i _ => L1 2 i⟩, fun i _ => L1 3 i⟩, fun i _ => L1 4 i⟩, fun t _ => rp_K e1 (V 0) t, fun t _ => rp_K e1 (V 1) t, fun t _ => rp_K e1 (V 2) t, fun t _ => rp_K e1 (V 3) t, fun t _ => rp_K e1 (V 4) t⟩
  · rw [rp_eq' h0, imof_t okF]
    simp only [imC, plLaid, eqLo, eqo, eqc, veq, true_and, and_true, and_self]
    have K : ∀ k : Nat, ∀ t : Int, 0 ≤ t → (if (a ≤ t % m.w ∧ t % m.w < c) ∧ b ≤ t / m.w ∧ t / m.w < d then rpS0 q k ((t / m.w - b) * (c - a) + (t % m.w - a)) else rpB m k t) = imRpV m a b c d q t k := fun k t _ => rfl
    exact ⟨rpF_row hp (by omega) (by omega) eN (K 0), rpF_row hp (by omega) (by omega) eN (K 1), rpF_row hp (by omega) (by omega) eN (K 2), rpF_row hp (by omega) (by omega) eN (K 3), rpF_row hp (by omega) (by omega) eN (K 4)⟩
end Go.Proofs.Ytcckcifmhhaepaa
