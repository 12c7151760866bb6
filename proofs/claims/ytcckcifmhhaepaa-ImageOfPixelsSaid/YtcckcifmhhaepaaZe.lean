import Derived.Test.YtcckcifmhhaepaaZaa
import Derived.Test.YtcckcifmhhaepaaZd
import Derived.Test.YtcckcifmhhaepaaZc
namespace Go.Proofs.Ytcckcifmhhaepaa
open Go.RowKit PR QR
set_option linter.unusedVariables false
set_option linter.unusedSimpArgs false
set_option maxRecDepth 20000
theorem a_rcv5 : Answers2 63 s_conv5 := by
  intro al ans h hq
  unfold s_conv5 at h
  split at h <;> try (simp at h; done)
  rename_i c0 c1 c2 a f s t
  simp only [Option.some.injEq] at h
  subst h
  have hq := asked hq
  refine QR.does_of_eval (O := o_rcv5) (QR.orc_cons (up a_rwiden) (QR.orc_cons (up a_rnarrow) QR.orc_nil)) mixed (QR.noLoops) Try.func63 (by kernel_rfl) (by kernel_rfl) (by simp) ?_
  rw [rcv5_vc]
  delta zz83
  obtain ⟨g0, g1, g2, g3, g4, _⟩ := hq
  have e : ∀ x, cvV s t x = if s < t then t16 x else if t < s then t8 x else x := fun _ => rfl
  by_cases h1 : s < t
  · simp [okAns, eqXs, eqX, eqo, eqLo, eqL, eqc, veq, eqUs, bcond_iff, e, h1, ilt, igt, g0, g1, g2, g3, g4]
  · by_cases h2 : t < s <;> simp [okAns, eqXs, eqX, eqo, eqLo, eqL, eqc, veq, eqUs, bcond_iff, e, h1, h2, ilt, igt, g0, g1, g2, g3, g4]
theorem eq_zim : eqLo [.v (.int .i64 0), .v (.int .i64 0), .v (.bool false), .v (.int .u16 0), .v (.int .u16 0), .v (.int .u16 0), .v (.int .u16 0), .v (.int .u16 0), .v (.int .i64 0), .v (.int .i64 0), .v (.int .i64 0), .v (.slice none 0 0), .v (.int .i64 0), .v (.int .i64 0), .v (.int .i64 0), .v (.slice none 0 0), .v (.int .i64 0), .v (.int .i64 0), .v (.int .i64 0), .v (.slice none 0 0), .v (.int .i64 0), .v (.int .i64 0), .v (.int .i64 0), .v (.slice none 0 0), .v (.int .i64 0), .v (.int .i64 0), .v (.int .i64 0), .v (.slice none 0 0)] (imC imZero) := by
  have z1 : Nat.blt 0 1 = true := rfl
  simp [imC, imZero, plZero, eqLo, eqo, eqc, veq, nilC, z1]
theorem eq_sol (w h c0 c1 c2 a f : Int) : eqLo (imC (imSol w h c0 c1 c2 a f)) (imC (imSol w h c0 c1 c2 a f)) := by
  have z : ∀ r : QR.Row, EqC (.slc 1 0 r) (.slc 1 0 r) := fun r => .slc fun i j hi _ => by omega
  simp [imC, imSol, plZero, eqLo, eqo, eqc, veq, z]
theorem imof_t {w h n : Int} {q : Int → Nat → Int} (ok : imofOk w h n = true) : imofV w h n q = ⟨w, h, false, 0, 0, 0, 0, 0, plLaid w h n q 0, plLaid w h n q 1, plLaid w h n q 2, plLaid w h n q 3, plLaid w h n q 4⟩ := by unfold imofV; rw [ok]; rfl
theorem imof_f {w h n : Int} {q : Int → Nat → Int} (ok : imofOk w h n = false) : imofV w h n q = imZero := by unfold imofV; rw [ok]; rfl
theorem imof_congr {w h n : Int} {q q' : Int → Nat → Int} (H : ∀ (i k : Nat), (i : Int) < n → k < 5 → q i k = q' i k) : eqLo (imC (imofV w h n q)) (imC (imofV w h n q')) := by
  cases ok : imofOk w h n
  · rw [imof_f ok, imof_f ok]
    have z : ∀ r : QR.Row, EqC (.slc 1 0 r) (.slc 1 0 r) := fun r => .slc fun i j hi _ => by omega
    simp [imC, imZero, plZero, eqLo, eqo, eqc, veq, z]
  · rw [imof_t ok, imof_t ok]
    have K : ∀ k : Nat, k < 5 → EqC (.slc 1 n (.fn fun t _ => .v (.int .u16 (q t k)))) (.slc 1 n (.fn fun t _ => .v (.int .u16 (q' t k)))) := fun k hk => by
      refine .slc fun t j ht hj => ?_
      show EqC (.v (.int .u16 (q t k))) (.v (.int .u16 (q' t k)))
      rw [H t k ht hk]; exact .v _
    simp only [imC, plLaid, eqLo, eqo, eqc, veq, true_and, and_true, and_self]
    exact ⟨K 0 (by decide), K 1 (by decide), K 2 (by decide), K 3 (by decide), K 4 (by decide)⟩
theorem ix_in {m : Im} (ok : imOk m = true) {i : Int} (h0 : 0 ≤ i) (h1 : i < imN m) : imIn m (i % m.w) (i / m.w) = true := by
  have f4 := fit_iff.1 (ok_iff.1 ok).1
  have e : imN m = m.w * m.h := by unfold imN; rw [ok]; rfl
  rw [e] at h1
  have a := Int.emod_nonneg i (show m.w ≠ 0 by omega)
  have b := Int.emod_lt_of_pos i (show 0 < m.w by omega)
  have c := Int.ediv_nonneg h0 (show 0 ≤ m.w by omega)
  have d : i / m.w < m.h := Int.ediv_lt_of_lt_mul (by omega) (by rw [Int.mul_comm]; exact h1)
  exact imIn_iff.2 ⟨ok, ⟨a, b⟩, c, d⟩
theorem imCol16 {m : Im} (hG : imG m) (k : Nat) : in16 (imCol m k) = true := by
  obtain ⟨_, ⟨a, b, c, d, e⟩, _⟩ := hG
  match k with
  | 0 => exact a
  | 1 => exact b
  | 2 => exact c
  | 3 => exact d
  | _ + 4 => exact e
theorem imPlG {m : Im} (hG : imG m) (k : Nat) : plG (imPl m k) := by
  obtain ⟨_, _, a, b, c, d, e⟩ := hG
  match k with
  | 0 => exact a
  | 1 => exact b
  | 2 => exact c
  | 3 => exact d
  | _ + 4 => exact e
theorem px16 {m : Im} (hG : imG m) {x y : Int} (h : imIn m x y = true) {k : Nat} (hk : k < 5) : in16 (pxV m k x y) = true := by
  unfold pxV
  cases hs : m.sol
  · have := im_at h hs hk
    obtain ⟨p1, p2, _⟩ := at_lt this
    have g := (imPlG hG k).2.2.2.2 (patI (imPl m k).s x y).toNat (by omega)
    rw [Int.toNat_of_nonneg p1] at g
    exact g
  · exact imCol16 hG k
theorem pxI16 {m : Im} (hG : imG m) (ok : imOk m = true) {i : Int} (h0 : 0 ≤ i) (h1 : i < imN m) {k : Nat} (hk : k < 5) : in16 (pxI m i k) = true := px16 hG (ix_in ok h0 h1) hk
theorem ime_ok {m : Im} {t : Int} (h : imE m t = 0) : imOk m = true ∧ imAll m t = true := by
  unfold imE at h
  unfold imOk
  cases a : fitB m.w m.h <;> cases b : imF m <;> cases c : imAll m t <;> rw [a, b, c] at h <;> simp at h ⊢
theorem a_rcv : Answers2 33 s_imcv := by
  intro al ans hh hq
  unfold s_imcv at hh
  split at hh <;> try (simp at hh; done)
  rename_i l s t
  cases em : s_imOf l with
  | none => simp [em] at hh
  | some pm =>
  obtain ⟨m, Am⟩ := pm
  simp only [em] at hh
  simp only [Option.some.injEq] at hh
  subst hh
  refine does_args2 (al' := [.x (.agg (imC m)), .x (.c (.v (.int .i64 s))), .x (.c (.v (.int .i64 t)))]) ⟨imOf_eq em fun p hp => hq p (by simp [hp]), .v _, .v _, trivial⟩ ?_
  have hq := asked hq
  refine QR.does_of_eval (O := o_rcv) (QR.orc_cons (up a_rsmax) (QR.orc_cons a_rval (QR.orc_cons a_risol (QR.orc_cons a_rcv5 (QR.orc_cons a_rpxs (QR.orc_cons a_rio QR.orc_nil)))))) mixed ((fun n_ => bif Nat.beq n_ 12 then some (.inv (o_inv_rcv m s t)) else none)) Try.func33 (by kernel_rfl) (by kernel_rfl) (by simp) ?_
  rw [rcv_vc]
  delta zz0 zz1 zz7 zz12 zz35
  have hG := hq.1
  simp only [okAns, eqXs, eqX, eqo, eqLo, eqc, veq, eqUs, bcond_iff, bnot, nilC, intRow_one, ir5, hG, true_and, and_true, and_self, implies_true, true_implies, reduceCtorEq, false_implies, Bool.not_true, Bool.not_false, forall_eq, or_false, false_or, and_false, false_and, exists_false, exists_eq_right, exists_eq_right']
  have eE : imCvE m s t = bif smOk s && smOk t then imE m (smV s) else 1 := rfl
  have eV : imCv m s t = bif imCvE m s t == 0 then (bif m.sol then imSol m.w m.h (cvV s t m.c0) (cvV s t m.c1) (cvV s t m.c2) (cvV s t m.a) (cvV s t m.f) else imofV m.w m.h (imN m) fun i k => cvV s t (pxI m i k)) else imZero := rfl
  have no : ∀ e : Int, e ≠ 0 → imCvE m s t = e → imCv m s t = imZero := fun e h k => by rw [eV, k, show (e == 0) = false by simpa using h]; rfl
  have no1 : ∀ e : Int, e ≠ 0 → imCvE m s t = e → eqLo _ (imC (imCv m s t)) ∧ e = imCvE m s t := fun e h k => by rw [no e h k, k]; exact ⟨eq_zim, rfl⟩
  refine ⟨fun c => no1 1 (by decide) (by rw [eE]; simp at c; rw [c]; rfl), fun c1 => ⟨fun c => no1 1 (by decide) (by rw [eE]; simp at c; rw [c]; simp), fun c2 => ?_⟩⟩
  have e1 : imCvE m s t = imE m (smV s) := by rw [eE]; simp at c1 c2; rw [c1, c2]; rfl
  refine ⟨fun c => no1 _ (ine_tt c) e1, fun c3 => ?_⟩
  have e0 := ine_ff c3
  have e2 : imCvE m s t = 0 := e1.trans e0
  have eV2 : imCv m s t = bif m.sol then imSol m.w m.h (cvV s t m.c0) (cvV s t m.c1) (cvV s t m.c2) (cvV s t m.a) (cvV s t m.f) else imofV m.w m.h (imN m) fun i k => cvV s t (pxI m i k) := by rw [eV, e2]; rfl
  obtain ⟨ok, _⟩ := ime_ok e0
  refine ⟨fun c => ?_, fun c => ?_⟩
  · rw [eV2, c, e2]
    exact ⟨hG.2.1, eq_sol m.w m.h (cvV s t m.c0) (cvV s t m.c1) (cvV s t m.c2) (cvV s t m.a) (cvV s t m.f), rfl⟩
  · have b := imN_le m
    have V0 : ∀ (k i : Nat), pxI m (Int.ofNat i) k = rcvV m s t 0 (Int.ofNat i) k := fun k i => (if_neg (show ¬ ((i : Nat) : Int) < 0 by omega)).symm
    refine ⟨⟨0, ⟨Int.le_refl 0, b.1⟩, rfl, ⟨⟨⟨⟨fun i _ => V0 0 i, fun i _ => V0 1 i⟩, fun i _ => V0 2 i⟩, fun i _ => V0 3 i⟩, fun i _ => V0 4 i⟩⟩, fun i hi => ⟨fun d => ?_, fun d => ?_⟩⟩
    · have d' := of_decide_eq_true d
      have i0 := ile_t hi.1
      have ia : iadd .i64 i 1 = i + 1 := IntWalk.i64_in _ (by have := hi.1; omega)
      have W : ∀ k : Nat, rcvV m s t i i k = pxI m i k := fun k => if_neg (by omega)
      have g : ∀ k : Nat, k < 5 → in16 (rcvV m s t i i k) = true := fun k hk => by rw [W]; exact pxI16 hG ok hi.1 d' hk
      have K : ∀ (k q : Nat), isel (ieq (Int.ofNat q) i) (cvV s t (rcvV m s t i i k)) (rcvV m s t i (Int.ofNat q) k) = rcvV m s t (i + 1) (Int.ofNat q) k := fun k q => by
        cases e : ieq (Int.ofNat q) i
        · have e := ieq_ff e
          rw [isel_f]
          unfold rcvV
          by_cases l : Int.ofNat q < i
          · rw [if_pos l, if_pos (by omega)]
          · rw [if_neg l, if_neg (by omega)]
        · have e := ieq_t2 e
          rw [isel_t, W, e]
          unfold rcvV
          rw [if_pos (by omega)]
      refine ⟨⟨i0, d, g 0 (by decide), g 1 (by decide), g 2 (by decide), g 3 (by decide), g 4 (by decide), i0, d⟩, i + 1, ⟨by have := hi.1; omega, by omega⟩, ⟨ia, ⟨⟨⟨⟨fun q _ => K 0 q, fun q _ => K 1 q⟩, fun q _ => K 2 q⟩, fun q _ => K 3 q⟩, fun q _ => K 4 q⟩⟩, ?_⟩
      show rcvMu _ _ < rcvMu _ _
      unfold rcvMu; omega
    · have d := of_decide_eq_false d
      refine ⟨⟨hG.1.1, hG.1.2, ile_t b.1⟩, ?_, e2.symm⟩
      rw [eV2, c]
      refine imof_congr (q := fun i_5 j => rcvV m s t i i_5 j) fun p k hp hk => ?_
      show rcvV m s t i p k = _
      unfold rcvV
      rw [if_pos (by have := hi.2; omega)]
theorem divmod_eq {w x y : Int} (x0 : 0 ≤ x) (x1 : x < w) : (y * w + x) / w = y ∧ (y * w + x) % w = x := by
  rw [Int.add_comm, Int.add_mul_ediv_right _ _ (by omega), Int.ediv_eq_zero_of_lt x0 x1, Int.zero_add, Int.add_mul_emod_self_right, Int.emod_eq_of_lt x0 x1]
  exact ⟨rfl, rfl⟩
theorem cov_in {w h a b c d : Int} (hw : 1 ≤ w) (hh : 1 ≤ h) (k : reB a b c d = false) (v : rcovB 0 0 w h a b c d = true) : 0 ≤ a ∧ 0 ≤ b ∧ c ≤ w ∧ d ≤ h ∧ a < c ∧ b < d := by
  have k' := re_f.1 k
  have v := of_decide_eq_true v
  rcases v with v | v
  · rw [k] at v; simp at v
  · unfold r4I r4T r4E at v
    by_cases e1 : reB 0 0 w h = true ∨ reB a b c d = true
    · rw [if_pos e1] at v
      have := congrArg R4.a v; have := congrArg R4.c v
      simp only [r4z] at *
      omega
    · rw [if_neg e1] at v
      generalize hX : (R4.mk (if 0 ≤ a then a else 0) (if 0 ≤ b then b else 0) (if w ≤ c then w else c) (if h ≤ d then h else d)) = X at v
      by_cases e2 : reB X.a X.b X.c X.d = true
      · rw [if_pos e2] at v
        have h1 := congrArg R4.a v; have h2 := congrArg R4.c v
        simp only [r4z] at h1 h2
        omega
      · rw [if_neg e2] at v
        subst v
        simp only [R4.mk.injEq] at hX
        obtain ⟨h1, h2, h3, h4⟩ := hX
        split at h1 <;> split at h2 <;> split at h3 <;> split at h4 <;> omega
theorem re_area {a b c d : Int} (k : reB a b c d = false) : raV a b c d = (c - a) * (d - b) := by unfold raV; rw [k]; rfl
theorem rrp_at {m : Im} {a b c d i : Int} (ok : imOk m = true) (hr : 0 ≤ a ∧ 0 ≤ b ∧ c ≤ m.w ∧ d ≤ m.h ∧ a < c ∧ b < d) (i0 : 0 ≤ i) (i1 : i < (c - a) * (d - b)) :
    (ile 0 (iadd .i64 (iadd .i64 (imul .i64 (iadd .i64 b (iquo .i64 i (isub .i64 c a))) m.w) a) (irem i (isub .i64 c a))) = true ∧
     ilt (iadd .i64 (iadd .i64 (imul .i64 (iadd .i64 b (iquo .i64 i (isub .i64 c a))) m.w) a) (irem i (isub .i64 c a))) (imN m) = true ∧ ine (isub .i64 c a) 0 = true) ∧
    iadd .i64 (iadd .i64 (imul .i64 (iadd .i64 b (iquo .i64 i (isub .i64 c a))) m.w) a) (irem i (isub .i64 c a)) = (b + i / (c - a)) * m.w + (a + i % (c - a)) ∧ (0 ≤ i / (c - a) ∧ i / (c - a) < d - b) ∧ 0 ≤ i % (c - a) ∧ i % (c - a) < c - a := by
  have f := (ok_iff.1 ok).1
  have f4 := fit_iff.1 f
  have w1 := fit_le f
  have e1 : isub .i64 c a = c - a := IntWalk.i64_in _ (by omega)
  have d0 := Int.ediv_nonneg i0 (show 0 ≤ c - a by omega)
  have d1 : i / (c - a) < d - b := Int.ediv_lt_of_lt_mul (by omega) (by rw [Int.mul_comm]; exact i1)
  have m0 := Int.emod_nonneg i (show c - a ≠ 0 by omega)
  have m1 := Int.emod_lt_of_pos i (show 0 < c - a by omega)
  have e2 : iquo .i64 i (c - a) = i / (c - a) := by
    unfold iquo
    rw [Int.tdiv_eq_ediv_of_nonneg i0]
    exact IntWalk.i64_in _ (by omega)
  have e3 : irem i (c - a) = i % (c - a) := by
    unfold irem
    exact Int.tmod_eq_emod_of_nonneg i0
  have p0 := Int.mul_nonneg (show 0 ≤ b + i / (c - a) by omega) (show 0 ≤ m.w by omega)
  have p1 := Int.mul_le_mul_of_nonneg_right (show b + i / (c - a) ≤ m.h - 1 by omega) (show 0 ≤ m.w by omega)
  have p2 : (m.h - 1) * m.w = m.w * m.h - m.w := by rw [Int.sub_mul, Int.one_mul, Int.mul_comm]
  have eN : imN m = m.w * m.h := by unfold imN; rw [ok]; rfl
  have e4 : iadd .i64 b (i / (c - a)) = b + i / (c - a) := IntWalk.i64_in _ (by omega)
  have e5 : imul .i64 (b + i / (c - a)) m.w = (b + i / (c - a)) * m.w := IntWalk.i64_in _ (by omega)
  have e6 : iadd .i64 ((b + i / (c - a)) * m.w) a = (b + i / (c - a)) * m.w + a := IntWalk.i64_in _ (by omega)
  have e7 : iadd .i64 ((b + i / (c - a)) * m.w + a) (i % (c - a)) = (b + i / (c - a)) * m.w + (a + i % (c - a)) := by
    rw [← Int.add_assoc]; exact IntWalk.i64_in _ (by omega)
  rw [e1, e2, e3, e4, e5, e6, e7, eN]
  exact ⟨⟨ile_t (by omega), ilt_t (by omega), ine_t (by omega)⟩, rfl, ⟨d0, d1⟩, m0, m1⟩
theorem rrp_step {m : Im} {a b c d i : Int} {q : Int → Nat → Int} (ok : imOk m = true) (hr : 0 ≤ a ∧ 0 ≤ b ∧ c ≤ m.w ∧ d ≤ m.h ∧ a < c ∧ b < d) (i0 : 0 ≤ i) (i1 : i < (c - a) * (d - b)) (p : Int) (k : Nat) :
    isel (ieq p ((b + i / (c - a)) * m.w + (a + i % (c - a)))) (q i k) (rrpV m a b c d q i p k) = rrpV m a b c d q (i + 1) p k := by
  obtain ⟨_, _, ⟨d0, d1⟩, m0, m1⟩ := rrp_at ok hr i0 i1
  have f4 := fit_iff.1 (ok_iff.1 ok).1
  obtain ⟨u1, u2⟩ := divmod_eq (w := m.w) (x := a + i % (c - a)) (y := b + i / (c - a)) (by omega) (by omega)
  have ei : (i / (c - a)) * (c - a) + i % (c - a) = i := by rw [Int.mul_comm]; exact Int.mul_ediv_add_emod i (c - a)
  cases e : ieq p ((b + i / (c - a)) * m.w + (a + i % (c - a)))
  · have e := ieq_ff e
    rw [isel_f]
    unfold rrpV
    by_cases r : (a ≤ p % m.w ∧ p % m.w < c) ∧ b ≤ p / m.w ∧ p / m.w < d
    · have ne : (p / m.w - b) * (c - a) + (p % m.w - a) ≠ i := by
        intro k
        obtain ⟨v1, v2⟩ := divmod_eq (w := c - a) (x := p % m.w - a) (y := p / m.w - b) (by omega) (by omega)
        rw [k] at v1 v2
        apply e
        rw [v1, v2]
        have := Int.mul_ediv_add_emod p m.w
        rw [Int.mul_comm] at this
        rw [show b + (p / m.w - b) = p / m.w by omega, show a + (p % m.w - a) = p % m.w by omega]
        exact this.symm
      by_cases l : (p / m.w - b) * (c - a) + (p % m.w - a) < i
      · rw [if_pos ⟨r, l⟩, if_pos ⟨r, by omega⟩]
      · rw [if_neg (fun h => l h.2), if_neg (fun h => ne (by have := h.2; omega))]
    · rw [if_neg (fun h => r h.1), if_neg (fun h => r h.1)]
  · have e := ieq_t2 e
    rw [isel_t, e]
    unfold rrpV
    rw [u1, u2, show b + i / (c - a) - b = i / (c - a) by omega, show a + i % (c - a) - a = i % (c - a) by omega, ei, if_pos ⟨⟨by omega, by omega⟩, by omega⟩]
theorem a_rrp : Answers2 37 s_imrp := by
  intro al ans hh hq
  unfold s_imrp at hh
  split at hh <;> try (simp at hh; done)
  rename_i l a b c d e
  cases em : s_imOf l with
  | none => simp [em] at hh
  | some pm =>
  obtain ⟨m, Am⟩ := pm
  cases en : slcOf 5 e with
  | none => simp [en] at hh
  | some pn =>
  obtain ⟨n, rn⟩ := pn
  simp only [em, en] at hh
  simp only [Option.some.injEq] at hh
  subst hh
  obtain ⟨q, hdn⟩ : ∃ q : Int → Nat → Int, q = fun i j => intC (den rn i j) := ⟨_, rfl⟩
  try rw [← hdn]
  refine does_args2 (al' := [.x (.agg (imC m)), .x (.agg [.v (.int .i64 a), .v (.int .i64 b), .v (.int .i64 c), .v (.int .i64 d)]), .x (.c (.slc 5 n (.fn fun i j => .v (.int .u16 (q i j)))))]) ⟨imOf_eq em fun p hp => hq p (by simp [hp]), ⟨.v _, .v _, .v _, .v _, trivial⟩, (hdn ▸ slcOf_ints en (by decide) (hq _ (by simp))), trivial⟩ ?_
  have hq := asked hq
  refine QR.does_of_eval (O := o_rrp) (QR.orc_cons a_ffits (QR.orc_cons a_rformed (QR.orc_cons a_fempty (QR.orc_cons a_fcov (QR.orc_cons a_farea (QR.orc_cons a_rpxs (QR.orc_cons a_rio QR.orc_nil))))))) mixed ((fun n_ => bif Nat.beq n_ 9 then some (.inv (o_inv_rrp m a b c d n q)) else none)) Try.func37 (by kernel_rfl) (by kernel_rfl) (by simp) ?_
  rw [rrp_vc]
  delta zz0 zz1 zz7 zz12 zz16 zz80 zz94
  obtain ⟨hG, _, hn, _⟩ := hq
  have hn := ile_tt hn
  simp only [okAns, eqXs, eqX, eqo, eqLo, eqc, veq, eqUs, bcond_iff, bnot, nilC, intRow_one, ir5, hG, true_and, and_true, and_self, implies_true, true_implies, reduceCtorEq, false_implies, Bool.not_true, Bool.not_false, forall_eq, or_false, false_or, and_false, false_and, exists_false, exists_eq_right, exists_eq_right']
  have eE : imRpE m a b c d n = bif fitB m.w m.h then (bif imF m then (bif !(reB a b c d) && (rcovB 0 0 m.w m.h a b c d && decide (n = raV a b c d)) then 0 else 20) else 7) else 6 := rfl
  have no1 : ∀ e : Int, e ≠ 0 → imRpE m a b c d n = e → eqLo _ (imC (imRp m a b c d n q)) ∧ e = imRpE m a b c d n := fun e h k => by
    have : imRp m a b c d n q = imZero := by unfold imRp; rw [k, show (e == 0) = false by simpa using h]; rfl
    rw [this, k]; exact ⟨eq_zim, rfl⟩
  refine ⟨hG.1, fun c1 => no1 6 (by decide) (by rw [eE]; simp at c1; rw [c1]; rfl), fun c1 => ?_⟩
  have f : fitB m.w m.h = true := by simpa using c1
  refine ⟨fun c2 => no1 7 (by decide) (by rw [eE, f]; simp at c2; rw [c2]; rfl), fun c2 => ?_⟩
  have g : imF m = true := by simpa using c2
  have ok : imOk m = true := ok_iff.2 ⟨f, g⟩
  have f4 := fit_iff.1 f
  refine ⟨fun c3 => no1 20 (by decide) (by rw [eE, f, g, c3]; rfl), fun c3 => ⟨fun c4 => no1 20 (by decide) (by rw [eE, f, g, c3]; simp at c4; rw [c4]; rfl), fun c4 => ?_⟩⟩
  have cv : rcovB 0 0 m.w m.h a b c d = true := by simpa using c4
  refine ⟨fun c5 => no1 20 (by decide) (by rw [eE, f, g, c3, cv, decide_eq_false (ine_tt c5)]; rfl), fun c5 => ?_⟩
  have en := ine_ff c5
  have hr := cov_in f4.1 f4.2.1 c3 cv
  have e2 : imRpE m a b c d n = 0 := by rw [eE, f, g, c3, cv, decide_eq_true en]; rfl
  have eV : imRp m a b c d n q = imofV m.w m.h (imN m) (imRpV m a b c d q) := by unfold imRp; rw [e2]; rfl
  have b1 := imN_le m
  have ar := re_area c3
  have V0 : ∀ (k i : Nat), pxI m (Int.ofNat i) k = rrpV m a b c d q 0 (Int.ofNat i) k := fun k i => by
    unfold rrpV
    refine (if_neg fun h => ?_).symm
    have := Int.mul_nonneg (show 0 ≤ Int.ofNat i / m.w - b by omega) (show 0 ≤ c - a by omega)
    omega
  refine ⟨⟨0, ⟨Int.le_refl 0, hn⟩, rfl, ⟨⟨⟨⟨fun i _ => V0 0 i, fun i _ => V0 1 i⟩, fun i _ => V0 2 i⟩, fun i _ => V0 3 i⟩, fun i _ => V0 4 i⟩⟩, fun i hi => ⟨fun dd => ?_, fun dd => ?_⟩⟩
  · have d' := of_decide_eq_true dd
    have i0 := ile_t hi.1
    have i1 : i < (c - a) * (d - b) := by rw [← ar, ← en]; exact d'
    obtain ⟨⟨r1, r2, r3⟩, r4, _⟩ := rrp_at ok hr hi.1 i1
    have w1 := fit_le f
    have n1 : n ≤ 281474976710656 := by
      rw [en, ar]
      have := Int.mul_le_mul (show c - a ≤ 16777216 by omega) (show d - b ≤ 16777216 by omega) (by omega) (by decide)
      omega
    have ia : iadd .i64 i 1 = i + 1 := IntWalk.i64_in _ (by have := hi.1; omega)
    have K := fun (k t : Nat) => rrp_step (q := q) ok hr hi.1 i1 (Int.ofNat t) k
    rw [r4] at r1 r2
    rw [r4]
    refine ⟨⟨r1, r2, i0, dd, r3⟩, i + 1, ⟨by have := hi.1; omega, by omega⟩, ⟨ia, ⟨⟨⟨⟨fun t _ => K 0 t, fun t _ => K 1 t⟩, fun t _ => K 2 t⟩, fun t _ => K 3 t⟩, fun t _ => K 4 t⟩⟩, ?_⟩
    show rrpMu _ _ < rrpMu _ _
    unfold rrpMu; omega
  · have dd := of_decide_eq_false dd
    refine ⟨⟨hG.1.1, hG.1.2, ile_t b1.1⟩, ?_, e2.symm⟩
    rw [eV]
    refine imof_congr (q := fun i_5 j => rrpV m a b c d q i i_5 j) fun p k hp hk => ?_
    show rrpV m a b c d q i p k = imRpV m a b c d q p k
    unfold rrpV imRpV
    by_cases r : (a ≤ (p : Int) % m.w ∧ (p : Int) % m.w < c) ∧ b ≤ (p : Int) / m.w ∧ (p : Int) / m.w < d
    · have u0 := Int.mul_le_mul_of_nonneg_right (show (p : Int) / m.w - b ≤ d - b - 1 by omega) (show 0 ≤ c - a by omega)
      have u1 : (d - b - 1) * (c - a) = (c - a) * (d - b) - (c - a) := by rw [Int.sub_mul, Int.one_mul, Int.mul_comm]
      have := hi.2
      rw [if_pos r, if_pos ⟨r, by omega⟩]
    · rw [if_neg r, if_neg (fun h => r h.1)]
end Go.Proofs.Ytcckcifmhhaepaa
