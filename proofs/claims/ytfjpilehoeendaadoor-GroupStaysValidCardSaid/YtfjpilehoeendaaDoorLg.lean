/-
  Layer 12 (group): the laws over lists.
-/
import Derived.Test.YtfjpilehoeendaaDoorLf
namespace Go.Proofs.YtfjpilehoeendaaDoor
open Go.RowKit PR QR
set_option linter.unusedVariables false
set_option linter.unusedSimpArgs false
set_option maxRecDepth 20000

/-- an accumulation in order -/
def acOk (m : Int) (x : Ac) (k0 k1 k2 ka kf : Int) : Prop := vaB x.c0 x.c1 x.c2 x.a x.o x.f k0 k1 k2 ka kf m = true ∧ 0 ≤ x.c0 ∧ 0 ≤ x.c1 ∧ 0 ≤ x.c2 ∧ 0 ≤ x.o
theorem md_in (y : Int) : 1 ≤ iadd .i64 1 (gmod y 12) ∧ iadd .i64 1 (gmod y 12) ≤ 12 := by
  have r := gmod_range y (k := 12) (by decide)
  rw [(gmod_i64 (op := y) (k := 12) (by decide) (by decide)).1]; omega
theorem va_m {c0 c1 c2 a own f k0 k1 k2 ka kf m : Int} (h : vaB c0 c1 c2 a own f k0 k1 k2 ka kf m = true) : in16 m = true := by
  have := (va_iff.1 h).2.2; exact in16_iff.2 (by omega)
/-- a step over a pixel of the generator -/
theorem ac_step {kn : Bool} {y m n0 n1 n2 n3 n4 : Int} {x : Ac} {k0 k1 k2 ka kf : Int} (h : acOk m x k0 k1 k2 ka kf) (hk : 0 ≤ k0 ∧ 0 ≤ k1 ∧ 0 ≤ k2) :
    gsOk kn 4 (iadd .i64 1 (gmod y 12)) m (gpC n0 n3 n4 m) (gpC n1 n3 n4 m) (gpC n2 n3 n4 m) (gpA n3 n4 m) (gpF n4 m) x.c0 x.c1 x.c2 x.a x.o x.f k0 k1 k2 ka kf = true ∧
    acOk m (acNext kn (iadd .i64 1 (gmod y 12)) m (gpC n0 n3 n4 m) (gpC n1 n3 n4 m) (gpC n2 n3 n4 m) (gpA n3 n4 m) (gpF n4 m) x k0 k1 k2 ka kf) k0 k1 k2 ka kf := by
  obtain ⟨hv, h0, h1, h2, h3⟩ := h
  have gm := va_m hv
  have pv := pv_iff.1 (gp_valid n0 n1 n2 n3 n4 gm)
  have ok : gsOk kn 4 (iadd .i64 1 (gmod y 12)) m (gpC n0 n3 n4 m) (gpC n1 n3 n4 m) (gpC n2 n3 n4 m) (gpA n3 n4 m) (gpF n4 m) x.c0 x.c1 x.c2 x.a x.o x.f k0 k1 k2 ka kf = true := gs_iff.2 ⟨⟨by decide, md_in y, fun _ => rfl⟩, pv, hv⟩
  have g := gs_over ok ⟨(gpC_range n0 n3 n4 gm).1, (gpC_range n1 n3 n4 gm).1, (gpC_range n2 n3 n4 gm).1⟩ ⟨h0, h1, h2, h3⟩ hk
  refine ⟨ok, ?_⟩
  unfold acOk acNext
  simp only [ok, bz_t]
  exact ⟨g.2, g.1.1, g.1.2.1, g.1.2.2.1, g.1.2.2.2⟩
theorem rn_ok {kn : Bool} {m : Int} {l : Int → Nat → Int} {q : Int} {md : Int → Nat → Int} {x : Ac} {k0 k1 k2 ka kf : Int} (h : acOk m x k0 k1 k2 ka kf) (hk : 0 ≤ k0 ∧ 0 ≤ k1 ∧ 0 ≤ k2) : ∀ i, acOk m (rnN kn m l q md x k0 k1 k2 ka kf i) k0 k1 k2 ka kf
  | 0 => h
  | i + 1 => (ac_step (rn_ok h hk i) hk).2
/-- the samples of a valid accumulation and its backdrop are of 16 bits -/
theorem va_in {c0 c1 c2 a own f k0 k1 k2 ka kf m : Int} (h : vaB c0 c1 c2 a own f k0 k1 k2 ka kf m = true) (h0 : 0 ≤ c0) (h1 : 0 ≤ c1) (h2 : 0 ≤ c2) (h3 : 0 ≤ own) (g0 : 0 ≤ k0) (g1 : 0 ≤ k1) (g2 : 0 ≤ k2) :
    in16 c0 = true ∧ in16 c1 = true ∧ in16 c2 = true ∧ in16 a = true ∧ in16 own = true ∧ in16 f = true ∧ in16 k0 = true ∧ in16 k1 = true ∧ in16 k2 = true ∧ in16 ka = true ∧ in16 kf = true := by
  obtain ⟨⟨q1, q2, q3, q4, q5, q6, q7⟩, ⟨r1, r2, r3, r4, r5⟩, hm⟩ := va_iff.1 h
  simp only [in16_iff]
  omega
theorem a_run12 : Answers2 27 s_run12 := by
  intro al ans h hq
  unfold s_run12 at h
  split at h <;> try (simp at h; done)
  rename_i kn m z n r z2 q r2 c0 c1 c2 ca co cf k0 k1 k2 ka kf
  cases hz : Nat.beq z 5 && Nat.beq z2 1
  · rw [hz] at h; simp at h
  rw [hz, cond_true] at h
  obtain ⟨hz1, hz2⟩ := Bool.and_eq_true_iff.1 hz
  obtain rfl := Nat.eq_of_beq_eq_true hz1
  obtain rfl := Nat.eq_of_beq_eq_true hz2
  simp only [Option.some.injEq] at h
  subst h
  have hq := asked hq
  obtain ⟨hr, hr2, hn, hv, h0, h1, h2, h3, g0, g1, g2, _⟩ := hq
  have hn := ile_tt hn
  have h0 := ile_tt h0
  have h1 := ile_tt h1
  have h2 := ile_tt h2
  have h3 := ile_tt h3
  have g0 := ile_tt g0
  have g1 := ile_tt g1
  have g2 := ile_tt g2
  refine does_args (al' := [.x (.c (.v (.bool kn))), .x (.c (.v (.int .u16 m))), .x (.c (.slc 5 n (ints .i64 r))), .x (.c (.slc 1 q (ints .i64 r2))), .x (.agg [.v (.int .u16 c0), .v (.int .u16 c1), .v (.int .u16 c2), .v (.int .u16 ca), .v (.int .u16 co), .v (.int .u16 cf)]), .x (.agg [.v (.int .u16 k0), .v (.int .u16 k1), .v (.int .u16 k2), .v (.int .u16 ka), .v (.int .u16 kf)])]) ⟨.v _, .v _, intRow_eq hr, intRow_eq hr2, rfl, rfl, trivial⟩ ?_
  suffices H : ∀ (l md : Int → Nat → Int) (A : List Prop), DoesX Tryd.prog 27 [.x (.c (.v (.bool kn))), .x (.c (.v (.int .u16 m))), .x (.c (.slc 5 n (.fn fun a b => .v (.int .i64 (l a b))))), .x (.c (.slc 1 q (.fn fun a b => .v (.int .i64 (md a b))))), .x (.agg [.v (.int .u16 c0), .v (.int .u16 c1), .v (.int .u16 c2), .v (.int .u16 ca), .v (.int .u16 co), .v (.int .u16 cf)]), .x (.agg [.v (.int .u16 k0), .v (.int .u16 k1), .v (.int .u16 k2), .v (.int .u16 ka), .v (.int .u16 kf)])] ⟨[.agg [.v (.int .u16 (rnV 0 kn m n l q md c0 c1 c2 ca co cf k0 k1 k2 ka kf)), .v (.int .u16 (rnV 1 kn m n l q md c0 c1 c2 ca co cf k0 k1 k2 ka kf)), .v (.int .u16 (rnV 2 kn m n l q md c0 c1 c2 ca co cf k0 k1 k2 ka kf)), .v (.int .u16 (rnV 3 kn m n l q md c0 c1 c2 ca co cf k0 k1 k2 ka kf)), .v (.int .u16 (rnV 4 kn m n l q md c0 c1 c2 ca co cf k0 k1 k2 ka kf)), .v (.int .u16 (rnV 5 kn m n l q md c0 c1 c2 ca co cf k0 k1 k2 ka kf))], .c (.v (.bool true))], [], A⟩ from H _ _ _
  intro l md A
  refine QR.does_of_eval (O := o_run12) (QR.orc_cons a_at (QR.orc_cons (up a_mod) (QR.orc_cons (up a_gpixel) (QR.orc_cons a_gstep (QR.orc_cons a_gva QR.orc_nil))))) mixed (fun n_ => bif Nat.beq n_ 2 then some (.inv (o_inv_run kn m n l q md c0 c1 c2 ca co cf k0 k1 k2 ka kf)) else none) Tryd.func27 (by kernel_rfl) (by kernel_rfl) (by simp) ?_
  rw [run12_vc]
  have gm := va_m hv
  have kk : 0 ≤ k0 ∧ 0 ≤ k1 ∧ 0 ≤ k2 := ⟨g0, g1, g2⟩
  have k12 : modOk 12 = true := rfl
  refine ⟨trivial, trivial, ⟨(0, c0, c1, c2, ca, co, cf), ⟨⟨Int.le_refl 0, by omega, hn⟩, rfl⟩, by simp⟩, fun i hi => ?_⟩
  obtain ⟨i, d0, d1, d2, da, do', df⟩ := i
  obtain ⟨⟨i0, i6, ii⟩, e⟩ := hi
  have ao := rn_ok (kn := kn) (l := l) (q := q) (md := md) (x := ⟨c0, c1, c2, ca, co, cf⟩) (k0 := k0) (k1 := k1) (k2 := k2) (ka := ka) (kf := kf) (m := m) ⟨hv, h0, h1, h2, h3⟩ kk i.toNat
  simp only at i0 i6 ii e
  rw [← e] at ao
  obtain ⟨j0, j1, j2, j3, j4, j5, j6, j7, j8, j9, j10⟩ := va_in ao.1 ao.2.1 ao.2.2.1 ao.2.2.2.1 ao.2.2.2.2 g0 g1 g2
  have ti : ((i.toNat : Nat) : Int) = i := Int.toNat_of_nonneg i0
  have fin : ¬ (i < n ∧ i < 6) → ∀ j, acGet j ⟨d0, d1, d2, da, do', df⟩ = rnV j kn m n l q md c0 c1 c2 ca co cf k0 k1 k2 ka kf := by
    intro hx j
    have : (if n ≤ 6 then n else 6) = i := by split <;> omega
    unfold rnV; rw [this, e]
  simp only [forall_eq]
  rw [bcond_iff]
  refine ⟨fun c1' => ⟨trivial, ?_⟩, fun c1' => ?_⟩
  · rw [bcond_iff]
    refine ⟨fun c2' => ?_, fun c2' => ?_⟩
    · have lt1 := of_decide_eq_true c1'
      have lt2 := of_decide_eq_true c2'
      obtain ⟨sg, sv⟩ := ac_step (kn := kn) (y := atV q (md i 0) i) (n0 := l i 0) (n1 := l i 1) (n2 := l i 2) (n3 := l i 3) (n4 := l i 4) ao kk
      have nx : rnN kn m l q md ⟨c0, c1, c2, ca, co, cf⟩ k0 k1 k2 ka kf (i + 1).toNat = acNext kn (iadd .i64 1 (gmod (atV q (md i 0) i) 12)) m (gpC (l i 0) (l i 3) (l i 4) m) (gpC (l i 1) (l i 3) (l i 4) m) (gpC (l i 2) (l i 3) (l i 4) m) (gpA (l i 3) (l i 4) m) (gpF (l i 4) m) ⟨d0, d1, d2, da, do', df⟩ k0 k1 k2 ka kf := by
        rw [show (i + 1).toNat = i.toNat + 1 by omega]
        show acNext _ _ _ _ _ _ _ _ _ _ _ _ _ _ = _
        rw [← e, ti]
      have ia : iadd .i64 i 1 = i + 1 := by unfold iadd; exact IntWalk.i64_in _ (by omega)
      unfold acOk acNext at sv
      unfold acNext at nx
      simp only [sg, bz_t] at sv nx ⊢
      have p0 := gpC_in16 (l i 0) (l i 3) (l i 4) gm
      have p1 := gpC_in16 (l i 1) (l i 3) (l i 4) gm
      have p2 := gpC_in16 (l i 2) (l i 3) (l i 4) gm
      have p3 := gpA_in16 (l i 3) (l i 4) gm
      have p4 := gpF_in16 (l i 4) gm
      have le : ile 0 i = true := decide_eq_true i0
      have mu : Nat.le (Nat.succ (rnMu (i + 1))) (rnMu i) := by show rnMu (i + 1) < rnMu i; unfold rnMu; omega
      simp only [bcond_iff, bnot, sv.1, gm, p0, p1, p2, p3, p4, j0, j1, j2, j3, j4, j5, j6, j7, j8, j9, j10, le, c1', k12, intRow_fn, true_and, and_true, Bool.not_true, Bool.false_eq_true, false_implies, true_implies, reduceCtorEq, ia]
      refine ⟨(i + 1, _, _, _, _, _, _), ⟨⟨by simp only; omega, by simp only; omega, by simp only; omega⟩, nx.symm⟩, ?_⟩
      simp only [mu, and_true, true_and, implies_true]
      exact ⟨rfl, rfl, rfl, rfl, rfl, rfl⟩
    · have f := fin (fun h => by have := of_decide_eq_false c2'; omega)
      simp only [okAns, eqXs, eqX, eqo, eqLo, eqL, eqc, veq, eqUs, true_and, and_true]
      exact ⟨f 0, f 1, f 2, f 3, f 4, f 5⟩
  · have f := fin (fun h => by have := of_decide_eq_false c1'; omega)
    simp only [okAns, eqXs, eqX, eqo, eqLo, eqL, eqc, veq, eqUs, true_and, and_true]
    exact ⟨f 0, f 1, f 2, f 3, f 4, f 5⟩

/-- the sizes of what a run gives -/
theorem rn_at {kn : Bool} {m n : Int} {l : Int → Nat → Int} {q : Int} {md : Int → Nat → Int} {c0 c1 c2 ca co cf k0 k1 k2 ka kf : Int} (h : acOk m ⟨c0, c1, c2, ca, co, cf⟩ k0 k1 k2 ka kf) (hk : 0 ≤ k0 ∧ 0 ≤ k1 ∧ 0 ≤ k2) :
    ∃ d0 d1 d2 da do' df, rnV 0 kn m n l q md c0 c1 c2 ca co cf k0 k1 k2 ka kf = d0 ∧ rnV 1 kn m n l q md c0 c1 c2 ca co cf k0 k1 k2 ka kf = d1 ∧ rnV 2 kn m n l q md c0 c1 c2 ca co cf k0 k1 k2 ka kf = d2 ∧ rnV 3 kn m n l q md c0 c1 c2 ca co cf k0 k1 k2 ka kf = da ∧ rnV 4 kn m n l q md c0 c1 c2 ca co cf k0 k1 k2 ka kf = do' ∧ rnV 5 kn m n l q md c0 c1 c2 ca co cf k0 k1 k2 ka kf = df ∧ acOk m ⟨d0, d1, d2, da, do', df⟩ k0 k1 k2 ka kf :=
  ⟨_, _, _, _, _, _, rfl, rfl, rfl, rfl, rfl, rfl, rn_ok h hk _⟩

set_option linter.unusedVariables false in
theorem GroupStaysValid_core (iso out kn : Bool) (ln : Nat) (l : Int → Nat → Int) (q : Nat) (md : Int → Nat → Int) (n0 n1 n2 n3 n4 b0 b1 b2 b3 b4 own m : Int) (z0 : ln ≤ maxLen) (w0 : ∀ i j : Nat, i < ln → j < 5 → (Lit.int .i64 (l i j)).wf = true) (z1 : q ≤ maxLen) (w1 : ∀ i j : Nat, i < q → j < 1 → (Lit.int .i64 (md i j)).wf = true) (w2 : (Lit.int .i64 n0).wf = true) (w3 : (Lit.int .i64 n1).wf = true) (w4 : (Lit.int .i64 n2).wf = true) (w5 : (Lit.int .i64 n3).wf = true) (w6 : (Lit.int .i64 n4).wf = true) (w7 : (Lit.int .i64 b0).wf = true) (w8 : (Lit.int .i64 b1).wf = true) (w9 : (Lit.int .i64 b2).wf = true) (w10 : (Lit.int .i64 b3).wf = true) (w11 : (Lit.int .i64 b4).wf = true) (w12 : (Lit.int .i64 own).wf = true) (w13 : (Lit.int .i64 m).wf = true) (w : World) {F : Nat → Prop} (hG : QR.Laid F w) (hF : ∀ k, F k → k < w.heap.size) (x0 : Value) (r0 : QR.Rep F w (.slc 5 ((ln : Nat) : Int) (.fn fun i j => .v (.int .i64 (l i j)))) x0) (x1 : Value) (r1 : QR.Rep F w (.slc 1 ((q : Nat) : Int) (.fn fun i j => .v (.int .i64 (md i j)))) x1) :
    Calls Tryd.prog 8 #[.bool iso, .bool out, .bool kn, x0, x1, .agg #[.int .i64 n0, .int .i64 n1, .int .i64 n2, .int .i64 n3, .int .i64 n4], .agg #[.int .i64 b0, .int .i64 b1, .int .i64 b2, .int .i64 b3, .int .i64 b4], .int .i64 own, .int .i64 m] w fun e w' => e = .returned (.bool true) ∧ Below w.heap.size w w' := by
  refine law_of_conc (O := o_law12b) (QR.orc_cons (up a_gmax) (QR.orc_cons (up a_mod) (QR.orc_cons a_at (QR.orc_cons (up a_gpixel) (QR.orc_cons a_gaccum (QR.orc_cons a_gback (QR.orc_cons (up a_rpvalid) (QR.orc_cons a_comp (QR.orc_cons a_gbegin (QR.orc_cons a_gstep (QR.orc_cons a_gres (QR.orc_cons a_run12 (QR.orc_cons a_awake12 QR.orc_nil))))))))))))) mixed (QR.noLoops) Tryd.func8 (by kernel_rfl) (vs := [.bool iso, .bool out, .bool kn, x0, x1, .agg #[.int .i64 n0, .int .i64 n1, .int .i64 n2, .int .i64 n3, .int .i64 n4], .agg #[.int .i64 b0, .int .i64 b1, .int .i64 b2, .int .i64 b3, .int .i64 b4], .int .i64 own, .int .i64 m]) (args := [.x (.c (.v (.bool iso))), .x (.c (.v (.bool out))), .x (.c (.v (.bool kn))), .x (.c (.slc 5 ((ln : Nat) : Int) (.fn fun i j => .v (.int .i64 (l i j))))), .x (.c (.slc 1 ((q : Nat) : Int) (.fn fun i j => .v (.int .i64 (md i j))))), .x (.agg [.v (.int .i64 n0), .v (.int .i64 n1), .v (.int .i64 n2), .v (.int .i64 n3), .v (.int .i64 n4)]), .x (.agg [.v (.int .i64 b0), .v (.int .i64 b1), .v (.int .i64 b2), .v (.int .i64 b3), .v (.int .i64 b4)]), .x (.c (.v (.int .i64 own))), .x (.c (.v (.int .i64 m)))]) (by simp) ?_ w hG hF ⟨.v rfl, .v rfl, .v rfl, r0, r1, ⟨[.int .i64 n0, .int .i64 n1, .int .i64 n2, .int .i64 n3, .int .i64 n4], rfl, ⟨.v rfl, .v rfl, .v rfl, .v rfl, .v rfl, trivial⟩⟩, ⟨[.int .i64 b0, .int .i64 b1, .int .i64 b2, .int .i64 b3, .int .i64 b4], rfl, ⟨.v rfl, .v rfl, .v rfl, .v rfl, .v rfl, trivial⟩⟩, .v rfl, .v rfl, rfl⟩
  rw [GroupStaysValid_vc]
  have gm := gx16 m
  have hM := gxMax_cases m
  have i0 : in16 0 = true := rfl
  have pn := gp_all n0 n1 n2 n3 n4 m
  have pb := gp_all b0 b1 b2 b3 b4 m
  have nn : ile 0 (ln : Int) = true := decide_eq_true (Int.natCast_nonneg ln)
  simp only [okAns, eqXs, eqX, eqo, eqLo, eqc, veq, eqUs, bcond_iff, forall_eq, true_and, and_true, gm, intRow_fn, nn]
  generalize gpC n0 n3 n4 (gxMax m) = x0 at *
  generalize gpC n1 n3 n4 (gxMax m) = x1 at *
  generalize gpC n2 n3 n4 (gxMax m) = x2 at *
  generalize gpA n3 n4 (gxMax m) = xa at *
  generalize gpF n4 (gxMax m) = xg at *
  generalize gpC b0 b3 b4 (gxMax m) = y0 at *
  generalize gpC b1 b3 b4 (gxMax m) = y1 at *
  generalize gpC b2 b3 b4 (gxMax m) = y2 at *
  generalize gpA b3 b4 (gxMax m) = ya at *
  generalize gpF b4 (gxMax m) = yg at *
  generalize gxMax m = M at *
  have b0 := bg_in (iso := iso) (kn := out) pn.1.1 pn.1.2 pb.1.1 pb.1.2 (show xa ≤ M by omega) (show ya ≤ M by omega)
  have b1 := bg_in (iso := iso) (kn := out) pn.2.1.1 pn.2.1.2 pb.2.1.1 pb.2.1.2 (show xa ≤ M by omega) (show ya ≤ M by omega)
  have b2 := bg_in (iso := iso) (kn := out) pn.2.2.1.1 pn.2.2.1.2 pb.2.2.1.1 pb.2.2.1.2 (show xa ≤ M by omega) (show ya ≤ M by omega)
  generalize bgV iso out x0 y0 = z0 at *
  generalize bgV iso out x1 y1 = z1 at *
  generalize bgV iso out x2 y2 = z2 at *
  generalize bgV iso out xa ya = za at *
  have v2 : vaB z0 z1 z2 za 0 0 z0 z1 z2 za za M = true := va_iff.2 ⟨⟨b0.2.1, b1.2.1, b2.2.1, by omega, by omega, by omega, by omega⟩, ⟨b0.2.1, b1.2.1, b2.2.1, rfl, by omega⟩, hM⟩
  have kk : 0 ≤ z0 ∧ 0 ≤ z1 ∧ 0 ≤ z2 := ⟨b0.1, b1.1, b2.1⟩
  obtain ⟨d0, d1, d2, da, do', df, e0, e1, e2, e3, e4, e5, av, a0, a1, a2, a3⟩ := rn_at (kn := kn) (n := ln) (l := l) (q := q) (md := md) (m := M) ⟨v2, b0.1, b1.1, b2.1, Int.le_refl 0⟩ kk
  simp only at av a0 a1 a2 a3
  simp only [e0, e1, e2, e3, e4, e5]
  obtain ⟨j0, j1, j2, j3, j4, j5, j6, j7, j8, j9, j10⟩ := va_in av a0 a1 a2 a3 b0.1 b1.1 b2.1
  obtain ⟨⟨q1, q2, q3, q4, q5, q6, q7⟩, _⟩ := va_iff.1 av
  have om : do' ≤ 65535 := by omega
  have g0 := gr_range (c := d0) (d := z0) (own := do') (m := M) a0 a3
  have g1 := gr_range (c := d1) (d := z1) (own := do') (m := M) a1 a3
  have g2 := gr_range (c := d2) (d := z2) (own := do') (m := M) a2 a3
  have e0 : grV true d0 z0 do' M = grC d0 z0 do' M := gr_at a0 a3 om
  have e1 : grV true d1 z1 do' M = grC d1 z1 do' M := gr_at a1 a3 om
  have e2 : grV true d2 z2 do' M = grC d2 z2 do' M := gr_at a2 a3 om
  have pv : pvB (grC d0 z0 do' M) (grC d1 z1 do' M) (grC d2 z2 do' M) do' df M = true := decide_eq_true ⟨g0.2, g1.2, g2.2, q5, q7⟩
  have l0 : ile 0 z0 = true := ile_t kk.1
  have l1 : ile 0 z1 = true := ile_t kk.2.1
  have l2 : ile 0 z2 = true := ile_t kk.2.2
  have l3 : ile 0 0 = true := rfl
  simp [v2, av, l0, l1, l2, l3, bz_t, e0, e1, e2, pv, j0, j1, j2, j3, j4, j5, j6, j7, j8, j9, bnot]

set_option linter.unusedVariables false in
theorem GroupIsolatedIsPlain_core (ln : Nat) (l : Int → Nat → Int) (q : Nat) (os : Int → Nat → Int) (q2 : Nat) (md : Int → Nat → Int) (m : Int) (z0 : ln ≤ maxLen) (w0 : ∀ i j : Nat, i < ln → j < 5 → (Lit.int .i64 (l i j)).wf = true) (z1 : q ≤ maxLen) (w1 : ∀ i j : Nat, i < q → j < 1 → (Lit.int .i64 (os i j)).wf = true) (z2 : q2 ≤ maxLen) (w2 : ∀ i j : Nat, i < q2 → j < 1 → (Lit.int .i64 (md i j)).wf = true) (w3 : (Lit.int .i64 m).wf = true) (w : World) {F : Nat → Prop} (hG : QR.Laid F w) (hF : ∀ k, F k → k < w.heap.size) (x0 : Value) (r0 : QR.Rep F w (.slc 5 ((ln : Nat) : Int) (.fn fun i j => .v (.int .i64 (l i j)))) x0) (x1 : Value) (r1 : QR.Rep F w (.slc 1 ((q : Nat) : Int) (.fn fun i j => .v (.int .i64 (os i j)))) x1) (x2 : Value) (r2 : QR.Rep F w (.slc 1 ((q2 : Nat) : Int) (.fn fun i j => .v (.int .i64 (md i j)))) x2) :
    Calls Tryd.prog 9 #[x0, x1, x2, .int .i64 m] w fun e w' => e = .returned (.bool true) ∧ Below w.heap.size w w' := by
  refine law_of_conc (O := o_law12b) (QR.orc_cons (up a_gmax) (QR.orc_cons (up a_mod) (QR.orc_cons a_at (QR.orc_cons (up a_gpixel) (QR.orc_cons a_gaccum (QR.orc_cons a_gback (QR.orc_cons (up a_rpvalid) (QR.orc_cons a_comp (QR.orc_cons a_gbegin (QR.orc_cons a_gstep (QR.orc_cons a_gres (QR.orc_cons a_run12 (QR.orc_cons a_awake12 QR.orc_nil))))))))))))) mixed (fun n_ => bif Nat.beq n_ 5 then some (.inv (o_inv_ip m ln l q os q2 md)) else none) Tryd.func9 (by kernel_rfl) (vs := [x0, x1, x2, .int .i64 m]) (args := [.x (.c (.slc 5 ((ln : Nat) : Int) (.fn fun i j => .v (.int .i64 (l i j))))), .x (.c (.slc 1 ((q : Nat) : Int) (.fn fun i j => .v (.int .i64 (os i j))))), .x (.c (.slc 1 ((q2 : Nat) : Int) (.fn fun i j => .v (.int .i64 (md i j))))), .x (.c (.v (.int .i64 m)))]) (by simp) ?_ w hG hF ⟨r0, r1, r2, .v rfl, rfl⟩
  rw [GroupIsolatedIsPlain_vc]
  have gm := gx16 m
  have hM := gxMax_cases m
  have i0 : in16 0 = true := rfl
  have k12 : modOk 12 = true := rfl
  have bgz : ∀ c, bgV true false c 0 = 0 := fun _ => rfl
  simp only [forall_eq, bgz]
  have v0 : vaB 0 0 0 0 0 0 0 0 0 0 0 (gxMax m) = true := va_iff.2 ⟨⟨by decide, by decide, by decide, by decide, by decide, by omega, by omega⟩, ⟨by decide, by decide, by decide, rfl, by omega⟩, hM⟩
  refine ⟨trivial, trivial, trivial, trivial, trivial, ⟨(0, 0, 0, 0, 0, 0), ⟨⟨Int.le_refl 0, by simp only; omega, by simp only; omega⟩, v0, Int.le_refl 0, Int.le_refl 0, Int.le_refl 0⟩, by simp⟩, fun i hi => ?_⟩
  obtain ⟨i, d0, d1, d2, da, df⟩ := i
  obtain ⟨⟨ii0, i8, iln⟩, hv, h0, h1, h2⟩ := hi
  simp only at ii0 i8 iln hv h0 h1 h2
  obtain ⟨⟨q1, q2', q3, q4, q5, q6, q7⟩, ⟨r1, r2, r3, r4, r5⟩, _⟩ := va_iff.1 hv
  have a0 : 0 ≤ da := by omega
  obtain ⟨j0, j1, j2, j3, j4, j5, j6, j7, j8, j9, j10⟩ := va_in hv h0 h1 h2 a0 (Int.le_refl 0) (Int.le_refl 0) (Int.le_refl 0)
  have fin : grV true d0 0 da (gxMax m) = d0 ∧ grV true d1 0 da (gxMax m) = d1 ∧ grV true d2 0 da (gxMax m) = d2 := by
    have z : da ≤ 65535 := by omega
    have zm : 0 < gxMax m := by omega
    rw [gr_at h0 a0 z, gr_at h1 a0 z, gr_at h2 a0 z]
    exact ⟨gr_plain h0 q1 zm, gr_plain h1 q2' zm, gr_plain h2 q3 zm⟩
  obtain ⟨f0, f1, f2⟩ := fin
  simp only
  rw [bcond_iff]
  refine ⟨fun c1' => ⟨trivial, ?_⟩, fun c1' => ?_⟩
  · rw [bcond_iff]
    refine ⟨fun c2' => ?_, fun c2' => ?_⟩
    · have lt1 := of_decide_eq_true c1'
      have lt2 := of_decide_eq_true c2'
      have le : ile 0 i = true := decide_eq_true ii0
      have ia : iadd .i64 i 1 = i + 1 := by unfold iadd; exact IntWalk.i64_in _ (by omega)
      have ro := md_in (atV q (os i 0) i)
      have rk := md_in (atV q2 (md i 0) i)
      have pv := gp_valid (l i 0) (l i 1) (l i 2) (l i 3) (l i 4) gm
      have p0 := gpC_in16 (l i 0) (l i 3) (l i 4) gm
      have p1 := gpC_in16 (l i 1) (l i 3) (l i 4) gm
      have p2 := gpC_in16 (l i 2) (l i 3) (l i 4) gm
      have p3 := gpA_in16 (l i 3) (l i 4) gm
      have p4 := gpF_in16 (l i 4) gm
      have z0 := (gpC_range (l i 0) (l i 3) (l i 4) gm).1
      have z1 := (gpC_range (l i 1) (l i 3) (l i 4) gm).1
      have z2 := (gpC_range (l i 2) (l i 3) (l i 4) gm).1
      have mu : Nat.le (Nat.succ (ipMu (i + 1))) (ipMu i) := by show ipMu (i + 1) < ipMu i; unfold ipMu; omega
      simp only [forall_eq, gm, le, c1', k12, intRow_fn, p0, p1, p2, p3, p4, j0, j1, j2, j3, j5, i0, true_and, and_true]
      generalize gpC (l i 0) (l i 3) (l i 4) (gxMax m) = s0 at *
      generalize gpC (l i 1) (l i 3) (l i 4) (gxMax m) = s1 at *
      generalize gpC (l i 2) (l i 3) (l i 4) (gxMax m) = s2 at *
      generalize gpA (l i 3) (l i 4) (gxMax m) = sa at *
      generalize gpF (l i 4) (gxMax m) = sf at *
      generalize iadd .i64 1 (gmod (atV q (os i 0) i) 12) = O at *
      generalize iadd .i64 1 (gmod (atV q2 (md i 0) i) 12) = K at *
      generalize gxMax m = M at *
      have ok : gsOk false O K M s0 s1 s2 sa sf d0 d1 d2 da da df 0 0 0 0 0 = true := gs_iff.2 ⟨⟨ro, rk, fun h => by simp at h⟩, pv_iff.1 pv, hv⟩
      have okp : pcOk O K M s0 s1 s2 sa sf d0 d1 d2 da df = true := pc_iff.2 ⟨⟨ro, rk⟩, ⟨pv_iff.1 pv, ⟨q1, q2', q3, q5, q7⟩⟩, hM⟩
      obtain ⟨⟨n0, n1, n2⟩, nv⟩ := gs_plain ro ok ⟨z0, z1, z2⟩ ⟨h0, h1, h2⟩
      have gc : ∀ s c d, gsC false O K M s sa sf c da d 0 = mcV O K M s sa c da := fun _ _ _ => rfl
      have ga : gsA false O M sa sf da 0 = alV O sa da M := rfl
      have go : gsO false O M sa sf da = alV O sa da M := rfl
      have gf : gsF O M sf df = shV O sf df M := rfl
      have nn : ∀ x : Int, ine x x = false := ine_rfl
      simp only [bcond_iff, ok, okp, bz_t, bnot, gc, ga, go, gf, nn, Bool.not_true, Bool.false_eq_true, false_implies, true_implies, true_and, and_true, reduceCtorEq, ia]
      refine ⟨(i + 1, mcV O K M s0 sa d0 da, mcV O K M s1 sa d1 da, mcV O K M s2 sa d2 da, alV O sa da M, shV O sf df M), ⟨⟨by simp only; omega, by simp only; omega, by simp only; omega⟩, nv, n0, n1, n2⟩, ?_⟩
      simp only [mu, and_true, true_and, implies_true]
    · simp [bcond_iff, okAns, eqXs, eqX, eqo, eqLo, eqL, eqc, veq, eqUs, hv, f0, f1, f2, bz_t, gm, i0, j0, j1, j2, j3, j5, ieq_rfl', band]
  · simp [bcond_iff, okAns, eqXs, eqX, eqo, eqLo, eqL, eqc, veq, eqUs, hv, f0, f1, f2, bz_t, gm, i0, j0, j1, j2, j3, j5, ieq_rfl', band]
end Go.Proofs.YtfjpilehoeendaaDoor
