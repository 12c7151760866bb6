/-
  The laws of layer 14 (plane): each returns true for all arguments in their ranges.
-/
import Derived.Test.YtjieldpnnopljaaNd
namespace Go.Proofs.Ytjieldpnnopljaa
open Go.RowKit PR QR
set_option linter.unusedVariables false
set_option linter.unusedSimpArgs false
set_option maxRecDepth 20000

theorem zer_row (n : Int) : intRow .u16 1 n (.zer [.int .u16 0]) := by
  intro i j _ hj
  obtain rfl : j = 0 := by omega
  rfl
theorem row_zero (k : IntKind) (z : Nat) (r : QR.Row) : intRow k z 0 r := fun i j hi _ => by omega
theorem upd_row {k : IntKind} {n : Int} {r : QR.Row} (h : intRow k 1 n r) (i v : Int) : intRow k 1 n (.upd r i 0 (.v (.int k v))) := by
  intro a j ha hj
  obtain rfl : j = 0 := by omega
  have := h a 0 ha (by decide)
  show csel (ieq a i) (.v (.int k v)) (den r a 0) = .v (.int k (intC (csel (ieq a i) (.v (.int k v)) (den r a 0))))
  rw [this]
  simp [csel, intC]
theorem sub_row {k : IntKind} {n m : Int} {r : QR.Row} {l : Int} (h : intRow k 1 n r) (h0 : 0 ≤ l) (hm : m + l ≤ n) : intRow k 1 m (.sub r l) := by
  intro a j ha hj
  show den r (addZ a l) j = _
  have := h (addZ a l).toNat j (by unfold addZ; omega) hj
  rw [show (((addZ a l).toNat : Nat) : Int) = addZ a l by unfold addZ; omega] at this
  exact this
theorem pat_inj {s x x' y y' : Int} (h0 : 0 ≤ x) (h1 : x < s) (g0 : 0 ≤ x') (g1 : x' < s) (e : patI s x y = patI s x' y') : x = x' ∧ y = y' := by
  unfold patI at e
  have a1 : (y * s + x) / s = y := by rw [Int.add_comm, Int.add_mul_ediv_right _ _ (by omega), Int.ediv_eq_zero_of_lt h0 h1, Int.zero_add]
  have a2 : (y' * s + x') / s = y' := by rw [Int.add_comm, Int.add_mul_ediv_right _ _ (by omega), Int.ediv_eq_zero_of_lt g0 g1, Int.zero_add]
  have : y = y' := by rw [← a1, ← a2, e]
  subst this
  exact ⟨by omega, rfl⟩
theorem app_fn (N L : Int) (m : Int → Int) (t : Int → Nat → Int) : intRow .u16 1 N (.app (.fn fun i _ => .v (.int .u16 (m i))) L (.fn fun i j => .v (.int .u16 (t i j)))) := by
  intro i j hi hj
  obtain rfl : j = 0 := by omega
  rfl
theorem in64_pz {x : Int} (h : in64 x = true) (ok : Bool) : in64 (pz ok x) = true := by cases ok with | false => rfl | true => exact h
theorem pn_size (w h s : Int) : ile 0 (pz (pnB w h s) (mkN w h s 0)) = true ∧ ile (pz (pnB w h s) (mkN w h s 0)) 1099511627776 = true := by
  cases f : pnB w h s
  · exact ⟨rfl, rfl⟩
  · obtain ⟨g1, g2, g3, g4⟩ := pn_iff.1 f
    have f3 := fit_iff.1 g1
    have := Int.mul_nonneg (show 0 ≤ h - 1 by omega) (show 0 ≤ s by omega)
    have e : pz true (mkN w h s 0) = (h - 1) * s + w := by show mkN w h s 0 = _; unfold mkN; omega
    rw [e]
    exact ⟨ile_t (by omega), ile_t (by omega)⟩
theorem mk_pl (w h m t : Int) : plB (mkW w) (mkH h) (mkS w m) (mkL w h m t) = true ∧ in64 (mkW w) = true ∧ in64 (mkH h) = true ∧ in64 (mkS w m) = true ∧ ile 0 (mkL w h m t) = true ∧ ile (mkL w h m t) 1099511627776 = true := by
  obtain ⟨_, ⟨w0, w1⟩, ⟨h0, h1⟩, ⟨s0, s1⟩, l0, l1, l2⟩ := mk_at w h m t
  have p := Int.mul_le_mul w1 h1 (by omega) (by decide)
  exact ⟨pl_iff.2 ⟨fit_iff.2 ⟨w0, h0, by omega⟩, s0, by omega, l2⟩, in64_iff.2 (by omega), in64_iff.2 (by omega), in64_iff.2 (by omega), ile_t (by omega), ile_t (by omega)⟩
theorem a_awake14 : Answers2 9 s_yes14 := by
  intro al ans h hq
  unfold s_yes14 at h
  split at h <;> try (simp at h; done)
  skip
  simp only [Option.some.injEq] at h
  subst h
  have hq := asked hq
  refine QR.does_of_eval (O := o_aw14) (QR.orc_cons a_pln (QR.orc_cons a_plc (QR.orc_cons a_plv QR.orc_nil))) mixed (QR.noLoops) Try.func9 (by kernel_rfl) (by kernel_rfl) (by simp) ?_
  rw [awake14_vc]
  have e1 : pnB 2 3 5 = true := by decide
  have e2 : mkN 2 3 5 0 = 12 := by decide
  have e3 : plB 2 3 5 12 = true := by decide
  have e4 : cpN 2 3 = 6 := by decide
  have e5 := zer_row 12
  have e6 : ∀ x : Int, -100 ≤ x → x ≤ 100 → in64 x = true := fun x h k => in64_iff.2 (by omega)
  have e7 : in64 2 = true := by decide
  have e8 : in64 3 = true := by decide
  have e9 : in64 5 = true := by decide
  simp [bcond_iff, okAns, eqXs, eqX, eqo, eqLo, eqc, veq, eqUs, e1, e2, e3, e4, e5, e7, e8, e9, pz_t, ieq, ile]
set_option linter.unusedVariables false in
theorem PlaneValidAgrees_core (pw ph ps : Int) (pn : Nat) (pl : Int → Nat → Int) (fw fh fm ft : Int) (fn : Nat) (fl : Int → Nat → Int) (what by' aw ah az : Int) (w0 : (Lit.int .i64 pw).wf = true) (w1 : (Lit.int .i64 ph).wf = true) (w2 : (Lit.int .i64 ps).wf = true) (z0 : pn ≤ maxLen) (w3 : ∀ i j : Nat, i < pn → j < 1 → (Lit.int .u16 (pl i j)).wf = true) (w4 : (Lit.int .i64 fw).wf = true) (w5 : (Lit.int .i64 fh).wf = true) (w6 : (Lit.int .i64 fm).wf = true) (w7 : (Lit.int .i64 ft).wf = true) (z1 : fn ≤ maxLen) (w8 : ∀ i j : Nat, i < fn → j < 1 → (Lit.int .u16 (fl i j)).wf = true) (w9 : (Lit.int .i64 what).wf = true) (w10 : (Lit.int .i64 by').wf = true) (w11 : (Lit.int .i64 aw).wf = true) (w12 : (Lit.int .i64 ah).wf = true) (w13 : (Lit.int .i64 az).wf = true) (w : World) {F : Nat → Prop} (hG : QR.Laid F w) (hF : ∀ k, F k → k < w.heap.size) (x0 : Value) (r0 : QR.Rep F w (.slc 1 ((pn : Nat) : Int) (.fn fun i j => .v (.int .u16 (pl i j)))) x0) (x1 : Value) (r1 : QR.Rep F w (.slc 1 ((fn : Nat) : Int) (.fn fun i j => .v (.int .u16 (fl i j)))) x1) :
    Calls Try.prog 3 #[.agg #[.int .i64 pw, .int .i64 ph, .int .i64 ps, x0], .agg #[.int .i64 fw, .int .i64 fh, .int .i64 fm, .int .i64 ft, x1], .int .i64 what, .int .i64 by', .int .i64 aw, .int .i64 ah, .int .i64 az] w fun e w' => e = .returned (.bool true) ∧ Below w.heap.size w w' := by
  refine law_of_conc (O := o_law14) (QR.orc_cons a_plv (QR.orc_cons a_pln (QR.orc_cons a_pla (QR.orc_cons a_plw (QR.orc_cons a_plc (QR.orc_cons a_ple (QR.orc_cons a_fplv (QR.orc_cons a_fpln (QR.orc_cons a_fpla (QR.orc_cons a_fplw (QR.orc_cons a_fplc (QR.orc_cons a_fple (QR.orc_cons a_fpls (QR.orc_cons (up a_mod) (QR.orc_cons a_mkpl (QR.orc_cons a_awake14 QR.orc_nil)))))))))))))))) mixed (QR.noLoops) Try.func3 (by kernel_rfl) (vs := [.agg #[.int .i64 pw, .int .i64 ph, .int .i64 ps, x0], .agg #[.int .i64 fw, .int .i64 fh, .int .i64 fm, .int .i64 ft, x1], .int .i64 what, .int .i64 by', .int .i64 aw, .int .i64 ah, .int .i64 az]) (args := [.x (.agg [.v (.int .i64 pw), .v (.int .i64 ph), .v (.int .i64 ps), .slc 1 ((pn : Nat) : Int) (.fn fun i j => .v (.int .u16 (pl i j)))]), .x (.agg [.v (.int .i64 fw), .v (.int .i64 fh), .v (.int .i64 fm), .v (.int .i64 ft), .slc 1 ((fn : Nat) : Int) (.fn fun i j => .v (.int .u16 (fl i j)))]), .x (.c (.v (.int .i64 what))), .x (.c (.v (.int .i64 by'))), .x (.c (.v (.int .i64 aw))), .x (.c (.v (.int .i64 ah))), .x (.c (.v (.int .i64 az)))]) (by simp) ?_ w hG hF ⟨⟨[.int .i64 pw, .int .i64 ph, .int .i64 ps, x0], rfl, ⟨.v rfl, .v rfl, .v rfl, r0, trivial⟩⟩, ⟨[.int .i64 fw, .int .i64 fh, .int .i64 fm, .int .i64 ft, x1], rfl, ⟨.v rfl, .v rfl, .v rfl, .v rfl, r1, trivial⟩⟩, .v rfl, .v rfl, .v rfl, .v rfl, .v rfl, rfl⟩
  rw [PlaneValidAgrees_vc]
  obtain ⟨v0, v1, v2, v3, v4, v5⟩ := mk_pl fw fh fm ft
  have k6 : modOk 6 = true := rfl
  have k9 : modOk 9 = true := rfl
  have k14 : modOk 14 = true := rfl
  have k2 : modOk 2 = true := rfl
  have l0 := ile_tt v4
  obtain ⟨_, _, _, _, lp, l50, _⟩ := mk_at fw fh fm ft
  have e1 : iadd .i64 (mkL fw fh fm ft) 1 = mkL fw fh fm ft + 1 := IntWalk.i64_in _ (by omega)
  have kL : modOk (mkL fw fh fm ft + 1) = true := decide_eq_true (by omega)
  have gr := gmod_range by' (k := mkL fw fh fm ft + 1) (by omega)
  have g0 : ile 0 (gmod by' (mkL fw fh fm ft + 1)) = true := ile_t gr.1
  have g1 : ile (gmod by' (mkL fw fh fm ft + 1)) (mkL fw fh fm ft) = true := ile_t (by omega)
  have gs : subZ (gmod by' (mkL fw fh fm ft + 1)) 0 = gmod by' (mkL fw fh fm ft + 1) := by unfold subZ; omega
  have g2 := sub_row (l := 0) (m := gmod by' (mkL fw fh fm ft + 1)) (intRow_fn .u16 1 (mkL fw fh fm ft) (fun i _ => mkV fn (.fn fun i j => .v (.int .u16 (fl i j))) i)) (by omega) (by omega)
  have np : ile 0 (pn : Int) = true := ile_t (Int.natCast_nonneg pn)
  have nf : ile 0 (fn : Int) = true := ile_t (Int.natCast_nonneg fn)
  have i0 := wf64 w0
  have i1 := wf64 w1
  have i2 := wf64 w2
  have i3 := wf64 w10
  have z0 : ile 0 0 = true := rfl
  simp [okAns, eqXs, eqX, eqo, eqLo, eqL, eqc, veq, eqUs, bcond_iff, bnot, beq_rfl', ieq_rfl', spB_rfl, intRow_fn, v0, v1, v2, v3, v4, v5, k6, k9, k14, k2, e1, kL, g0, g1, gs, g2, np, nf, i0, i1, i2, i3, z0, in64_sub, in64_add, in64_pz (in64_sub _ _), (pn_size _ _ _).1, (pn_size _ _ _).2, zer_row]

set_option linter.unusedVariables false in
theorem PlaneNewRejects_core (by' : Int) (w0 : (Lit.int .i64 by').wf = true) (w : World) {F : Nat → Prop} (hG : QR.Laid F w) (hF : ∀ k, F k → k < w.heap.size) :
    Calls Try.prog 4 #[.int .i64 by'] w fun e w' => e = .returned (.bool true) ∧ Below w.heap.size w w' := by
  refine law_of_eval (O := o_law14) (QR.orc_cons a_plv (QR.orc_cons a_pln (QR.orc_cons a_pla (QR.orc_cons a_plw (QR.orc_cons a_plc (QR.orc_cons a_ple (QR.orc_cons a_fplv (QR.orc_cons a_fpln (QR.orc_cons a_fpla (QR.orc_cons a_fplw (QR.orc_cons a_fplc (QR.orc_cons a_fple (QR.orc_cons a_fpls (QR.orc_cons (up a_mod) (QR.orc_cons a_mkpl (QR.orc_cons a_awake14 QR.orc_nil)))))))))))))))) mixed (QR.noLoops) Try.func4 (by kernel_rfl) (vs := [.int .i64 by']) (xs := [.c (.v (.int .i64 by'))]) (args := [.x (.c (.v (.int .i64 by')))]) rfl rfl (by simp) ?_ w hG hF
  rw [PlaneNewRejects_vc]
  have k : modOk 1000 = true := rfl
  have gr := gmod_range by' (k := 1000) (by decide)
  have z0 : ile 0 0 = true := rfl
  have z1 : ile 0 1099511627776 = true := rfl
  have i6 : ∀ x : Int, 0 ≤ x → x ≤ 16777216 → in64 x = true := fun x h k => in64_iff.2 (by omega)
  have j1 : in64 1 = true := rfl
  have j2 : in64 2 = true := rfl
  have j5 : in64 5 = true := rfl
  have j6 : in64 6 = true := rfl
  have j0 : in64 0 = true := rfl
  have j7 : in64 16777216 = true := rfl
  have j8 : in64 8192 = true := rfl
  simp only [forall_eq]
  have e1 : iadd .i64 1 (gmod by' 1000) = 1 + gmod by' 1000 := IntWalk.i64_in _ (by omega)
  have e2 : isub .i64 1 (1 + gmod by' 1000) = - gmod by' 1000 := by unfold isub; rw [IntWalk.i64_in _ (by omega)]; omega
  have e3 : isub .i64 6 (1 + gmod by' 1000) = 5 - gmod by' 1000 := by unfold isub; rw [IntWalk.i64_in _ (by omega)]; omega
  have e4 : iadd .i64 1 (1 + gmod by' 1000) = 2 + gmod by' 1000 := by unfold iadd; rw [IntWalk.i64_in _ (by omega)]; omega
  have e5 : iadd .i64 2048 (1 + gmod by' 1000) = 2049 + gmod by' 1000 := by unfold iadd; rw [IntWalk.i64_in _ (by omega)]; omega
  rw [e1, e2, e3, e4, e5]
  generalize gmod by' 1000 = g at *
  have f1 : pnB (-g) 1 5 = false := decide_eq_false (fun q => by have := fit_iff.1 q.1; omega)
  have f2 : pnB 1 (-g) 5 = false := decide_eq_false (fun q => by have := fit_iff.1 q.1; omega)
  have f3 : pnB 6 2 (5 - g) = false := decide_eq_false (fun q => by omega)
  have f4 : pnB 1 16777216 (2 + g) = false := decide_eq_false (fun q => by omega)
  have f5 : pnB 8192 (2049 + g) 8192 = false := decide_eq_false (fun q => by have := fit_iff.1 q.1; omega)
  have i1 : in64 (-g) = true := in64_iff.2 (by omega)
  have i2 : in64 (5 - g) = true := in64_iff.2 (by omega)
  have i3 : in64 (2 + g) = true := in64_iff.2 (by omega)
  have i4 : in64 (2049 + g) = true := in64_iff.2 (by omega)
  have sz : ∀ r s, spB 0 0 0 0 r 0 0 0 0 s = true := fun r s => spB_iff.2 ⟨rfl, rfl, rfl, rfl, fun i j hi _ => by omega⟩
  simp [okAns, eqXs, eqX, eqo, eqLo, eqL, eqc, veq, eqUs, bcond_iff, bnot, beq_rfl', ieq_rfl', spB_rfl, intRow_fn, f1, f2, f3, f4, f5, pz_f, sz, row_zero, k, z0, z1, j0, j1, j2, j5, j6, j7, j8, i1, i2, i3, i4]

set_option linter.unusedVariables false in
theorem PlaneReadsAndWrites_core (fw fh fm ft : Int) (fn : Nat) (fl : Int → Nat → Int) (ax ay av au aw : Int) (w0 : (Lit.int .i64 fw).wf = true) (w1 : (Lit.int .i64 fh).wf = true) (w2 : (Lit.int .i64 fm).wf = true) (w3 : (Lit.int .i64 ft).wf = true) (z0 : fn ≤ maxLen) (w4 : ∀ i j : Nat, i < fn → j < 1 → (Lit.int .u16 (fl i j)).wf = true) (w5 : (Lit.int .i64 ax).wf = true) (w6 : (Lit.int .i64 ay).wf = true) (w7 : (Lit.int .u16 av).wf = true) (w8 : (Lit.int .i64 au).wf = true) (w9 : (Lit.int .i64 aw).wf = true) (w : World) {F : Nat → Prop} (hG : QR.Laid F w) (hF : ∀ k, F k → k < w.heap.size) (x0 : Value) (r0 : QR.Rep F w (.slc 1 ((fn : Nat) : Int) (.fn fun i j => .v (.int .u16 (fl i j)))) x0) :
    Calls Try.prog 5 #[.agg #[.int .i64 fw, .int .i64 fh, .int .i64 fm, .int .i64 ft, x0], .int .i64 ax, .int .i64 ay, .int .u16 av, .int .i64 au, .int .i64 aw] w fun e w' => e = .returned (.bool true) ∧ Below w.heap.size w w' := by
  refine law_of_conc (O := o_law14) (QR.orc_cons a_plv (QR.orc_cons a_pln (QR.orc_cons a_pla (QR.orc_cons a_plw (QR.orc_cons a_plc (QR.orc_cons a_ple (QR.orc_cons a_fplv (QR.orc_cons a_fpln (QR.orc_cons a_fpla (QR.orc_cons a_fplw (QR.orc_cons a_fplc (QR.orc_cons a_fple (QR.orc_cons a_fpls (QR.orc_cons (up a_mod) (QR.orc_cons a_mkpl (QR.orc_cons a_awake14 QR.orc_nil)))))))))))))))) mixed (QR.noLoops) Try.func5 (by kernel_rfl) (vs := [.agg #[.int .i64 fw, .int .i64 fh, .int .i64 fm, .int .i64 ft, x0], .int .i64 ax, .int .i64 ay, .int .u16 av, .int .i64 au, .int .i64 aw]) (args := [.x (.agg [.v (.int .i64 fw), .v (.int .i64 fh), .v (.int .i64 fm), .v (.int .i64 ft), .slc 1 ((fn : Nat) : Int) (.fn fun i j => .v (.int .u16 (fl i j)))]), .x (.c (.v (.int .i64 ax))), .x (.c (.v (.int .i64 ay))), .x (.c (.v (.int .u16 av))), .x (.c (.v (.int .i64 au))), .x (.c (.v (.int .i64 aw)))]) (by simp) ?_ w hG hF ⟨⟨[.int .i64 fw, .int .i64 fh, .int .i64 fm, .int .i64 ft, x0], rfl, ⟨.v rfl, .v rfl, .v rfl, .v rfl, r0, trivial⟩⟩, .v rfl, .v rfl, .v rfl, .v rfl, .v rfl, rfl⟩
  rw [PlaneReadsAndWrites_vc]
  obtain ⟨v0, v1, v2, v3, v4, v5⟩ := mk_pl fw fh fm ft
  obtain ⟨_, ⟨ww0, ww1⟩, ⟨hh0, hh1⟩, ⟨ss0, ss1⟩, lp, l50, _⟩ := mk_at fw fh fm ft
  have nf : ile 0 (fn : Int) = true := ile_t (Int.natCast_nonneg fn)
  have i5 := wf64 w5
  have i6 := wf64 w6
  simp only [forall_eq]
  generalize mkW fw = W at *
  generalize mkH fh = H at *
  generalize mkS fw fm = S at *
  generalize mkL fw fh fm ft = L at *
  have e1 : iadd .i64 W 4 = W + 4 := IntWalk.i64_in _ (by omega)
  have e2 : iadd .i64 H 4 = H + 4 := IntWalk.i64_in _ (by omega)
  rw [e1, e2]
  have k1 : modOk (W + 4) = true := decide_eq_true (by omega)
  have k2 : modOk (H + 4) = true := decide_eq_true (by omega)
  have k3 : modOk W = true := decide_eq_true (by omega)
  have k4 : modOk H = true := decide_eq_true (by omega)
  have gc := gmod_range au (k := W) (by omega)
  have gd := gmod_range aw (k := H) (by omega)
  generalize gmod au W = c at *
  generalize gmod aw H = d at *
  generalize isub .i64 (gmod ax (W + 4)) 2 = a at *
  generalize isub .i64 (gmod ay (H + 4)) 2 = b at *
  generalize mkV (fn : Int) (.fn fun i j => .v (.int .u16 (fl i j))) = m at *
  have ic : inB W H S L c d = true := in_iff.2 ⟨v0, gc, gd⟩
  obtain ⟨p1, p2, p3, p4, p5, p6⟩ := at_lt ic
  obtain ⟨q1, q2, _⟩ := at_in (s := S) (x := c) (y := d) (by omega) p3 p6 p4 (by omega) p5
  rw [q1, q2]
  have c1 : ile 0 (patI S c d) = true := ile_t p1
  have c2 : ilt (patI S c d) L = true := ilt_t p2
  have pv : ∀ r, patV W H S L r c d = intC (den r (patI S c d) 0) := fun r => by unfold patV; rw [ic]; rfl
  have ur := upd_row (intRow_fn .u16 1 L (fun i _ => m i)) (patI S a b) av
  have ur0 := row_zero .u16 1 (.upd (.fn fun i _ => .v (.int .u16 (m i))) (patI S a b) 0 (.v (.int .u16 av)))
  have z0 : ile 0 0 = true := rfl
  have z1 : ile 0 1099511627776 = true := rfl
  have j0 : in64 0 = true := rfl
  cases ok : inB W H S L a b
  · have pa : ∀ r, patV W H S L r a b = 0 := fun r => by unfold patV; rw [ok]; rfl
    simp [okAns, eqXs, eqX, eqo, eqLo, eqL, eqc, veq, eqUs, bcond_iff, bnot, beq_rfl', ieq_rfl', spB_rfl, ine_f, intRow_fn, ok, pz_f, pa, v1, v2, v3, v4, v5, nf, i5, i6, k1, k2, k3, k4, c1, c2, ur0, z0, z1, j0, in64_sub]
  · have pa : ∀ r, patV W H S L r a b = intC (den r (patI S a b) 0) := fun r => by unfold patV; rw [ok]; rfl
    have f := (in_iff.1 ok).2
    have da : den (.upd (.fn fun i _ => .v (.int .u16 (m i))) (patI S a b) 0 (.v (.int .u16 av))) (patI S a b) 0 = .v (.int .u16 (isel (ieq (patI S a b) (patI S a b)) av (m (patI S a b)))) := rfl
    have dc : den (.upd (.fn fun i _ => .v (.int .u16 (m i))) (patI S a b) 0 (.v (.int .u16 av))) (patI S c d) 0 = .v (.int .u16 (isel (ieq (patI S c d) (patI S a b)) av (m (patI S c d)))) := rfl
    have d0 : den (.fn fun i _ => .v (.int .u16 (m i))) (patI S c d) 0 = .v (.int .u16 (m (patI S c d))) := rfl
    by_cases e1 : a = c
    · by_cases e2 : b = d
      · subst e1 e2
        simp [okAns, eqXs, eqX, eqo, eqLo, eqL, eqc, veq, eqUs, bcond_iff, bnot, beq_rfl', ieq_rfl', spB_rfl, ine_f, intRow_fn, ok, pz_t, pa, da, d0, intC, isel_t, v1, v2, v3, v4, v5, nf, i5, i6, k1, k2, k3, k4, c1, c2, ur, in64_sub, band]
      · subst e1
        have ne : ieq (patI S a d) (patI S a b) = false := by
          have := pat_inj (s := S) (x := a) (x' := a) (y := d) (y' := b) (by omega) (by omega) (by omega) (by omega)
          simp only [ieq, beq_eq_false_iff_ne, ne_eq]; exact fun q => e2 (this q).2.symm
        have n2 : ieq b d = false := by simp [ieq, e2]
        simp [okAns, eqXs, eqX, eqo, eqLo, eqL, eqc, veq, eqUs, bcond_iff, bnot, beq_rfl', ieq_rfl', spB_rfl, ine_f, intRow_fn, ok, pz_t, pa, pv, da, dc, d0, intC, isel_t, isel_f, ne, n2, v1, v2, v3, v4, v5, nf, i5, i6, k1, k2, k3, k4, c1, c2, ur, in64_sub, band]
    · have ne : ieq (patI S c d) (patI S a b) = false := by
        have := pat_inj (s := S) (x := c) (x' := a) (y := d) (y' := b) (by omega) (by omega) (by omega) (by omega)
        simp only [ieq, beq_eq_false_iff_ne, ne_eq]; exact fun q => e1 (this q).1.symm
      have n1 : ieq a c = false := by simp [ieq, e1]
      simp [okAns, eqXs, eqX, eqo, eqLo, eqL, eqc, veq, eqUs, bcond_iff, bnot, beq_rfl', ieq_rfl', spB_rfl, ine_f, intRow_fn, ok, pz_t, pa, pv, da, dc, d0, intC, isel_t, isel_f, ne, n1, v1, v2, v3, v4, v5, nf, i5, i6, k1, k2, k3, k4, c1, c2, ur, in64_sub, band]

set_option linter.unusedVariables false in
theorem PlaneCompacts_core (fw fh fm ft : Int) (fn : Nat) (fl : Int → Nat → Int) (pw ph ps : Int) (pn : Nat) (pl : Int → Nat → Int) (w0 : (Lit.int .i64 fw).wf = true) (w1 : (Lit.int .i64 fh).wf = true) (w2 : (Lit.int .i64 fm).wf = true) (w3 : (Lit.int .i64 ft).wf = true) (z0 : fn ≤ maxLen) (w4 : ∀ i j : Nat, i < fn → j < 1 → (Lit.int .u16 (fl i j)).wf = true) (w5 : (Lit.int .i64 pw).wf = true) (w6 : (Lit.int .i64 ph).wf = true) (w7 : (Lit.int .i64 ps).wf = true) (z1 : pn ≤ maxLen) (w8 : ∀ i j : Nat, i < pn → j < 1 → (Lit.int .u16 (pl i j)).wf = true) (w : World) {F : Nat → Prop} (hG : QR.Laid F w) (hF : ∀ k, F k → k < w.heap.size) (x0 : Value) (r0 : QR.Rep F w (.slc 1 ((fn : Nat) : Int) (.fn fun i j => .v (.int .u16 (fl i j)))) x0) (x1 : Value) (r1 : QR.Rep F w (.slc 1 ((pn : Nat) : Int) (.fn fun i j => .v (.int .u16 (pl i j)))) x1) :
    Calls Try.prog 6 #[.agg #[.int .i64 fw, .int .i64 fh, .int .i64 fm, .int .i64 ft, x0], .agg #[.int .i64 pw, .int .i64 ph, .int .i64 ps, x1]] w fun e w' => e = .returned (.bool true) ∧ Below w.heap.size w w' := by
  refine law_of_conc (O := o_law14) (QR.orc_cons a_plv (QR.orc_cons a_pln (QR.orc_cons a_pla (QR.orc_cons a_plw (QR.orc_cons a_plc (QR.orc_cons a_ple (QR.orc_cons a_fplv (QR.orc_cons a_fpln (QR.orc_cons a_fpla (QR.orc_cons a_fplw (QR.orc_cons a_fplc (QR.orc_cons a_fple (QR.orc_cons a_fpls (QR.orc_cons (up a_mod) (QR.orc_cons a_mkpl (QR.orc_cons a_awake14 QR.orc_nil)))))))))))))))) mixed (QR.noLoops) Try.func6 (by kernel_rfl) (vs := [.agg #[.int .i64 fw, .int .i64 fh, .int .i64 fm, .int .i64 ft, x0], .agg #[.int .i64 pw, .int .i64 ph, .int .i64 ps, x1]]) (args := [.x (.agg [.v (.int .i64 fw), .v (.int .i64 fh), .v (.int .i64 fm), .v (.int .i64 ft), .slc 1 ((fn : Nat) : Int) (.fn fun i j => .v (.int .u16 (fl i j)))]), .x (.agg [.v (.int .i64 pw), .v (.int .i64 ph), .v (.int .i64 ps), .slc 1 ((pn : Nat) : Int) (.fn fun i j => .v (.int .u16 (pl i j)))])]) (by simp) ?_ w hG hF ⟨⟨[.int .i64 fw, .int .i64 fh, .int .i64 fm, .int .i64 ft, x0], rfl, ⟨.v rfl, .v rfl, .v rfl, .v rfl, r0, trivial⟩⟩, ⟨[.int .i64 pw, .int .i64 ph, .int .i64 ps, x1], rfl, ⟨.v rfl, .v rfl, .v rfl, r1, trivial⟩⟩, rfl⟩
  rw [PlaneCompacts_vc]
  obtain ⟨v0, v1, v2, v3, v4, v5⟩ := mk_pl fw fh fm ft
  obtain ⟨_, ⟨ww0, ww1⟩, ⟨hh0, hh1⟩, ⟨ss0, ss1⟩, lp, l50, _⟩ := mk_at fw fh fm ft
  have nf : ile 0 (fn : Int) = true := ile_t (Int.natCast_nonneg fn)
  have np : ile 0 (pn : Int) = true := ile_t (Int.natCast_nonneg pn)
  have i9 := wf64 w5
  have i10 := wf64 w6
  have i11 := wf64 w7
  simp only [forall_eq]
  generalize mkW fw = W at *
  generalize mkH fh = H at *
  generalize mkS fw fm = S at *
  generalize mkL fw fh fm ft = L at *
  obtain ⟨g1, g2, g3, g4⟩ := pl_iff.1 v0
  have g5 := fit_iff.1 g1
  have cn : cpN W H = W * H := rfl
  have vc : plB W H W (cpN W H) = true := pl_iff.2 ⟨g1, Int.le_refl _, by omega, by rw [Int.sub_mul, Int.one_mul, cn, Int.mul_comm]; omega⟩
  have cp0 : 0 ≤ cpN W H := by rw [cn]; exact Int.mul_nonneg (by omega) (by omega)
  have cp1 : ile 0 (cpN W H) = true := ile_t cp0
  have cp2 : ile (cpN W H) 1099511627776 = true := ile_t (by omega)
  have pe : ∀ r, peB W H S L r W H W (cpN W H) (.fn fun i _ => .v (.int .u16 (cpV W S r i))) = true := fun r => pe_iff.2 ⟨v0, vc, rfl, rfl, cells_iff.2 fun x y x0 x1 y0 y1 => by
    show _ = cpV W S r (y * W + x)
    rw [cp_row r x0 x1]⟩
  have z0 : ile 0 0 = true := rfl
  have z1 : ile 0 1099511627776 = true := rfl
  have j0 : in64 0 = true := rfl
  cases k : igt (pn : Int) 200
  · have le : (pn : Int) ≤ 200 := by have := of_decide_eq_false k; omega
    cases ok : plB pw ph ps pn
    · simp [okAns, eqXs, eqX, eqo, eqLo, eqL, eqc, veq, eqUs, bcond_iff, bnot, beq_rfl', ieq_rfl', spB_rfl, intRow_fn, k, ok, pz_t, pz_f, v0, v1, v2, v3, v4, v5, nf, np, i9, i10, i11, cp1, cp2, pe, z0, z1, j0]
    · obtain ⟨h1, h2, h3, h4⟩ := pl_iff.1 ok
      have h5 := fit_iff.1 h1
      have dn : cpN pw ph = pw * ph := rfl
      have dp0 : 0 ≤ cpN pw ph := by rw [dn]; exact Int.mul_nonneg (by omega) (by omega)
      have dp1 : ile 0 (cpN pw ph) = true := ile_t dp0
      have dp2 : ile (cpN pw ph) 1099511627776 = true := ile_t (by omega)
      simp [okAns, eqXs, eqX, eqo, eqLo, eqL, eqc, veq, eqUs, bcond_iff, bnot, beq_rfl', ieq_rfl', spB_rfl, intRow_fn, k, ok, pz_t, pz_f, v0, v1, v2, v3, v4, v5, nf, np, i9, i10, i11, cp1, cp2, pe, dp1, dp2]
  · simp [okAns, eqXs, eqX, eqo, eqLo, eqL, eqc, veq, eqUs, bcond_iff, bnot, beq_rfl', ieq_rfl', spB_rfl, intRow_fn, k, pz_t, v0, v1, v2, v3, v4, v5, nf, np, i9, i10, i11]

set_option linter.unusedVariables false in
theorem PlaneEqualAgrees_core (fw fh fm ft : Int) (fn : Nat) (fl : Int → Nat → Int) (qw qh qm qt : Int) (qn : Nat) (ql : Int → Nat → Int) (ax ay av : Int) (tn : Nat) (tl : Int → Nat → Int) (tb : tn * 2 ≤ 140737488351232) (w0 : (Lit.int .i64 fw).wf = true) (w1 : (Lit.int .i64 fh).wf = true) (w2 : (Lit.int .i64 fm).wf = true) (w3 : (Lit.int .i64 ft).wf = true) (z0 : fn ≤ maxLen) (w4 : ∀ i j : Nat, i < fn → j < 1 → (Lit.int .u16 (fl i j)).wf = true) (w5 : (Lit.int .i64 qw).wf = true) (w6 : (Lit.int .i64 qh).wf = true) (w7 : (Lit.int .i64 qm).wf = true) (w8 : (Lit.int .i64 qt).wf = true) (z1 : qn ≤ maxLen) (w9 : ∀ i j : Nat, i < qn → j < 1 → (Lit.int .u16 (ql i j)).wf = true) (w10 : (Lit.int .i64 ax).wf = true) (w11 : (Lit.int .i64 ay).wf = true) (w12 : (Lit.int .u16 av).wf = true) (z2 : tn ≤ maxLen) (w13 : ∀ i j : Nat, i < tn → j < 1 → (Lit.int .u16 (tl i j)).wf = true) (w : World) {F : Nat → Prop} (hG : QR.Laid F w) (hF : ∀ k, F k → k < w.heap.size) (x0 : Value) (r0 : QR.Rep F w (.slc 1 ((fn : Nat) : Int) (.fn fun i j => .v (.int .u16 (fl i j)))) x0) (x1 : Value) (r1 : QR.Rep F w (.slc 1 ((qn : Nat) : Int) (.fn fun i j => .v (.int .u16 (ql i j)))) x1) (x2 : Value) (r2 : QR.Rep F w (.slc 1 ((tn : Nat) : Int) (.fn fun i j => .v (.int .u16 (tl i j)))) x2) :
    Calls Try.prog 7 #[.agg #[.int .i64 fw, .int .i64 fh, .int .i64 fm, .int .i64 ft, x0], .agg #[.int .i64 qw, .int .i64 qh, .int .i64 qm, .int .i64 qt, x1], .int .i64 ax, .int .i64 ay, .int .u16 av, x2] w fun e w' => e = .returned (.bool true) ∧ Below w.heap.size w w' := by
  refine law_of_conc (O := o_law14) (QR.orc_cons a_plv (QR.orc_cons a_pln (QR.orc_cons a_pla (QR.orc_cons a_plw (QR.orc_cons a_plc (QR.orc_cons a_ple (QR.orc_cons a_fplv (QR.orc_cons a_fpln (QR.orc_cons a_fpla (QR.orc_cons a_fplw (QR.orc_cons a_fplc (QR.orc_cons a_fple (QR.orc_cons a_fpls (QR.orc_cons (up a_mod) (QR.orc_cons a_mkpl (QR.orc_cons a_awake14 QR.orc_nil)))))))))))))))) mixed (QR.noLoops) Try.func7 (by kernel_rfl) (vs := [.agg #[.int .i64 fw, .int .i64 fh, .int .i64 fm, .int .i64 ft, x0], .agg #[.int .i64 qw, .int .i64 qh, .int .i64 qm, .int .i64 qt, x1], .int .i64 ax, .int .i64 ay, .int .u16 av, x2]) (args := [.x (.agg [.v (.int .i64 fw), .v (.int .i64 fh), .v (.int .i64 fm), .v (.int .i64 ft), .slc 1 ((fn : Nat) : Int) (.fn fun i j => .v (.int .u16 (fl i j)))]), .x (.agg [.v (.int .i64 qw), .v (.int .i64 qh), .v (.int .i64 qm), .v (.int .i64 qt), .slc 1 ((qn : Nat) : Int) (.fn fun i j => .v (.int .u16 (ql i j)))]), .x (.c (.v (.int .i64 ax))), .x (.c (.v (.int .i64 ay))), .x (.c (.v (.int .u16 av))), .x (.c (.slc 1 ((tn : Nat) : Int) (.fn fun i j => .v (.int .u16 (tl i j)))))]) (by simp) ?_ w hG hF ⟨⟨[.int .i64 fw, .int .i64 fh, .int .i64 fm, .int .i64 ft, x0], rfl, ⟨.v rfl, .v rfl, .v rfl, .v rfl, r0, trivial⟩⟩, ⟨[.int .i64 qw, .int .i64 qh, .int .i64 qm, .int .i64 qt, x1], rfl, ⟨.v rfl, .v rfl, .v rfl, .v rfl, r1, trivial⟩⟩, .v rfl, .v rfl, .v rfl, r2, rfl⟩
  rw [PlaneEqualAgrees_vc]
  obtain ⟨v0, v1, v2, v3, v4, v5⟩ := mk_pl fw fh fm ft
  obtain ⟨_, ⟨ww0, ww1⟩, ⟨hh0, hh1⟩, ⟨ss0, ss1⟩, lp, l50, _⟩ := mk_at fw fh fm ft
  obtain ⟨u0, u1, u2, u3, u4, u5⟩ := mk_pl qw qh qm qt
  have nf : ile 0 (fn : Int) = true := ile_t (Int.natCast_nonneg fn)
  have nq : ile 0 (qn : Int) = true := ile_t (Int.natCast_nonneg qn)
  simp only [forall_eq]
  generalize mkW fw = W at *
  generalize mkH fh = H at *
  generalize mkS fw fm = S at *
  generalize mkL fw fh fm ft = L at *
  generalize mkW qw = W' at *
  generalize mkH qh = H' at *
  generalize mkS qw qm = S' at *
  generalize mkL qw qh qm qt = L' at *
  generalize mkV (fn : Int) (.fn fun i j => .v (.int .u16 (fl i j))) = m at *
  have k3 : modOk W = true := decide_eq_true (by omega)
  have k4 : modOk H = true := decide_eq_true (by omega)
  have gc := gmod_range ax (k := W) (by omega)
  have gd := gmod_range ay (k := H) (by omega)
  generalize gmod ax W = c at *
  generalize gmod ay H = d at *
  have ic : inB W H S L c d = true := in_iff.2 ⟨v0, gc, gd⟩
  have jc : in64 c = true := in64_iff.2 (by omega)
  have jd : in64 d = true := in64_iff.2 (by omega)
  have ad : addZ L (tn : Int) = L + tn := rfl
  have a1 : ile (imulZ L 2) 140737488355328 = true := ile_t (by unfold imulZ; omega)
  have a2 : ile (imulZ (L + tn) 2) 140737488355328 = true := ile_t (by unfold imulZ; omega)
  have a3 : ile 0 (L + tn) = true := ile_t (by omega)
  have ur := upd_row (intRow_fn .u16 1 L (fun i _ => m i)) (patI S c d) av
  have ar := app_fn (L + tn) L m tl
  have sr := row_zero .u16 1 (.sub (.fn fun i _ => .v (.int .u16 (m i))) 0)
  have s0 : subZ 0 0 = 0 := rfl
  have z0 : ile 0 0 = true := rfl
  have z1 : ile 0 L = true := v4
  obtain ⟨g1, g2, g3, g4⟩ := pl_iff.1 v0
  have pl : plB W H S (L + tn) = true := pl_iff.2 ⟨g1, g2, g3, by omega⟩
  have pe : peB W H S L (.fn fun i _ => .v (.int .u16 (m i))) W H S (L + tn) (.app (.fn fun i _ => .v (.int .u16 (m i))) L (.fn fun i j => .v (.int .u16 (tl i j)))) = true := by
    refine pe_iff.2 ⟨v0, pl, rfl, rfl, cells_iff.2 fun x y x0 x1 y0 y1 => ?_⟩
    have := (at_lt (in_iff.2 ⟨v0, ⟨x0, x1⟩, y0, y1⟩)).2.1
    show m (patI S x y) = isel (ilt (patI S x y) L) (m (patI S x y)) (tl (subZ (patI S x y) L) 0)
    rw [ilt_t this, isel_t]
  have nb : ∀ r w h s n r', peB W H S 0 r w h s n r' = false := fun r w h s n r' => by
    have : plB W H S 0 = false := decide_eq_false (fun k => by
      have := Int.mul_nonneg (show 0 ≤ H - 1 by omega) (show 0 ≤ S by omega)
      omega)
    unfold peB; rw [this]; rfl
  simp [okAns, eqXs, eqX, eqo, eqLo, eqL, eqc, veq, eqUs, bcond_iff, bnot, beq_rfl', intRow_fn, ic, pz_t, v1, v2, v3, v4, v5, u1, u2, u3, u4, nf, nq, k3, k4, jc, jd, ad, a1, a2, a3, ur, ar, sr, s0, z0, z1, pe, nb]

end Go.Proofs.Ytjieldpnnopljaa
