import Derived.Test.YtdpmigbenkndbaaMc
namespace Go.Proofs.Ytdpmigbenkndbaa
open Go.RowKit PR QR
set_option linter.unusedVariables false
set_option linter.unusedSimpArgs false
set_option maxRecDepth 20000
theorem sub_in {a b : Int} (h : -9223372036854775808 ≤ a - b ∧ a - b ≤ 9223372036854775807) : isub .i64 a b = a - b := by unfold isub; exact IntWalk.i64_in _ (by omega)
theorem add_in {a b : Int} (h : -9223372036854775808 ≤ a + b ∧ a + b ≤ 9223372036854775807) : iadd .i64 a b = a + b := by unfold iadd; exact IntWalk.i64_in _ (by omega)
def gpR (a b c d n0 n1 n2 n3 : Int) : R4 := ⟨a + gmod n0 (c - a), b + gmod n1 (d - b), a + gmod n0 (c - a) + 1 + gmod n2 (c - a - gmod n0 (c - a)), b + gmod n1 (d - b) + 1 + gmod n3 (d - b - gmod n1 (d - b))⟩
def gpV (j : Nat) (a b c d n0 n1 n2 n3 : Int) : Int := r4G j (gpR a b c d n0 n1 n2 n3)
def ptV (a c x : Int) : Int := a + gmod x (c - a)
def s_gpart : List AV → Option QR.Ans
  | [.x (.agg [.v (.int .i64 a), .v (.int .i64 b), .v (.int .i64 c), .v (.int .i64 d)]), .x (.agg [.v (.int .i64 n0), .v (.int .i64 n1), .v (.int .i64 n2), .v (.int .i64 n3)])] => some ⟨[.agg [.v (.int .i64 (gpV 0 a b c d n0 n1 n2 n3)), .v (.int .i64 (gpV 1 a b c d n0 n1 n2 n3)), .v (.int .i64 (gpV 2 a b c d n0 n1 n2 n3)), .v (.int .i64 (gpV 3 a b c d n0 n1 n2 n3))]], [], [reB a b c d = false]⟩
  | _ => none
def s_gpoint : List AV → Option QR.Ans
  | [.x (.agg [.v (.int .i64 a), .v (.int .i64 b), .v (.int .i64 c), .v (.int .i64 d)]), .x (.c (.v (.int .i64 x))), .x (.c (.v (.int .i64 y)))] => some ⟨[.c (.v (.int .i64 (ptV a c x))), .c (.v (.int .i64 (ptV b d y)))], [], [reB a b c d = false]⟩
  | _ => none
def o_gmod : QR.Oracle := QR.orc [(9, QR.lift1 s_mod)]
set_option maxRecDepth 100000 in
theorem gpart_vc (a b c d n0 n1 n2 n3 : Int) (V : List QR.XV → List (List QR.CV) → Prop) : QR.evalBody Try.prog (o_gmod) (QR.noLoops) (Try.f17.body.getD .skip) Try.f17.results.toList Try.f17.ntmps [.x (.agg [.v (.int .i64 a), .v (.int .i64 b), .v (.int .i64 c), .v (.int .i64 d)]), .x (.agg [.v (.int .i64 n0), .v (.int .i64 n1), .v (.int .i64 n2), .v (.int .i64 n3)])] V = (True ∧ True ∧ ∀ (i : Int), i = gmod n0 (isub IntKind.i64 c a) → ∀ (i_1 : Int), i_1 = gmod n1 (isub IntKind.i64 d b) → (modOk (isub IntKind.i64 d b) = true ∧ true = true ∧ true = true ∧ modOk (isub IntKind.i64 c a) = true ∧ true = true ∧ true = true ∧ True) ∧ ∀ (i_2 : Int), i_2 = gmod n2 (isub IntKind.i64 (isub IntKind.i64 c a) i) → ∀ (i_3 : Int), i_3 = gmod n3 (isub IntKind.i64 (isub IntKind.i64 d b) i_1) → (modOk (isub IntKind.i64 (isub IntKind.i64 d b) i_1) = true ∧ true = true ∧ true = true ∧ modOk (isub IntKind.i64 (isub IntKind.i64 c a) i) = true ∧ true = true ∧ true = true ∧ True) ∧ True ∧ V [XV.agg [CV.v (Value.int .i64 (iadd IntKind.i64 a i)), CV.v (Value.int .i64 (iadd IntKind.i64 b i_1)), CV.v (Value.int .i64 (iadd IntKind.i64 (iadd IntKind.i64 (iadd IntKind.i64 a i) 1) i_2)), CV.v (Value.int .i64 (iadd IntKind.i64 (iadd IntKind.i64 (iadd IntKind.i64 b i_1) 1) i_3))]] []) := by
  try delta o_gmod
  try delta s_mod
  generalize @gmod = gmod
  generalize @modOk = modOk
  kernel_rfl
set_option maxRecDepth 100000 in
theorem gpoint_vc (a b c d x y : Int) (V : List QR.XV → List (List QR.CV) → Prop) : QR.evalBody Try.prog (o_gmod) (QR.noLoops) (Try.f18.body.getD .skip) Try.f18.results.toList Try.f18.ntmps [.x (.agg [.v (.int .i64 a), .v (.int .i64 b), .v (.int .i64 c), .v (.int .i64 d)]), .x (.c (.v (.int .i64 x))), .x (.c (.v (.int .i64 y)))] V = (True ∧ ∀ (i : Int), i = gmod x (isub IntKind.i64 c a) → ∀ (i_1 : Int), i_1 = gmod y (isub IntKind.i64 d b) → (modOk (isub IntKind.i64 d b) = true ∧ modOk (isub IntKind.i64 c a) = true ∧ True) ∧ True ∧ V [XV.c (CV.v (Value.int .i64 (iadd IntKind.i64 a i))), XV.c (CV.v (Value.int .i64 (iadd IntKind.i64 b i_1)))] []) := by
  try delta o_gmod
  try delta s_mod
  generalize @gmod = gmod
  generalize @modOk = modOk
  kernel_rfl
theorem gm_in {x k : Int} (h : 1 ≤ k) : 0 ≤ gmod x k ∧ gmod x k < k := by unfold gmod; exact ⟨Int.emod_nonneg _ (by omega), Int.emod_lt_of_pos _ (by omega)⟩
theorem mod_ok {k : Int} (h : 1 ≤ k) (h2 : k ≤ 4294967296) : modOk k = true := by unfold modOk; rw [decide_eq_true_eq]; omega
theorem gp_f {a b c d : Int} (e : reB a b c d = false) (n0 n1 n2 n3 : Int) : reB (gpV 0 a b c d n0 n1 n2 n3) (gpV 1 a b c d n0 n1 n2 n3) (gpV 2 a b c d n0 n1 n2 n3) (gpV 3 a b c d n0 n1 n2 n3) = false ∧ (a ≤ gpV 0 a b c d n0 n1 n2 n3 ∧ gpV 2 a b c d n0 n1 n2 n3 ≤ c) ∧ b ≤ gpV 1 a b c d n0 n1 n2 n3 ∧ gpV 3 a b c d n0 n1 n2 n3 ≤ d := by
  obtain ⟨⟨f0, f1, f2, f3⟩, g0, g1⟩ := re_f.1 e
  unfold F30 at f0 f1 f2 f3
  have m0 := gm_in (x := n0) (show 1 ≤ c - a by omega)
  have m1 := gm_in (x := n1) (show 1 ≤ d - b by omega)
  have m2 := gm_in (x := n2) (show 1 ≤ c - a - gmod n0 (c - a) by omega)
  have m3 := gm_in (x := n3) (show 1 ≤ d - b - gmod n1 (d - b) by omega)
  show reB (a + gmod n0 (c - a)) (b + gmod n1 (d - b)) (a + gmod n0 (c - a) + 1 + gmod n2 (c - a - gmod n0 (c - a))) (b + gmod n1 (d - b) + 1 + gmod n3 (d - b - gmod n1 (d - b))) = false ∧ (a ≤ a + gmod n0 (c - a) ∧ a + gmod n0 (c - a) + 1 + gmod n2 (c - a - gmod n0 (c - a)) ≤ c) ∧ b ≤ b + gmod n1 (d - b) ∧ b + gmod n1 (d - b) + 1 + gmod n3 (d - b - gmod n1 (d - b)) ≤ d
  rw [re_f]
  unfold F30
  omega
theorem a_gpart : Answers2 17 s_gpart := by
  intro al ans h hq
  unfold s_gpart at h
  split at h <;> try (simp at h; done)
  rename_i a b c d n0 n1 n2 n3
  simp only [Option.some.injEq] at h
  subst h
  have hq := asked hq
  refine QR.does_of_eval (O := o_gmod) (QR.orc_cons (up a_mod) QR.orc_nil) mixed (QR.noLoops) Try.func17 (by kernel_rfl) (by kernel_rfl) (by simp) ?_
  rw [gpart_vc]
  obtain ⟨e, _⟩ := hq
  obtain ⟨⟨f0, f1, f2, f3⟩, g0, g1⟩ := re_f.1 e
  unfold F30 at f0 f1 f2 f3
  have m0 := gm_in (x := n0) (show 1 ≤ c - a by omega)
  have m1 := gm_in (x := n1) (show 1 ≤ d - b by omega)
  have m2 := gm_in (x := n2) (show 1 ≤ c - a - gmod n0 (c - a) by omega)
  have m3 := gm_in (x := n3) (show 1 ≤ d - b - gmod n1 (d - b) by omega)
  have s0 : isub .i64 c a = c - a := sub_in (by omega)
  have s1 : isub .i64 d b = d - b := sub_in (by omega)
  have k0 := mod_ok (show 1 ≤ c - a by omega) (by omega)
  have k1 := mod_ok (show 1 ≤ d - b by omega) (by omega)
  have k2 := mod_ok (show 1 ≤ c - a - gmod n0 (c - a) by omega) (by omega)
  have k3 := mod_ok (show 1 ≤ d - b - gmod n1 (d - b) by omega) (by omega)
  have v0 : gpV 0 a b c d n0 n1 n2 n3 = a + gmod n0 (c - a) := rfl
  have v1 : gpV 1 a b c d n0 n1 n2 n3 = b + gmod n1 (d - b) := rfl
  have v2 : gpV 2 a b c d n0 n1 n2 n3 = a + gmod n0 (c - a) + 1 + gmod n2 (c - a - gmod n0 (c - a)) := rfl
  have v3 : gpV 3 a b c d n0 n1 n2 n3 = b + gmod n1 (d - b) + 1 + gmod n3 (d - b - gmod n1 (d - b)) := rfl
  simp only [forall_eq, s0, s1]
  generalize gmod n0 (c - a) = x at *
  generalize gmod n1 (d - b) = y at *
  have s2 : isub .i64 (c - a) x = c - a - x := sub_in (by omega)
  have s3 : isub .i64 (d - b) y = d - b - y := sub_in (by omega)
  rw [s2, s3]
  generalize gmod n2 (c - a - x) = z at *
  generalize gmod n3 (d - b - y) = t at *
  have t0 : iadd .i64 a x = a + x := add_in (by omega)
  have t1 : iadd .i64 b y = b + y := add_in (by omega)
  have t2 : iadd .i64 (a + x) 1 = a + x + 1 := add_in (by omega)
  have t3 : iadd .i64 (b + y) 1 = b + y + 1 := add_in (by omega)
  have t4 : iadd .i64 (a + x + 1) z = a + x + 1 + z := add_in (by omega)
  have t5 : iadd .i64 (b + y + 1) t = b + y + 1 + t := add_in (by omega)
  simp [okAns, eqXs, eqX, eqo, eqLo, eqL, eqc, veq, eqUs, bcond_iff, k0, k1, k2, k3, t0, t1, t2, t3, t4, t5, v0, v1, v2, v3]
theorem a_gpoint : Answers2 18 s_gpoint := by
  intro al ans h hq
  unfold s_gpoint at h
  split at h <;> try (simp at h; done)
  rename_i a b c d x y
  simp only [Option.some.injEq] at h
  subst h
  have hq := asked hq
  refine QR.does_of_eval (O := o_gmod) (QR.orc_cons (up a_mod) QR.orc_nil) mixed (QR.noLoops) Try.func18 (by kernel_rfl) (by kernel_rfl) (by simp) ?_
  rw [gpoint_vc]
  obtain ⟨e, _⟩ := hq
  obtain ⟨⟨f0, f1, f2, f3⟩, g0, g1⟩ := re_f.1 e
  unfold F30 at f0 f1 f2 f3
  have m0 := gm_in (x := x) (show 1 ≤ c - a by omega)
  have m1 := gm_in (x := y) (show 1 ≤ d - b by omega)
  have s0 : isub .i64 c a = c - a := sub_in (by omega)
  have s1 : isub .i64 d b = d - b := sub_in (by omega)
  have k0 := mod_ok (show 1 ≤ c - a by omega) (by omega)
  have k1 := mod_ok (show 1 ≤ d - b by omega) (by omega)
  simp only [forall_eq, s0, s1]
  have t0 : iadd .i64 a (gmod x (c - a)) = ptV a c x := add_in (by omega)
  have t1 : iadd .i64 b (gmod y (d - b)) = ptV b d y := add_in (by omega)
  simp [okAns, eqXs, eqX, eqo, eqLo, eqL, eqc, veq, eqUs, bcond_iff, k0, k1, t0, t1]
end Go.Proofs.Ytdpmigbenkndbaa
