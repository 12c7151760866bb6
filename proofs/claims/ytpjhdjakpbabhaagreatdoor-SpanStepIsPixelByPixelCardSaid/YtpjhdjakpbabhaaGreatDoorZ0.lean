import Derived.Test.YtpjhdjakpbabhaaGreatDoorRs
namespace Go.Proofs.YtpjhdjakpbabhaaGreatDoor
open Go.RowKit PR QR
set_option linter.unusedVariables false
set_option linter.unusedSimpArgs false
def s_gmax2 : List AV → Option QR.Ans
  | [.x (.c (.v (.int .i64 n)))] => some ⟨[.c (.v (.int .u16 (gxMax n)))], [], []⟩
  | _ => none
def s_pvalid2 : List AV → Option QR.Ans
  | [.x (.agg [.v (.int .u16 c0), .v (.int .u16 c1), .v (.int .u16 c2), .v (.int .u16 a), .v (.int .u16 f)]), .x (.c (.v (.int .u16 m)))] => some ⟨[.c (.v (.bool (pvB c0 c1 c2 a f m)))], [], []⟩
  | _ => none
def s_gsample2 : List AV → Option QR.Ans
  | [.x (.c (.v (.int .i64 n))), .x (.c (.v (.int .u16 m)))] => some ⟨[.c (.v (.int .u16 (gsV n m)))], [], [in16 m = true]⟩
  | _ => none
def s_gpixel2 : List AV → Option QR.Ans
  | [.x (.agg [.v (.int .i64 n0), .v (.int .i64 n1), .v (.int .i64 n2), .v (.int .i64 n3), .v (.int .i64 n4)]), .x (.c (.v (.int .u16 m)))] => some ⟨[.agg [.v (.int .u16 (gpC n0 n3 n4 m)), .v (.int .u16 (gpC n1 n3 n4 m)), .v (.int .u16 (gpC n2 n3 n4 m)), .v (.int .u16 (gpA n3 n4 m)), .v (.int .u16 (gpF n4 m))]], [], [in16 m = true]⟩
  | _ => none
def o_gmax2 : QR.Oracle := QR.orc [(8, QR.lift1 s_mod)]
def o_gpixel2 : QR.Oracle := QR.orc [(47, s_gsample2), (8, QR.lift1 s_mod)]
set_option maxRecDepth 100000 in
theorem gmax2_vc (n : Int) (V : List QR.XV → List (List QR.CV) → Prop) : QR.evalBody Tryz.prog (o_gmax2) (QR.noLoops) (Tryz.f7.body.getD .skip) Tryz.f7.results.toList Tryz.f7.ntmps [.x (.c (.v (.int .i64 n)))] V = (True ∧ ∀ (i : Int), i = gmod n 3 → (modOk 3 = true ∧ True) ∧ bcond (ieq i 2) (True ∧ True ∧ V [XV.c (CV.v (Value.int .u16 65535))] []) (True ∧ True ∧ V [XV.c (CV.v (Value.int .u16 255))] [])) := by
  try delta o_gmax2
  try delta s_mod
  generalize @gmod = gmod
  generalize @modOk = modOk
  kernel_rfl
set_option maxRecDepth 100000 in
theorem pvalid2_vc (c0 c1 c2 a f m : Int) (V : List QR.XV → List (List QR.CV) → Prop) : QR.evalBody Tryz.prog (QR.orc []) (fun n => bif Nat.beq n 2 then some (.rounds 4) else none) (Tryz.f59.body.getD .skip) Tryz.f59.results.toList Tryz.f59.ntmps [.x (.agg [.v (.int .u16 c0), .v (.int .u16 c1), .v (.int .u16 c2), .v (.int .u16 a), .v (.int .u16 f)]), .x (.c (.v (.int .u16 m)))] V = (True ∧ True ∧ True ∧ (true = true ∧ true = true ∧ True) ∧ True ∧ bcond (igt c0 a) (True ∧ True ∧ V [XV.c (CV.v (Value.bool false))] []) (True ∧ True ∧ (true = true ∧ true = true ∧ True) ∧ True ∧ bcond (igt c1 a) (True ∧ True ∧ V [XV.c (CV.v (Value.bool false))] []) (True ∧ True ∧ (true = true ∧ true = true ∧ True) ∧ True ∧ bcond (igt c2 a) (True ∧ True ∧ V [XV.c (CV.v (Value.bool false))] []) (True ∧ True ∧ bcond (ile a f) (True ∧ True ∧ V [XV.c (CV.v (Value.bool (ile f m)))] []) (True ∧ True ∧ V [XV.c (CV.v (Value.bool false))] []))))) := by
  kernel_rfl
set_option maxRecDepth 100000 in
theorem gsample2_vc (n m : Int) (V : List QR.XV → List (List QR.CV) → Prop) : QR.evalBody Tryz.prog (o_gmax2) (QR.noLoops) (Tryz.f47.body.getD .skip) Tryz.f47.results.toList Tryz.f47.ntmps [.x (.c (.v (.int .i64 n))), .x (.c (.v (.int .u16 m)))] V = (True ∧ True ∧ ∀ (i : Int), i = gmod n 8 → (modOk 8 = true ∧ True) ∧ True ∧ bcond (ieq i 0) (True ∧ True ∧ V [XV.c (CV.v (Value.int .u16 0))] []) (True ∧ bcond (ieq i 1) (bcond (ieq i 1) (True ∧ True ∧ V [XV.c (CV.v (Value.int .u16 m))] []) (True ∧ bcond (ieq i 3) (∀ (i : Int), i = gmod (iquo IntKind.i64 n 8) 2 → (true = true ∧ modOk 2 = true ∧ true = true ∧ True) ∧ True ∧ V [XV.c (CV.v (Value.int .u16 (iconv IntKind.u16 (iquo IntKind.i64 (iadd IntKind.i64 (iconv IntKind.i64 m) i) 2))))] []) (True ∧ bcond (ieq i 4) (∀ (i : Int), i = gmod (iquo IntKind.i64 n 8) 4 → ∀ (i_1 : Int), i_1 = iimin (iconv IntKind.i64 m) i → (modOk 4 = true ∧ true = true ∧ True) ∧ True ∧ V [XV.c (CV.v (Value.int .u16 (iconv IntKind.u16 i_1)))] []) (∀ (i : Int), i = gmod (iquo IntKind.i64 n 8) (iadd IntKind.i64 (iconv IntKind.i64 m) 1) → (modOk (iadd IntKind.i64 (iconv IntKind.i64 m) 1) = true ∧ true = true ∧ True) ∧ True ∧ V [XV.c (CV.v (Value.int .u16 (iconv IntKind.u16 i)))] [])))) (True ∧ bcond (ieq i 2) (True ∧ True ∧ V [XV.c (CV.v (Value.int .u16 m))] []) (True ∧ bcond (ieq i 3) (∀ (i : Int), i = gmod (iquo IntKind.i64 n 8) 2 → (true = true ∧ modOk 2 = true ∧ true = true ∧ True) ∧ True ∧ V [XV.c (CV.v (Value.int .u16 (iconv IntKind.u16 (iquo IntKind.i64 (iadd IntKind.i64 (iconv IntKind.i64 m) i) 2))))] []) (True ∧ bcond (ieq i 4) (∀ (i : Int), i = gmod (iquo IntKind.i64 n 8) 4 → ∀ (i_1 : Int), i_1 = iimin (iconv IntKind.i64 m) i → (modOk 4 = true ∧ true = true ∧ True) ∧ True ∧ V [XV.c (CV.v (Value.int .u16 (iconv IntKind.u16 i_1)))] []) (∀ (i : Int), i = gmod (iquo IntKind.i64 n 8) (iadd IntKind.i64 (iconv IntKind.i64 m) 1) → (modOk (iadd IntKind.i64 (iconv IntKind.i64 m) 1) = true ∧ true = true ∧ True) ∧ True ∧ V [XV.c (CV.v (Value.int .u16 (iconv IntKind.u16 i)))] [])))))) := by
  try delta o_gmax2
  try delta s_mod
  generalize @gmod = gmod
  generalize @modOk = modOk
  kernel_rfl
set_option maxRecDepth 100000 in
theorem gpixel2_vc (n0 n1 n2 n3 n4 m : Int) (V : List QR.XV → List (List QR.CV) → Prop) : QR.evalBody Tryz.prog (o_gpixel2) (QR.noLoops) (Tryz.f25.body.getD .skip) Tryz.f25.results.toList Tryz.f25.ntmps [.x (.agg [.v (.int .i64 n0), .v (.int .i64 n1), .v (.int .i64 n2), .v (.int .i64 n3), .v (.int .i64 n4)]), .x (.c (.v (.int .u16 m)))] V = (True ∧ ∀ (i : Int), i = gsV n4 m → (in16 m = true ∧ true = true ∧ true = true ∧ True) ∧ True ∧ ∀ (i_1 : Int), i_1 = gmod n3 3 → (modOk 3 = true ∧ true = true ∧ true = true ∧ True) ∧ bcond (igt i_1 0) (∀ (i_2 : Int), i_2 = gsV (iquo IntKind.i64 n3 3) i → (in16 i = true ∧ true = true ∧ true = true ∧ true = true ∧ True) ∧ ∀ (i_3 : Int), i_3 = gsV n0 i_2 → ∀ (i_4 : Int), i_4 = gsV n1 i_2 → ∀ (i_5 : Int), i_5 = gsV n2 i_2 → (in16 i_2 = true ∧ true = true ∧ true = true ∧ in16 i_2 = true ∧ true = true ∧ true = true ∧ in16 i_2 = true ∧ true = true ∧ true = true ∧ True) ∧ True ∧ V [XV.agg [CV.v (Value.int .u16 i_3), CV.v (Value.int .u16 i_4), CV.v (Value.int .u16 i_5), CV.v (Value.int .u16 i_2), CV.v (Value.int .u16 i)]] []) (∀ (i_2 : Int), i_2 = gsV n0 i → ∀ (i_3 : Int), i_3 = gsV n1 i → ∀ (i_4 : Int), i_4 = gsV n2 i → (in16 i = true ∧ true = true ∧ true = true ∧ in16 i = true ∧ true = true ∧ true = true ∧ in16 i = true ∧ true = true ∧ true = true ∧ True) ∧ True ∧ V [XV.agg [CV.v (Value.int .u16 i_2), CV.v (Value.int .u16 i_3), CV.v (Value.int .u16 i_4), CV.v (Value.int .u16 i), CV.v (Value.int .u16 i)]] [])) := by
  try delta o_gpixel2
  try delta s_gsample2
  try delta s_mod
  generalize @gmod = gmod
  generalize @gsV = gsV
  generalize @in16 = in16
  generalize @modOk = modOk
  kernel_rfl
theorem a_gmax2 : Answers2 7 s_gmax2 := by
  intro al ans h hq
  unfold s_gmax2 at h
  split at h <;> try (simp at h; done)
  rename_i n
  simp only [Option.some.injEq] at h
  subst h
  have hq := asked hq
  refine QR.does_of_eval (O := o_gmax2) (QR.orc_cons (up a_mod) QR.orc_nil) mixed (QR.noLoops) Tryz.func7 (by kernel_rfl) (by kernel_rfl) (by simp) ?_
  rw [gmax2_vc]
  have k3 : modOk 3 = true := rfl
  simp only [bcond_iff, okAns, eqXs, eqX, eqo, eqLo, eqc, veq, eqUs, ieq, gmod, beq_iff_eq, beq_eq_false_iff_ne, ne_eq, true_and, and_true, forall_eq, k3]
  unfold gxMax
  refine ⟨fun h => by rw [if_pos h], fun h => by rw [if_neg h]⟩
theorem a_pvalid2 : Answers2 59 s_pvalid2 := by
  intro al ans h hq
  unfold s_pvalid2 at h
  split at h <;> try (simp at h; done)
  rename_i c0 c1 c2 a f m
  simp only [Option.some.injEq] at h
  subst h
  have hq := asked hq
  refine QR.does_of_eval (O := (QR.orc [])) QR.orc_nil mixed ((fun n => bif Nat.beq n 2 then some (.rounds 4) else none)) Tryz.func59 (by kernel_rfl) (by kernel_rfl) (by simp) ?_
  rw [pvalid2_vc]
  simp only [bcond_iff, okAns, eqXs, eqX, eqo, eqLo, eqc, veq, eqUs, igt, ile, pvB, true_and, and_true, decide_eq_true_eq, decide_eq_false_iff_not, decide_eq_decide, eq_self, false_eq_decide_iff]
  omega
theorem a_gsample2 : Answers2 47 s_gsample2 := by
  intro al ans h hq
  unfold s_gsample2 at h
  split at h <;> try (simp at h; done)
  rename_i n m
  simp only [Option.some.injEq] at h
  subst h
  have hq := asked hq
  refine QR.does_of_eval (O := o_gmax2) (QR.orc_cons (up a_mod) QR.orc_nil) mixed (QR.noLoops) Tryz.func47 (by kernel_rfl) (by kernel_rfl) (by simp) ?_
  rw [gsample2_vc]
  have h1 := hq.1
  rw [in16_iff] at h1
  have e1 : iadd .i64 (iconv .i64 m) 1 = m + 1 := by
    rw [i64_id h1.1 (by omega)]; unfold iadd; exact IntWalk.i64_in _ (by omega)
  have k : modOk (iadd .i64 (iconv .i64 m) 1) = true := by rw [e1]; exact modOk_lit (by omega) (by omega)
  have k2 : modOk 2 = true := rfl
  have k4 : modOk 4 = true := rfl
  have k8 : modOk 8 = true := rfl
  unfold gsV
  cases j0 : ieq (gmod n 8) 0 <;> cases j1 : ieq (gmod n 8) 1 <;> cases j2 : ieq (gmod n 8) 2 <;> cases j3 : ieq (gmod n 8) 3 <;> cases j4 : ieq (gmod n 8) 4 <;> simp [okAns, eqXs, eqX, eqo, eqLo, eqc, veq, eqUs, bcond_iff, k, k2, k4, k8, j0, j1, j2, j3, j4]
theorem a_gpixel2 : Answers2 25 s_gpixel2 := by
  intro al ans h hq
  unfold s_gpixel2 at h
  split at h <;> try (simp at h; done)
  rename_i n0 n1 n2 n3 n4 m
  simp only [Option.some.injEq] at h
  subst h
  have hq := asked hq
  refine QR.does_of_eval (O := o_gpixel2) (QR.orc_cons a_gsample2 (QR.orc_cons (up a_mod) QR.orc_nil)) mixed (QR.noLoops) Tryz.func25 (by kernel_rfl) (by kernel_rfl) (by simp) ?_
  rw [gpixel2_vc]
  have h1 := hq.1
  have k := gpF_in16 n4 h1
  have k' : in16 (gsV n4 m) = true := k
  have k3 : modOk 3 = true := rfl
  unfold gpC gpA gpF
  cases j : igt (gmod n3 3) 0 <;> simp [okAns, eqXs, eqX, eqo, eqLo, eqc, veq, eqUs, bcond_iff, k3, h1, k', gsV_in16 _ k', j]
end Go.Proofs.YtpjhdjakpbabhaaGreatDoor
