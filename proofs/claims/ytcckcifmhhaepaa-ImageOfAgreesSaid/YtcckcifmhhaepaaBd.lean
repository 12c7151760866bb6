import Derived.Test.YtcckcifmhhaepaaBb
import Derived.Test.YtcckcifmhhaepaaBc
namespace Go.Proofs.Ytcckcifmhhaepaa
open Go.RowKit PR
set_option linter.unusedVariables false
def inU (a : Int) : Bool := decide (0 ≤ a ∧ a < 18446744073709551616)
def w2 (h l : Int) : Int := h * 18446744073709551616 + l
def hlf (n d : Int) : Int := ((half n.toNat d.toNat : Nat) : Int)
def gmod (n k : Int) : Int := n % k
def modOk (k : Int) : Bool := decide (1 ≤ k ∧ k ≤ 4611686018427387904)
def s_half : List Value → Option (Value × List Bool)
  | [.int .u64 n, .int .u64 d] => some (.int .u64 (hlf n d), [inU n, inU d])
  | _ => none
def s_mod : List Value → Option (Value × List Bool)
  | [.int .i64 n, .int .i64 k] => some (.int .i64 (gmod n k), [modOk k])
  | _ => none
def Answers (f : Nat) (s : List Value → Option (Value × List Bool)) : Prop := AnswersP Try.prog f s
theorem inU_iff {a : Int} : inU a = true ↔ 0 ≤ a ∧ a < 18446744073709551616 := by simp [inU]
theorem inU_nat {a : Int} (h : inU a = true) : ∃ n : Nat, a = n ∧ n < 18446744073709551616 := by
  have := inU_iff.1 h
  exact ⟨a.toNat, by omega, by omega⟩
theorem mixed : Try.prog.follows .mixedOrders = true := by kernel_rfl
theorem a_half : Answers 95 s_half := by
  intro args v bs h hok
  unfold s_half at h
  split at h <;> try (simp at h; done)
  simp only [Option.some.injEq, Prod.mk.injEq] at h
  obtain ⟨rfl, rfl⟩ := h
  obtain ⟨h1, h2, _⟩ := hok
  obtain ⟨a, rfl, ha⟩ := inU_nat h1
  obtain ⟨b, rfl, hb'⟩ := inU_nat h2
  refine does_of_calls Try.func95 (by kernel_rfl) (by kernel_rfl) fun w => (ref_half a b ha hb' w).mono ?_
  rintro e w' ⟨rfl, hx⟩
  exact ⟨rfl, by obtain ⟨m, rfl⟩ := hx; exact below_drewN _ _⟩
theorem a_mod : Answers 17 s_mod := by
  intro args v bs h hok
  unfold s_mod at h
  split at h <;> try (simp at h; done)
  simp only [Option.some.injEq, Prod.mk.injEq] at h
  obtain ⟨rfl, rfl⟩ := h
  obtain ⟨h3, _⟩ := hok
  obtain ⟨h1, h2⟩ := of_decide_eq_true h3
  refine does_of_calls Try.func17 (by kernel_rfl) (by kernel_rfl) fun w => (mod_any _ _ h1 h2 w).mono ?_
  rintro e w' ⟨rfl, rfl⟩
  exact ⟨rfl, Below.refl _ _⟩
end Go.Proofs.Ytcckcifmhhaepaa
namespace Go.Proofs.Ytcckcifmhhaepaa
open Go.RowKit PR
set_option linter.unusedVariables false
def in16 (a : Int) : Bool := decide (0 ≤ a ∧ a < 65536)
def gxMax (n : Int) : Int := if n % 3 = 2 then 65535 else 255
def s_gmax : List Value → Option (Value × List Bool)
  | [.int .i64 n] => some (.int .u16 (gxMax n), [])
  | _ => none
def o_gmax : Oracle := orc [(17, s_mod)]
set_option maxRecDepth 100000 in
theorem gmax_vc (n : Int) (V : Value → Prop) : evalBody Try.prog (o_gmax) (noLoops) (Try.f11.body.getD .skip) Try.f11.results.toList Try.f11.ntmps [.int .i64 n] V = (bcond (ieq (gmod n 3) 2) ((true = true ∧ True) ∧ V (Value.int .u16 65535)) ((true = true ∧ True) ∧ V (Value.int .u16 255))) := by
  try delta o_gmax
  try delta s_mod
  generalize @gmod = gmod
  generalize @modOk = modOk
  kernel_rfl
theorem a_gmax : Answers 11 s_gmax := by
  intro args v bs h hok
  unfold s_gmax at h
  split at h <;> try (simp at h; done)
  rename_i n
  simp only [Option.some.injEq, Prod.mk.injEq] at h
  obtain ⟨rfl, rfl⟩ := h
  refine does_of_eval (O := o_gmax) (orc_cons a_mod orc_nil) mixed (noLoops) Try.func11 (by kernel_rfl) (by kernel_rfl) rfl ?_
  rw [gmax_vc]
  simp only [bcond_iff, ieq, gmod, beq_iff_eq, beq_eq_false_iff_ne, ne_eq, true_and]
  unfold gxMax
  refine ⟨fun h => by rw [if_pos h], fun h => by rw [if_neg h]⟩
theorem ieq_rfl' (a : Int) : ieq a a = true := by simp [ieq]
theorem beq_rfl' (a : Bool) : beq' a a = true := by simp [beq']
theorem wf16 {a : Int} (h : (Lit.int .u16 a).wf = true) : in16 a = true := by
  simp only [Lit.wf, Bool.and_eq_true, decide_eq_true_eq] at h
  have h1 : IntKind.u16.min = 0 := rfl
  have h2 : IntKind.u16.max = 65535 := rfl
  unfold in16; rw [decide_eq_true_eq]; omega
theorem gxMax_cases (n : Int) : gxMax n = 255 ∨ gxMax n = 65535 := by unfold gxMax; split <;> simp
end Go.Proofs.Ytcckcifmhhaepaa
namespace Go.Proofs.Ytcckcifmhhaepaa
open Go.RowKit PR
set_option linter.unusedVariables false
end Go.Proofs.Ytcckcifmhhaepaa
namespace Go.Proofs.Ytcckcifmhhaepaa
open Go.RowKit PR
set_option linter.unusedVariables false
end Go.Proofs.Ytcckcifmhhaepaa
namespace Go.Proofs.Ytcckcifmhhaepaa
open Go.RowKit PR
set_option linter.unusedVariables false
end Go.Proofs.Ytcckcifmhhaepaa
namespace Go.Proofs.Ytcckcifmhhaepaa
open Go.RowKit PR
set_option linter.unusedVariables false
end Go.Proofs.Ytcckcifmhhaepaa
namespace Go.Proofs.Ytcckcifmhhaepaa
open Go.RowKit PR
set_option linter.unusedVariables false
def smV (b : Int) : Int := if b = 8 then 255 else if b = 16 then 65535 else 0
def smOk (b : Int) : Bool := decide (b = 8 ∨ b = 16)
def pvB (c0 c1 c2 a f m : Int) : Bool := decide (c0 ≤ a ∧ c1 ≤ a ∧ c2 ≤ a ∧ a ≤ f ∧ f ≤ m)
def t16 (v : Int) : Int := if v ≤ 255 then 257 * v else 65535
def t8 (v : Int) : Int := (510 * v + 65535) / 131070
def gsV (n m : Int) : Int :=
  bif ieq (gmod n 8) 0 then 0 else bif ieq (gmod n 8) 1 then m else bif ieq (gmod n 8) 2 then m
  else bif ieq (gmod n 8) 3 then iconv .u16 (iquo .i64 (iadd .i64 (iconv .i64 m) (gmod (iquo .i64 n 8) 2)) 2)
  else bif ieq (gmod n 8) 4 then iconv .u16 (iimin (iconv .i64 m) (gmod (iquo .i64 n 8) 4))
  else iconv .u16 (gmod (iquo .i64 n 8) (iadd .i64 (iconv .i64 m) 1))
def gpF (n4 m : Int) : Int := gsV n4 m
def gpA (n3 n4 m : Int) : Int := bif igt (gmod n3 3) 0 then gsV (iquo .i64 n3 3) (gpF n4 m) else gpF n4 m
def gpC (n n3 n4 m : Int) : Int := gsV n (gpA n3 n4 m)
def s_smax : List Value → Option (Value × List Bool)
  | [.int .i64 b] => some (.tuple #[.int .u16 (smV b), .bool (smOk b)], [])
  | _ => none
def s_pvalid : List Value → Option (Value × List Bool)
  | [.agg ⟨[.int .u16 c0, .int .u16 c1, .int .u16 c2, .int .u16 a, .int .u16 f]⟩, .int .u16 m] => some (.bool (pvB c0 c1 c2 a f m), [])
  | _ => none
def s_to16 : List Value → Option (Value × List Bool)
  | [.int .u16 v] => some (.int .u16 (t16 v), [in16 v])
  | _ => none
def s_to8 : List Value → Option (Value × List Bool)
  | [.int .u16 v] => some (.int .u16 (t8 v), [in16 v])
  | _ => none
def s_widen : List Value → Option (Value × List Bool)
  | [.agg ⟨[.int .u16 c0, .int .u16 c1, .int .u16 c2, .int .u16 a, .int .u16 f]⟩] => some (.agg #[.int .u16 (t16 c0), .int .u16 (t16 c1), .int .u16 (t16 c2), .int .u16 (t16 a), .int .u16 (t16 f)], [in16 c0, in16 c1, in16 c2, in16 a, in16 f])
  | _ => none
def s_narrow : List Value → Option (Value × List Bool)
  | [.agg ⟨[.int .u16 c0, .int .u16 c1, .int .u16 c2, .int .u16 a, .int .u16 f]⟩] => some (.agg #[.int .u16 (t8 c0), .int .u16 (t8 c1), .int .u16 (t8 c2), .int .u16 (t8 a), .int .u16 (t8 f)], [in16 c0, in16 c1, in16 c2, in16 a, in16 f])
  | _ => none
def s_each : List Value → Option (Value × List Bool)
  | [.agg ⟨[.int .u16 c0, .int .u16 c1, .int .u16 c2, .int .u16 a, .int .u16 f]⟩, .func (.func g) ⟨[]⟩ ⟨[]⟩] =>
    bif Nat.beq g 89 then some (.agg #[.int .u16 (t16 c0), .int .u16 (t16 c1), .int .u16 (t16 c2), .int .u16 (t16 a), .int .u16 (t16 f)], [in16 c0, in16 c1, in16 c2, in16 a, in16 f])
    else bif Nat.beq g 90 then some (.agg #[.int .u16 (t8 c0), .int .u16 (t8 c1), .int .u16 (t8 c2), .int .u16 (t8 a), .int .u16 (t8 f)], [in16 c0, in16 c1, in16 c2, in16 a, in16 f])
    else none
  | _ => none
def s_by65535 : List Value → Option (Value × List Bool)
  | [.int .u64 n] => some (.int .u64 (hlf n 65535), [inU n])
  | _ => none
def s_gsample : List Value → Option (Value × List Bool)
  | [.int .i64 n, .int .u16 m] => some (.int .u16 (gsV n m), [in16 m])
  | _ => none
def s_gpixel : List Value → Option (Value × List Bool)
  | [.agg ⟨[.int .i64 n0, .int .i64 n1, .int .i64 n2, .int .i64 n3, .int .i64 n4]⟩, .int .u16 m] => some (.agg #[.int .u16 (gpC n0 n3 n4 m), .int .u16 (gpC n1 n3 n4 m), .int .u16 (gpC n2 n3 n4 m), .int .u16 (gpA n3 n4 m), .int .u16 (gpF n4 m)], [in16 m])
  | _ => none
set_option maxRecDepth 100000 in
theorem smax_vc (b : Int) (V : Value → Prop) : evalBody Try.prog (orc []) (named) (Try.f59.body.getD .skip) Try.f59.results.toList Try.f59.ntmps [.int .i64 b] V = (True ∧ True ∧ True ∧ bcond (ieq b 8) (True ∧ True ∧ V (Value.tuple #[Value.int .u16 255, Value.bool true])) (True ∧ bcond (ieq b 16) (True ∧ True ∧ V (Value.tuple #[Value.int .u16 65535, Value.bool true])) (True ∧ True ∧ V (Value.tuple #[Value.int .u16 0, Value.bool false])))) := by
  kernel_rfl
set_option maxRecDepth 100000 in
theorem rmax_vc (b : Int) (V : Value → Prop) : evalBody Try.prog (orc []) (named) (Try.f62.body.getD .skip) Try.f62.results.toList Try.f62.ntmps [.int .i64 b] V = (True ∧ True ∧ True ∧ bcond (ieq b 8) (True ∧ True ∧ V (Value.tuple #[Value.int .u16 255, Value.bool true])) (True ∧ bcond (ieq b 16) (True ∧ True ∧ V (Value.tuple #[Value.int .u16 65535, Value.bool true])) (True ∧ True ∧ V (Value.tuple #[Value.int .u16 0, Value.bool false])))) := by
  kernel_rfl
set_option maxRecDepth 100000 in
theorem pvalid_vc (c0 c1 c2 a f m : Int) (V : Value → Prop) : evalBody Try.prog (orc []) (fun n => bif Nat.beq n 1000000 then some .named else bif Nat.beq n 2 then some (.rounds 4) else none) (Try.f44.body.getD .skip) Try.f44.results.toList Try.f44.ntmps [.agg #[.int .u16 c0, .int .u16 c1, .int .u16 c2, .int .u16 a, .int .u16 f], .int .u16 m] V = (True ∧ True ∧ True ∧ (true = true ∧ true = true ∧ True) ∧ True ∧ bcond (igt c0 a) (True ∧ True ∧ V (Value.bool false)) (True ∧ True ∧ (true = true ∧ true = true ∧ True) ∧ True ∧ bcond (igt c1 a) (True ∧ True ∧ V (Value.bool false)) (True ∧ True ∧ (true = true ∧ true = true ∧ True) ∧ True ∧ bcond (igt c2 a) (True ∧ True ∧ V (Value.bool false)) (True ∧ True ∧ bcond (ile a f) (True ∧ True ∧ V (Value.bool (ile f m))) (True ∧ True ∧ V (Value.bool false)))))) := by
  kernel_rfl
set_option maxRecDepth 100000 in
theorem rpvalid_vc (c0 c1 c2 a f m : Int) (V : Value → Prop) : evalBody Try.prog (orc []) (named) (Try.f48.body.getD .skip) Try.f48.results.toList Try.f48.ntmps [.agg #[.int .u16 c0, .int .u16 c1, .int .u16 c2, .int .u16 a, .int .u16 f], .int .u16 m] V = (True ∧ bcond (ile c0 a) (bcond (ile c1 a) (bcond (ile c2 a) (bcond (ile a f) ((true = true ∧ true = true ∧ true = true ∧ true = true ∧ true = true ∧ true = true ∧ True) ∧ True ∧ V (Value.bool (ile f m))) ((true = true ∧ true = true ∧ true = true ∧ true = true ∧ true = true ∧ true = true ∧ True) ∧ True ∧ V (Value.bool false))) ((true = true ∧ true = true ∧ true = true ∧ true = true ∧ true = true ∧ true = true ∧ True) ∧ True ∧ V (Value.bool false))) ((true = true ∧ true = true ∧ true = true ∧ true = true ∧ True) ∧ True ∧ V (Value.bool false))) ((true = true ∧ true = true ∧ True) ∧ True ∧ V (Value.bool false))) := by
  kernel_rfl
set_option maxRecDepth 100000 in
theorem to16_vc (v : Int) (V : Value → Prop) : evalBody Try.prog (orc []) (named) (Try.f89.body.getD .skip) Try.f89.results.toList Try.f89.ntmps [.int .u16 v] V = (True ∧ ∀ (i : Int), i = iimin v 255 → True ∧ True ∧ V (Value.int .u16 (imul IntKind.u16 i 257))) := by
  kernel_rfl
set_option maxRecDepth 100000 in
theorem rto16_vc (v : Int) (V : Value → Prop) : evalBody Try.prog (orc []) (named) (Try.f91.body.getD .skip) Try.f91.results.toList Try.f91.ntmps [.int .u16 v] V = (True ∧ True ∧ bcond (igt v 255) (True ∧ True ∧ V (Value.int .u16 65535)) (True ∧ True ∧ V (Value.int .u16 (imul IntKind.u16 257 v)))) := by
  kernel_rfl
def o_to8 : Oracle := orc [(94, s_by65535)]
set_option maxRecDepth 100000 in
theorem to8_vc (v : Int) (V : Value → Prop) : evalBody Try.prog (o_to8) (named) (Try.f90.body.getD .skip) Try.f90.results.toList Try.f90.ntmps [.int .u16 v] V = (True ∧ ∀ (i : Int), i = hlf (imul IntKind.u64 (iconv IntKind.u64 v) 255) 65535 → (inU (imul IntKind.u64 (iconv IntKind.u64 v) 255) = true ∧ True) ∧ True ∧ V (Value.int .u16 (iconv IntKind.u16 i))) := by
  try delta o_to8
  try delta s_by65535
  generalize @hlf = hlf
  generalize @inU = inU
  kernel_rfl
def o_rto8 : Oracle := orc [(95, s_half)]
set_option maxRecDepth 100000 in
theorem rto8_vc (v : Int) (V : Value → Prop) : evalBody Try.prog (o_rto8) (named) (Try.f92.body.getD .skip) Try.f92.results.toList Try.f92.ntmps [.int .u16 v] V = (True ∧ ∀ (i : Int), i = hlf (imul IntKind.u64 (iconv IntKind.u64 v) 255) 65535 → (inU (imul IntKind.u64 (iconv IntKind.u64 v) 255) = true ∧ inU 65535 = true ∧ True) ∧ True ∧ V (Value.int .u16 (iconv IntKind.u16 i))) := by
  try delta o_rto8
  try delta s_half
  generalize @hlf = hlf
  generalize @inU = inU
  kernel_rfl
def o_each : Oracle := orc [(89, s_to16), (90, s_to8)]
set_option maxRecDepth 100000 in
theorem each16_vc (c0 c1 c2 a f : Int) (V : Value → Prop) : evalBody Try.prog (o_each) (fun n => bif Nat.beq n 1000000 then some .named else bif Nat.beq n 2 then some (.rounds 4) else none) (Try.f88.body.getD .skip) Try.f88.results.toList Try.f88.ntmps [.agg #[.int .u16 c0, .int .u16 c1, .int .u16 c2, .int .u16 a, .int .u16 f], .func (.func 89) ⟨[]⟩ ⟨[]⟩] V = (True ∧ True ∧ True ∧ (true = true ∧ true = true ∧ True) ∧ ∀ (i : Int), i = t16 c0 → (true = true ∧ true = true ∧ in16 c0 = true ∧ True) ∧ True ∧ True ∧ (true = true ∧ true = true ∧ True) ∧ ∀ (i_1 : Int), i_1 = t16 c1 → (true = true ∧ true = true ∧ in16 c1 = true ∧ True) ∧ True ∧ True ∧ (true = true ∧ true = true ∧ True) ∧ ∀ (i_2 : Int), i_2 = t16 c2 → (true = true ∧ true = true ∧ in16 c2 = true ∧ True) ∧ True ∧ True ∧ ∀ (i_3 : Int), i_3 = t16 a → ∀ (i_4 : Int), i_4 = t16 f → (in16 f = true ∧ in16 a = true ∧ True) ∧ True ∧ True ∧ V (Value.agg #[Value.int .u16 i, Value.int .u16 i_1, Value.int .u16 i_2, Value.int .u16 i_3, Value.int .u16 i_4])) := by
  try delta o_each
  try delta s_to16
  try delta s_to8
  generalize @in16 = in16
  generalize @t16 = t16
  generalize @t8 = t8
  kernel_rfl
set_option maxRecDepth 100000 in
theorem each8_vc (c0 c1 c2 a f : Int) (V : Value → Prop) : evalBody Try.prog (o_each) (fun n => bif Nat.beq n 1000000 then some .named else bif Nat.beq n 2 then some (.rounds 4) else none) (Try.f88.body.getD .skip) Try.f88.results.toList Try.f88.ntmps [.agg #[.int .u16 c0, .int .u16 c1, .int .u16 c2, .int .u16 a, .int .u16 f], .func (.func 90) ⟨[]⟩ ⟨[]⟩] V = (True ∧ True ∧ True ∧ (true = true ∧ true = true ∧ True) ∧ ∀ (i : Int), i = t8 c0 → (true = true ∧ true = true ∧ in16 c0 = true ∧ True) ∧ True ∧ True ∧ (true = true ∧ true = true ∧ True) ∧ ∀ (i_1 : Int), i_1 = t8 c1 → (true = true ∧ true = true ∧ in16 c1 = true ∧ True) ∧ True ∧ True ∧ (true = true ∧ true = true ∧ True) ∧ ∀ (i_2 : Int), i_2 = t8 c2 → (true = true ∧ true = true ∧ in16 c2 = true ∧ True) ∧ True ∧ True ∧ ∀ (i_3 : Int), i_3 = t8 a → ∀ (i_4 : Int), i_4 = t8 f → (in16 f = true ∧ in16 a = true ∧ True) ∧ True ∧ True ∧ V (Value.agg #[Value.int .u16 i, Value.int .u16 i_1, Value.int .u16 i_2, Value.int .u16 i_3, Value.int .u16 i_4])) := by
  try delta o_each
  try delta s_to16
  try delta s_to8
  generalize @in16 = in16
  generalize @t16 = t16
  generalize @t8 = t8
  kernel_rfl
def o_wn : Oracle := orc [(88, s_each)]
set_option maxRecDepth 100000 in
theorem widen_vc (c0 c1 c2 a f : Int) (V : Value → Prop) : evalBody Try.prog (o_wn) (named) (Try.f77.body.getD .skip) Try.f77.results.toList Try.f77.ntmps [.agg #[.int .u16 c0, .int .u16 c1, .int .u16 c2, .int .u16 a, .int .u16 f]] V = (True ∧ ∀ (i : Int), i = t16 c0 → ∀ (i_1 : Int), i_1 = t16 c1 → ∀ (i_2 : Int), i_2 = t16 c2 → ∀ (i_3 : Int), i_3 = t16 a → ∀ (i_4 : Int), i_4 = t16 f → (in16 c0 = true ∧ in16 c1 = true ∧ in16 c2 = true ∧ in16 a = true ∧ in16 f = true ∧ True) ∧ True ∧ V (Value.agg #[Value.int .u16 i, Value.int .u16 i_1, Value.int .u16 i_2, Value.int .u16 i_3, Value.int .u16 i_4])) := by
  try delta o_wn
  try delta s_each
  generalize @in16 = in16
  generalize @t16 = t16
  generalize @t8 = t8
  kernel_rfl
set_option maxRecDepth 100000 in
theorem narrow_vc (c0 c1 c2 a f : Int) (V : Value → Prop) : evalBody Try.prog (o_wn) (named) (Try.f78.body.getD .skip) Try.f78.results.toList Try.f78.ntmps [.agg #[.int .u16 c0, .int .u16 c1, .int .u16 c2, .int .u16 a, .int .u16 f]] V = (True ∧ ∀ (i : Int), i = t8 c0 → ∀ (i_1 : Int), i_1 = t8 c1 → ∀ (i_2 : Int), i_2 = t8 c2 → ∀ (i_3 : Int), i_3 = t8 a → ∀ (i_4 : Int), i_4 = t8 f → (in16 c0 = true ∧ in16 c1 = true ∧ in16 c2 = true ∧ in16 a = true ∧ in16 f = true ∧ True) ∧ True ∧ V (Value.agg #[Value.int .u16 i, Value.int .u16 i_1, Value.int .u16 i_2, Value.int .u16 i_3, Value.int .u16 i_4])) := by
  try delta o_wn
  try delta s_each
  generalize @in16 = in16
  generalize @t16 = t16
  generalize @t8 = t8
  kernel_rfl
def o_rwn : Oracle := orc [(91, s_to16), (92, s_to8)]
set_option maxRecDepth 100000 in
theorem rwiden_vc (c0 c1 c2 a f : Int) (V : Value → Prop) : evalBody Try.prog (o_rwn) (named) (Try.f80.body.getD .skip) Try.f80.results.toList Try.f80.ntmps [.agg #[.int .u16 c0, .int .u16 c1, .int .u16 c2, .int .u16 a, .int .u16 f]] V = (True ∧ ∀ (i : Int), i = t16 c0 → ∀ (i_1 : Int), i_1 = t16 c1 → ∀ (i_2 : Int), i_2 = t16 c2 → ∀ (i_3 : Int), i_3 = t16 a → ∀ (i_4 : Int), i_4 = t16 f → (in16 f = true ∧ in16 a = true ∧ in16 c2 = true ∧ true = true ∧ true = true ∧ in16 c1 = true ∧ true = true ∧ true = true ∧ in16 c0 = true ∧ true = true ∧ true = true ∧ True) ∧ True ∧ V (Value.agg #[Value.int .u16 i, Value.int .u16 i_1, Value.int .u16 i_2, Value.int .u16 i_3, Value.int .u16 i_4])) := by
  try delta o_rwn
  try delta s_to16
  try delta s_to8
  generalize @in16 = in16
  generalize @t16 = t16
  generalize @t8 = t8
  kernel_rfl
set_option maxRecDepth 100000 in
theorem rnarrow_vc (c0 c1 c2 a f : Int) (V : Value → Prop) : evalBody Try.prog (o_rwn) (named) (Try.f81.body.getD .skip) Try.f81.results.toList Try.f81.ntmps [.agg #[.int .u16 c0, .int .u16 c1, .int .u16 c2, .int .u16 a, .int .u16 f]] V = (True ∧ ∀ (i : Int), i = t8 c0 → ∀ (i_1 : Int), i_1 = t8 c1 → ∀ (i_2 : Int), i_2 = t8 c2 → ∀ (i_3 : Int), i_3 = t8 a → ∀ (i_4 : Int), i_4 = t8 f → (in16 f = true ∧ in16 a = true ∧ in16 c2 = true ∧ true = true ∧ true = true ∧ in16 c1 = true ∧ true = true ∧ true = true ∧ in16 c0 = true ∧ true = true ∧ true = true ∧ True) ∧ True ∧ V (Value.agg #[Value.int .u16 i, Value.int .u16 i_1, Value.int .u16 i_2, Value.int .u16 i_3, Value.int .u16 i_4])) := by
  try delta o_rwn
  try delta s_to16
  try delta s_to8
  generalize @in16 = in16
  generalize @t16 = t16
  generalize @t8 = t8
  kernel_rfl
set_option maxRecDepth 100000 in
theorem gsample_vc (n m : Int) (V : Value → Prop) : evalBody Try.prog (o_gmax) (named) (Try.f75.body.getD .skip) Try.f75.results.toList Try.f75.ntmps [.int .i64 n, .int .u16 m] V = (True ∧ True ∧ ∀ (i : Int), i = gmod n 8 → (modOk 8 = true ∧ True) ∧ True ∧ bcond (ieq i 0) (True ∧ True ∧ V (Value.int .u16 0)) (True ∧ bcond (ieq i 1) (bcond (ieq i 1) (True ∧ True ∧ V (Value.int .u16 m)) (True ∧ bcond (ieq i 3) (∀ (i : Int), i = gmod (iquo IntKind.i64 n 8) 2 → (true = true ∧ modOk 2 = true ∧ true = true ∧ True) ∧ True ∧ V (Value.int .u16 (iconv IntKind.u16 (iquo IntKind.i64 (iadd IntKind.i64 (iconv IntKind.i64 m) i) 2)))) (True ∧ bcond (ieq i 4) (∀ (i : Int), i = gmod (iquo IntKind.i64 n 8) 4 → ∀ (i_1 : Int), i_1 = iimin (iconv IntKind.i64 m) i → (modOk 4 = true ∧ true = true ∧ True) ∧ True ∧ V (Value.int .u16 (iconv IntKind.u16 i_1))) (∀ (i : Int), i = gmod (iquo IntKind.i64 n 8) (iadd IntKind.i64 (iconv IntKind.i64 m) 1) → (modOk (iadd IntKind.i64 (iconv IntKind.i64 m) 1) = true ∧ true = true ∧ True) ∧ True ∧ V (Value.int .u16 (iconv IntKind.u16 i)))))) (True ∧ bcond (ieq i 2) (True ∧ True ∧ V (Value.int .u16 m)) (True ∧ bcond (ieq i 3) (∀ (i : Int), i = gmod (iquo IntKind.i64 n 8) 2 → (true = true ∧ modOk 2 = true ∧ true = true ∧ True) ∧ True ∧ V (Value.int .u16 (iconv IntKind.u16 (iquo IntKind.i64 (iadd IntKind.i64 (iconv IntKind.i64 m) i) 2)))) (True ∧ bcond (ieq i 4) (∀ (i : Int), i = gmod (iquo IntKind.i64 n 8) 4 → ∀ (i_1 : Int), i_1 = iimin (iconv IntKind.i64 m) i → (modOk 4 = true ∧ true = true ∧ True) ∧ True ∧ V (Value.int .u16 (iconv IntKind.u16 i_1))) (∀ (i : Int), i = gmod (iquo IntKind.i64 n 8) (iadd IntKind.i64 (iconv IntKind.i64 m) 1) → (modOk (iadd IntKind.i64 (iconv IntKind.i64 m) 1) = true ∧ true = true ∧ True) ∧ True ∧ V (Value.int .u16 (iconv IntKind.u16 i)))))))) := by
  try delta o_gmax
  try delta s_mod
  generalize @gmod = gmod
  generalize @modOk = modOk
  kernel_rfl
def o_gpixel : Oracle := orc [(75, s_gsample), (17, s_mod)]
set_option maxRecDepth 100000 in
theorem gpixel_vc (n0 n1 n2 n3 n4 m : Int) (V : Value → Prop) : evalBody Try.prog (o_gpixel) (named) (Try.f50.body.getD .skip) Try.f50.results.toList Try.f50.ntmps [.agg #[.int .i64 n0, .int .i64 n1, .int .i64 n2, .int .i64 n3, .int .i64 n4], .int .u16 m] V = (True ∧ ∀ (i : Int), i = gsV n4 m → (in16 m = true ∧ true = true ∧ true = true ∧ True) ∧ True ∧ ∀ (i_1 : Int), i_1 = gmod n3 3 → (modOk 3 = true ∧ true = true ∧ true = true ∧ True) ∧ bcond (igt i_1 0) (∀ (i_2 : Int), i_2 = gsV (iquo IntKind.i64 n3 3) i → (in16 i = true ∧ true = true ∧ true = true ∧ true = true ∧ True) ∧ ∀ (i_3 : Int), i_3 = gsV n0 i_2 → ∀ (i_4 : Int), i_4 = gsV n1 i_2 → ∀ (i_5 : Int), i_5 = gsV n2 i_2 → (in16 i_2 = true ∧ true = true ∧ true = true ∧ in16 i_2 = true ∧ true = true ∧ true = true ∧ in16 i_2 = true ∧ true = true ∧ true = true ∧ True) ∧ True ∧ V (Value.agg #[Value.int .u16 i_3, Value.int .u16 i_4, Value.int .u16 i_5, Value.int .u16 i_2, Value.int .u16 i])) (∀ (i_2 : Int), i_2 = gsV n0 i → ∀ (i_3 : Int), i_3 = gsV n1 i → ∀ (i_4 : Int), i_4 = gsV n2 i → (in16 i = true ∧ true = true ∧ true = true ∧ in16 i = true ∧ true = true ∧ true = true ∧ in16 i = true ∧ true = true ∧ true = true ∧ True) ∧ True ∧ V (Value.agg #[Value.int .u16 i_2, Value.int .u16 i_3, Value.int .u16 i_4, Value.int .u16 i, Value.int .u16 i]))) := by
  try delta o_gpixel
  try delta s_gsample
  try delta s_mod
  generalize @gmod = gmod
  generalize @gsV = gsV
  generalize @in16 = in16
  generalize @modOk = modOk
  kernel_rfl
end Go.Proofs.Ytcckcifmhhaepaa
namespace Go.Proofs.Ytcckcifmhhaepaa
open Go.RowKit PR
set_option linter.unusedVariables false
theorem in16_iff {a : Int} : in16 a = true ↔ 0 ≤ a ∧ a < 65536 := by simp [in16]
theorem u16_id {a : Int} (h : 0 ≤ a) (k : a < 65536) : iconv .u16 a = a := by unfold iconv; rw [IntKind.wrap_u16]; omega
theorem u64_id {a : Int} (h : 0 ≤ a) (k : a < 18446744073709551616) : iconv .u64 a = a := by unfold iconv; rw [IntKind.wrap_u64]; omega
theorem i64_id {a : Int} (h : 0 ≤ a) (k : a < 9223372036854775808) : iconv .i64 a = a := by unfold iconv; exact IntWalk.i64_in _ (by omega)
theorem inU_mul (a b : Int) : inU (imul .u64 a b) = true := by rw [inU_iff]; unfold imul; rw [IntKind.wrap_u64]; omega
theorem inU_lit {a : Int} (h : 0 ≤ a) (k : a < 18446744073709551616) : inU a = true := by rw [inU_iff]; exact ⟨h, k⟩
theorem in16_conv (a : Int) : in16 (iconv .u16 a) = true := by rw [in16_iff]; unfold iconv; rw [IntKind.wrap_u16]; omega
theorem half_div (n d : Nat) (h : 0 < d) : half n d = (2 * n + d) / (2 * d) := by
  have e := Nat.div_add_mod n d
  have l := Nat.mod_lt n h
  symm
  unfold half
  rw [if_neg (by omega)]
  generalize n / d = q at *
  generalize n % d = r at *
  have a1 : q * (2 * d) = 2 * (d * q) := by rw [Nat.mul_comm d q, ← Nat.mul_assoc, Nat.mul_comm q 2, Nat.mul_assoc]
  split
  · apply Nat.div_eq_of_lt_le
    · simp only [Nat.add_mul, a1]; omega
    · simp only [Nat.add_mul, a1]; omega
  · apply Nat.div_eq_of_lt_le
    · rw [a1]; omega
    · show 2 * n + d < (q + 1) * (2 * d)
      rw [Nat.add_mul, a1]; omega
theorem hlf_div {n d : Int} (hn : 0 ≤ n) (hd : 0 < d) : hlf n d = (2 * n + d) / (2 * d) := by
  unfold hlf
  rw [half_div _ _ (by omega)]
  simp only [Int.natCast_ediv, Int.natCast_add, Int.natCast_mul]
  rw [Int.toNat_of_nonneg hn, Int.toNat_of_nonneg (by omega)]
  rfl
theorem a_by65535 : Answers 94 s_by65535 := by
  intro args v bs h hok
  unfold s_by65535 at h
  split at h <;> try (simp at h; done)
  simp only [Option.some.injEq, Prod.mk.injEq] at h
  obtain ⟨rfl, rfl⟩ := h
  obtain ⟨h1, _⟩ := hok
  obtain ⟨a, rfl, ha⟩ := inU_nat h1
  refine does_of_calls Try.func94 (by kernel_rfl) (by kernel_rfl) fun w => (by65535_any a ha w).mono ?_
  rintro e w' ⟨rfl, rfl⟩
  exact ⟨rfl, Below.refl _ _⟩
theorem smax_eq (b : Int) : (b = 8 ∧ smV b = 255 ∧ smOk b = true) ∨ (b = 16 ∧ smV b = 65535 ∧ smOk b = true) ∨ (b ≠ 8 ∧ b ≠ 16 ∧ smV b = 0 ∧ smOk b = false) := by
  by_cases h : b = 8
  · subst h; exact Or.inl ⟨rfl, rfl, rfl⟩
  · by_cases k : b = 16
    · subst k; exact Or.inr (Or.inl ⟨rfl, rfl, rfl⟩)
    · exact Or.inr (Or.inr ⟨h, k, by unfold smV; rw [if_neg h, if_neg k], decide_eq_false (by omega)⟩)
theorem a_smax : Answers 59 s_smax := by
  intro args v bs h hok
  unfold s_smax at h
  split at h <;> try (simp at h; done)
  rename_i b
  simp only [Option.some.injEq, Prod.mk.injEq] at h
  obtain ⟨rfl, rfl⟩ := h
  refine does_of_eval (O := (orc [])) orc_nil mixed (named) Try.func59 (by kernel_rfl) (by kernel_rfl) rfl ?_
  rw [smax_vc]
  rcases smax_eq b with ⟨rfl, h1, h2⟩ | ⟨rfl, h1, h2⟩ | ⟨k1, k2, h1, h2⟩ <;> rw [h1, h2]
  · simp [bcond_iff, ieq]
  · simp [bcond_iff, ieq]
  · simp [bcond_iff, ieq, k1, k2]
theorem a_rsmax : Answers 62 s_smax := by
  intro args v bs h hok
  unfold s_smax at h
  split at h <;> try (simp at h; done)
  rename_i b
  simp only [Option.some.injEq, Prod.mk.injEq] at h
  obtain ⟨rfl, rfl⟩ := h
  refine does_of_eval (O := (orc [])) orc_nil mixed (named) Try.func62 (by kernel_rfl) (by kernel_rfl) rfl ?_
  rw [rmax_vc]
  rcases smax_eq b with ⟨rfl, h1, h2⟩ | ⟨rfl, h1, h2⟩ | ⟨k1, k2, h1, h2⟩ <;> rw [h1, h2]
  · simp [bcond_iff, ieq]
  · simp [bcond_iff, ieq]
  · simp [bcond_iff, ieq, k1, k2]
theorem intV {k : IntKind} {a b : Int} (h : a = b) : Value.int k a = Value.int k b := by rw [h]
theorem a_pvalid : Answers 44 s_pvalid := by
  intro args v bs h hok
  unfold s_pvalid at h
  split at h <;> try (simp at h; done)
  rename_i c0 c1 c2 a f m
  simp only [Option.some.injEq, Prod.mk.injEq] at h
  obtain ⟨rfl, rfl⟩ := h
  refine does_of_eval (O := (orc [])) orc_nil mixed ((fun n => bif Nat.beq n 1000000 then some .named else bif Nat.beq n 2 then some (.rounds 4) else none)) Try.func44 (by kernel_rfl) (by kernel_rfl) rfl ?_
  rw [pvalid_vc]
  simp only [bcond_iff, igt, ile, pvB, true_and, and_true, decide_eq_true_eq, decide_eq_false_iff_not, Value.bool.injEq, decide_eq_decide, eq_self, false_eq_decide_iff]
  omega
theorem a_rpvalid : Answers 48 s_pvalid := by
  intro args v bs h hok
  unfold s_pvalid at h
  split at h <;> try (simp at h; done)
  rename_i c0 c1 c2 a f m
  simp only [Option.some.injEq, Prod.mk.injEq] at h
  obtain ⟨rfl, rfl⟩ := h
  refine does_of_eval (O := (orc [])) orc_nil mixed (named) Try.func48 (by kernel_rfl) (by kernel_rfl) rfl ?_
  rw [rpvalid_vc]
  simp only [bcond_iff, ile, pvB, true_and, and_true, decide_eq_true_eq, decide_eq_false_iff_not, Value.bool.injEq, decide_eq_decide, eq_self, false_eq_decide_iff]
  omega
theorem a_to16 : Answers 89 s_to16 := by
  intro args v bs h hok
  unfold s_to16 at h
  split at h <;> try (simp at h; done)
  rename_i v
  simp only [Option.some.injEq, Prod.mk.injEq] at h
  obtain ⟨rfl, rfl⟩ := h
  refine does_of_eval (O := (orc [])) orc_nil mixed (named) Try.func89 (by kernel_rfl) (by kernel_rfl) rfl ?_
  rw [to16_vc]
  obtain ⟨h1, _⟩ := hok
  rw [in16_iff] at h1
  simp only [true_and, forall_eq]
  refine intV ?_
  unfold imul iimin t16
  rw [IntKind.wrap_u16]
  split <;> split <;> omega
theorem a_rto16 : Answers 91 s_to16 := by
  intro args v bs h hok
  unfold s_to16 at h
  split at h <;> try (simp at h; done)
  rename_i v
  simp only [Option.some.injEq, Prod.mk.injEq] at h
  obtain ⟨rfl, rfl⟩ := h
  refine does_of_eval (O := (orc [])) orc_nil mixed (named) Try.func91 (by kernel_rfl) (by kernel_rfl) rfl ?_
  rw [rto16_vc]
  obtain ⟨h1, _⟩ := hok
  rw [in16_iff] at h1
  simp only [bcond_iff, true_and, igt, decide_eq_true_eq, decide_eq_false_iff_not]
  unfold t16
  refine ⟨fun h => intV ?_, fun h => intV ?_⟩
  · rw [if_neg (by omega)]
  · rw [if_pos (by omega)]; unfold imul; rw [IntKind.wrap_u16]; omega
theorem t8_hlf {v : Int} (h : in16 v = true) : iconv .u16 (hlf (imul .u64 (iconv .u64 v) 255) 65535) = t8 v := by
  rw [in16_iff] at h
  have e : imul .u64 (iconv .u64 v) 255 = v * 255 := by rw [u64_id h.1 (by omega)]; unfold imul; rw [IntKind.wrap_u64]; omega
  rw [e, hlf_div (by omega) (by decide)]
  unfold t8
  rw [u16_id (by omega) (by omega)]
  omega
theorem a_to8 : Answers 90 s_to8 := by
  intro args v bs h hok
  unfold s_to8 at h
  split at h <;> try (simp at h; done)
  rename_i v
  simp only [Option.some.injEq, Prod.mk.injEq] at h
  obtain ⟨rfl, rfl⟩ := h
  refine does_of_eval (O := o_to8) (orc_cons a_by65535 orc_nil) mixed (named) Try.func90 (by kernel_rfl) (by kernel_rfl) rfl ?_
  rw [to8_vc]
  obtain ⟨h1, _⟩ := hok
  simp only [true_and, forall_eq, inU_mul]
  exact intV (t8_hlf h1)
theorem a_rto8 : Answers 92 s_to8 := by
  intro args v bs h hok
  unfold s_to8 at h
  split at h <;> try (simp at h; done)
  rename_i v
  simp only [Option.some.injEq, Prod.mk.injEq] at h
  obtain ⟨rfl, rfl⟩ := h
  refine does_of_eval (O := o_rto8) (orc_cons a_half orc_nil) mixed (named) Try.func92 (by kernel_rfl) (by kernel_rfl) rfl ?_
  rw [rto8_vc]
  obtain ⟨h1, _⟩ := hok
  simp only [true_and, forall_eq, inU_mul, inU_lit (a := 65535) (by decide) (by decide)]
  exact intV (t8_hlf h1)
theorem a_each : Answers 88 s_each := by
  intro args v bs h hok
  unfold s_each at h
  split at h <;> try (simp at h; done)
  rename_i c0 c1 c2 a f g
  cases hg : Nat.beq g 89
  · rw [hg, cond_false] at h
    cases hg : Nat.beq g 90
    · rw [hg] at h; simp at h
    · rw [hg, cond_true] at h
      obtain rfl := Nat.eq_of_beq_eq_true hg
      simp only [Option.some.injEq, Prod.mk.injEq] at h
      obtain ⟨rfl, rfl⟩ := h
      refine does_of_eval (O := o_each) (orc_cons a_to16 (orc_cons a_to8 orc_nil)) mixed (fun n => bif Nat.beq n 1000000 then some .named else bif Nat.beq n 2 then some (.rounds 4) else none) Try.func88 (by kernel_rfl) (by kernel_rfl) rfl ?_
      rw [each8_vc]
      obtain ⟨h1, h2, h3, h4, h5, _⟩ := hok
      simp [h1, h2, h3, h4, h5]
  · rw [hg, cond_true] at h
    obtain rfl := Nat.eq_of_beq_eq_true hg
    simp only [Option.some.injEq, Prod.mk.injEq] at h
    obtain ⟨rfl, rfl⟩ := h
    refine does_of_eval (O := o_each) (orc_cons a_to16 (orc_cons a_to8 orc_nil)) mixed (fun n => bif Nat.beq n 1000000 then some .named else bif Nat.beq n 2 then some (.rounds 4) else none) Try.func88 (by kernel_rfl) (by kernel_rfl) rfl ?_
    rw [each16_vc]
    obtain ⟨h1, h2, h3, h4, h5, _⟩ := hok
    simp [h1, h2, h3, h4, h5]
theorem a_widen : Answers 77 s_widen := by
  intro args v bs h hok
  unfold s_widen at h
  split at h <;> try (simp at h; done)
  rename_i c0 c1 c2 a f
  simp only [Option.some.injEq, Prod.mk.injEq] at h
  obtain ⟨rfl, rfl⟩ := h
  refine does_of_eval (O := o_wn) (orc_cons a_each orc_nil) mixed (named) Try.func77 (by kernel_rfl) (by kernel_rfl) rfl ?_
  rw [widen_vc]
  obtain ⟨h1, h2, h3, h4, h5, _⟩ := hok
  simp [h1, h2, h3, h4, h5]
theorem a_narrow : Answers 78 s_narrow := by
  intro args v bs h hok
  unfold s_narrow at h
  split at h <;> try (simp at h; done)
  rename_i c0 c1 c2 a f
  simp only [Option.some.injEq, Prod.mk.injEq] at h
  obtain ⟨rfl, rfl⟩ := h
  refine does_of_eval (O := o_wn) (orc_cons a_each orc_nil) mixed (named) Try.func78 (by kernel_rfl) (by kernel_rfl) rfl ?_
  rw [narrow_vc]
  obtain ⟨h1, h2, h3, h4, h5, _⟩ := hok
  simp [h1, h2, h3, h4, h5]
theorem a_rwiden : Answers 80 s_widen := by
  intro args v bs h hok
  unfold s_widen at h
  split at h <;> try (simp at h; done)
  rename_i c0 c1 c2 a f
  simp only [Option.some.injEq, Prod.mk.injEq] at h
  obtain ⟨rfl, rfl⟩ := h
  refine does_of_eval (O := o_rwn) (orc_cons a_rto16 (orc_cons a_rto8 orc_nil)) mixed (named) Try.func80 (by kernel_rfl) (by kernel_rfl) rfl ?_
  rw [rwiden_vc]
  obtain ⟨h1, h2, h3, h4, h5, _⟩ := hok
  simp [h1, h2, h3, h4, h5]
theorem a_rnarrow : Answers 81 s_narrow := by
  intro args v bs h hok
  unfold s_narrow at h
  split at h <;> try (simp at h; done)
  rename_i c0 c1 c2 a f
  simp only [Option.some.injEq, Prod.mk.injEq] at h
  obtain ⟨rfl, rfl⟩ := h
  refine does_of_eval (O := o_rwn) (orc_cons a_rto16 (orc_cons a_rto8 orc_nil)) mixed (named) Try.func81 (by kernel_rfl) (by kernel_rfl) rfl ?_
  rw [rnarrow_vc]
  obtain ⟨h1, h2, h3, h4, h5, _⟩ := hok
  simp [h1, h2, h3, h4, h5]
theorem gmod_range (n : Int) {k : Int} (h : 0 < k) : 0 ≤ gmod n k ∧ gmod n k < k := by
  unfold gmod; exact ⟨Int.emod_nonneg _ (by omega), Int.emod_lt_of_pos _ h⟩
theorem gsV_range (n : Int) {m : Int} (h : in16 m = true) : 0 ≤ gsV n m ∧ gsV n m ≤ m := by
  rw [in16_iff] at h
  have em : iconv .i64 m = m := i64_id h.1 (by omega)
  unfold gsV
  simp only [Bool.cond_eq_ite]
  split
  · omega
  split
  · omega
  split
  · omega
  split
  · have g := gmod_range (iquo .i64 n 8) (k := 2) (by decide)
    generalize gmod (iquo .i64 n 8) 2 = z at *
    have e1 : iadd .i64 (iconv .i64 m) z = m + z := by
      rw [em]; unfold iadd; exact IntWalk.i64_in _ (by omega)
    have e2 : iquo .i64 (m + z) 2 = (m + z) / 2 := by
      unfold iquo; rw [Int.tdiv_eq_ediv_of_nonneg (by omega)]; exact IntWalk.i64_in _ (by omega)
    rw [e1, e2, u16_id (by omega) (by omega)]
    omega
  split
  · have g := gmod_range (iquo .i64 n 8) (k := 4) (by decide)
    have e1 : 0 ≤ iimin m (gmod (iquo .i64 n 8) 4) ∧ iimin m (gmod (iquo .i64 n 8) 4) ≤ m := by unfold iimin; split <;> omega
    rw [em, u16_id (by omega) (by omega)]
    omega
  · have e1 : iadd .i64 (iconv .i64 m) 1 = m + 1 := by
      rw [em]; unfold iadd; exact IntWalk.i64_in _ (by omega)
    have g := gmod_range (iquo .i64 n 8) (k := m + 1) (by omega)
    rw [e1, u16_id (by omega) (by omega)]
    omega
theorem gsV_in16 (n : Int) {m : Int} (h : in16 m = true) : in16 (gsV n m) = true := by
  have := gsV_range n h
  rw [in16_iff] at *
  omega
theorem modOk_lit {k : Int} (h : 1 ≤ k) (h' : k ≤ 65536) : modOk k = true := decide_eq_true (by omega)
theorem a_gsample : Answers 75 s_gsample := by
  intro args v bs h hok
  unfold s_gsample at h
  split at h <;> try (simp at h; done)
  rename_i n m
  simp only [Option.some.injEq, Prod.mk.injEq] at h
  obtain ⟨rfl, rfl⟩ := h
  refine does_of_eval (O := o_gmax) (orc_cons a_mod orc_nil) mixed (named) Try.func75 (by kernel_rfl) (by kernel_rfl) rfl ?_
  rw [gsample_vc]
  obtain ⟨h1, _⟩ := hok
  rw [in16_iff] at h1
  have e1 : iadd .i64 (iconv .i64 m) 1 = m + 1 := by
    rw [i64_id h1.1 (by omega)]; unfold iadd; exact IntWalk.i64_in _ (by omega)
  have k : modOk (iadd .i64 (iconv .i64 m) 1) = true := by rw [e1]; exact modOk_lit (by omega) (by omega)
  have k2 : modOk 2 = true := rfl
  have k4 : modOk 4 = true := rfl
  have k8 : modOk 8 = true := rfl
  unfold gsV
  simp only [true_and, and_true, forall_eq, k, k2, k4, k8, bcond_iff]
  refine ⟨fun h => ?_, fun h => ⟨fun h' => ⟨fun _ => ?_, fun h'' => ?_⟩, fun h' => ⟨fun h'' => ?_, fun h'' => ⟨fun h3 => ?_, fun h3 => ⟨fun h4 => ?_, fun h4 => ?_⟩⟩⟩⟩⟩
  · rw [h]; rfl
  · rw [h, h']; rfl
  · rw [h'] at h''; simp at h''
  · rw [h, h', h'']; rfl
  · rw [h, h', h'', h3]; rfl
  · rw [h, h', h'', h3, h4]; rfl
  · rw [h, h', h'', h3, h4]; rfl
theorem gpF_in16 (n4 : Int) {m : Int} (h : in16 m = true) : in16 (gpF n4 m) = true := gsV_in16 _ h
theorem gpA_range (n3 n4 : Int) {m : Int} (h : in16 m = true) : 0 ≤ gpA n3 n4 m ∧ gpA n3 n4 m ≤ gpF n4 m := by
  have k := gpF_in16 n4 h
  unfold gpA
  simp only [Bool.cond_eq_ite]
  split
  · exact gsV_range _ k
  · rw [in16_iff] at k; omega
theorem gpA_in16 (n3 n4 : Int) {m : Int} (h : in16 m = true) : in16 (gpA n3 n4 m) = true := by
  have := gpA_range n3 n4 h
  have k := gpF_in16 n4 h
  rw [in16_iff] at *
  omega
theorem gpC_range (n n3 n4 : Int) {m : Int} (h : in16 m = true) : 0 ≤ gpC n n3 n4 m ∧ gpC n n3 n4 m ≤ gpA n3 n4 m := gsV_range _ (gpA_in16 n3 n4 h)
theorem gp_valid (n0 n1 n2 n3 n4 : Int) {m : Int} (h : in16 m = true) : pvB (gpC n0 n3 n4 m) (gpC n1 n3 n4 m) (gpC n2 n3 n4 m) (gpA n3 n4 m) (gpF n4 m) m = true := by
  have a0 := gpC_range n0 n3 n4 h
  have a1 := gpC_range n1 n3 n4 h
  have a2 := gpC_range n2 n3 n4 h
  have a3 := gpA_range n3 n4 h
  have a4 : 0 ≤ gpF n4 m ∧ gpF n4 m ≤ m := gsV_range n4 h
  exact decide_eq_true (by omega)
theorem a_gpixel : Answers 50 s_gpixel := by
  intro args v bs h hok
  unfold s_gpixel at h
  split at h <;> try (simp at h; done)
  rename_i n0 n1 n2 n3 n4 m
  simp only [Option.some.injEq, Prod.mk.injEq] at h
  obtain ⟨rfl, rfl⟩ := h
  refine does_of_eval (O := o_gpixel) (orc_cons a_gsample (orc_cons a_mod orc_nil)) mixed (named) Try.func50 (by kernel_rfl) (by kernel_rfl) rfl ?_
  rw [gpixel_vc]
  obtain ⟨h1, _⟩ := hok
  have k := gpF_in16 n4 h1
  have k' : in16 (gsV n4 m) = true := k
  have k3 : modOk 3 = true := rfl
  simp only [true_and, and_true, forall_eq, k3, h1, k', bcond_iff, gsV_in16 _ k', gpC, gpA, gpF]
  refine ⟨fun h => ?_, fun h => ?_⟩ <;> rw [h] <;> rfl
end Go.Proofs.Ytcckcifmhhaepaa
