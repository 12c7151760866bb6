/-
  What the functions of layers 1 and 2 and of their specification answer, on integers: the answers that the pure way of running takes for their calls.
  What serves every layer's laws: ranges of 16 bits, the generator's maximum, and small facts.
  Layer 3 (surd) and its specification: the conditions of the calls, without the loops.
  Layer 3 (surd) and its specification: Compare, Floor and Half, with their loops, and the generator's numbers.
  The laws of layer 3 (surd): their conditions.
  The laws of layer 3 (surd): each returns true for all arguments in their ranges.
  Layer 5 (sample), its specification and the generator's pixels: the conditions of the calls.
  Layer 5 (sample), its specification and the generator's pixels: what each call answers.
-/
import Derived.Test.YtjieldpnnopljaaBb
import Derived.Test.YtjieldpnnopljaaBc
namespace Go.Proofs.Ytjieldpnnopljaa
open Go.RowKit PR
set_option linter.unusedVariables false

-- SPEC inU w2 wmH wmL waOk waH waL wsOk wsH wsL wkOk wkH wkL wcmp wqH wqL wqR hlf gmod ilen
def inU (a : Int) : Bool := decide (0 ≤ a ∧ a < 18446744073709551616)
def w2 (h l : Int) : Int := h * 18446744073709551616 + l
def hi64 (n : Int) : Int := n / 18446744073709551616
def lo64 (n : Int) : Int := n % 18446744073709551616
def wmH (a b : Int) : Int := hi64 (a * b)
def wmL (a b : Int) : Int := lo64 (a * b)
def waOk (ah al bh bl : Int) : Bool := decide (w2 ah al + w2 bh bl < 340282366920938463463374607431768211456)
def waH (ah al bh bl : Int) : Int := bif waOk ah al bh bl then hi64 (w2 ah al + w2 bh bl) else 0
def waL (ah al bh bl : Int) : Int := bif waOk ah al bh bl then lo64 (w2 ah al + w2 bh bl) else 0
def wsOk (ah al bh bl : Int) : Bool := decide (w2 bh bl ≤ w2 ah al)
def wsH (ah al bh bl : Int) : Int := bif wsOk ah al bh bl then hi64 (w2 ah al - w2 bh bl) else 0
def wsL (ah al bh bl : Int) : Int := bif wsOk ah al bh bl then lo64 (w2 ah al - w2 bh bl) else 0
def wkOk (ah al k : Int) : Bool := decide (w2 ah al * k < 340282366920938463463374607431768211456)
def wkH (ah al k : Int) : Int := bif wkOk ah al k then hi64 (w2 ah al * k) else 0
def wkL (ah al k : Int) : Int := bif wkOk ah al k then lo64 (w2 ah al * k) else 0
def wcmp (ah al bh bl : Int) : Int := if w2 ah al < w2 bh bl then -1 else if w2 ah al = w2 bh bl then 0 else 1
def wqH (ah al d : Int) : Int := hi64 (w2 ah al / d)
def wqL (ah al d : Int) : Int := lo64 (w2 ah al / d)
def wqR (ah al d : Int) : Int := w2 ah al % d
def hlf (n d : Int) : Int := ((half n.toNat d.toNat : Nat) : Int)
def gmod (n k : Int) : Int := n % k
def modOk (k : Int) : Bool := decide (1 ≤ k ∧ k ≤ 4611686018427387904)
def ilen (n : Int) : Int := ((Lib.bitLenAux 64 n.toNat : Nat) : Int)

def s_of : List Value → Option (Value × List Bool)
  | [.int .u64 n] => some (.agg #[.int .u64 0, .int .u64 n], [inU n])
  | _ => none
def s_mul : List Value → Option (Value × List Bool)
  | [.int .u64 a, .int .u64 b] => some (.agg #[.int .u64 (wmH a b), .int .u64 (wmL a b)], [inU a, inU b])
  | _ => none
def s_add : List Value → Option (Value × List Bool)
  | [.agg ⟨[.int .u64 a, .int .u64 b]⟩, .agg ⟨[.int .u64 c, .int .u64 d]⟩] => some (.tuple #[.agg #[.int .u64 (waH a b c d), .int .u64 (waL a b c d)], .bool (waOk a b c d)], [inU a, inU b, inU c, inU d])
  | _ => none
def s_sub : List Value → Option (Value × List Bool)
  | [.agg ⟨[.int .u64 a, .int .u64 b]⟩, .agg ⟨[.int .u64 c, .int .u64 d]⟩] => some (.tuple #[.agg #[.int .u64 (wsH a b c d), .int .u64 (wsL a b c d)], .bool (wsOk a b c d)], [inU a, inU b, inU c, inU d])
  | _ => none
def s_mulsmall : List Value → Option (Value × List Bool)
  | [.agg ⟨[.int .u64 a, .int .u64 b]⟩, .int .u64 k] => some (.tuple #[.agg #[.int .u64 (wkH a b k), .int .u64 (wkL a b k)], .bool (wkOk a b k)], [inU a, inU b, inU k])
  | _ => none
def s_cmp : List Value → Option (Value × List Bool)
  | [.agg ⟨[.int .u64 a, .int .u64 b]⟩, .agg ⟨[.int .u64 c, .int .u64 d]⟩] => some (.int .i64 (wcmp a b c d), [inU a, inU b, inU c, inU d])
  | _ => none
def s_divmod : List Value → Option (Value × List Bool)
  | [.agg ⟨[.int .u64 a, .int .u64 b]⟩, .int .u64 d] => some (.tuple #[.agg #[.int .u64 (wqH a b d), .int .u64 (wqL a b d)], .int .u64 (wqR a b d), .bool true], [inU a, inU b, inU d, ine d 0])
  | _ => none
def s_half : List Value → Option (Value × List Bool)
  | [.int .u64 n, .int .u64 d] => some (.int .u64 (hlf n d), [inU n, inU d])
  | _ => none
def s_mod : List Value → Option (Value × List Bool)
  | [.int .i64 n, .int .i64 k] => some (.int .i64 (gmod n k), [modOk k])
  | _ => none
def s_len64 : List Value → Option (Value × List Bool)
  | [.int .u64 n] => some (.int .i64 (ilen n), [inU n])
  | _ => none

/-- f answers what s says -/
def Answers (f : Nat) (s : List Value → Option (Value × List Bool)) : Prop := AnswersP Try.prog f s

theorem inU_iff {a : Int} : inU a = true ↔ 0 ≤ a ∧ a < 18446744073709551616 := by simp [inU]
theorem inU_nat {a : Int} (h : inU a = true) : ∃ n : Nat, a = n ∧ n < 18446744073709551616 := by
  have := inU_iff.1 h
  exact ⟨a.toNat, by omega, by omega⟩
theorem hilo_nat {n hi lo : Nat} (h : Word2 n hi lo) : hi64 n = hi ∧ lo64 n = lo := by
  obtain ⟨h1, h2, h3⟩ := h
  unfold hi64 lo64
  omega
theorem w2_nat (a b : Nat) : w2 a b = ((a * 18446744073709551616 + b : Nat) : Int) := by unfold w2; omega
theorem hilo_range (n : Int) (h : 0 ≤ n) (k : n < 340282366920938463463374607431768211456) : inU (hi64 n) = true ∧ inU (lo64 n) = true ∧ w2 (hi64 n) (lo64 n) = n := by
  rw [inU_iff, inU_iff]; unfold hi64 lo64 w2; omega
theorem w2_range {a b : Int} (h : inU a = true) (k : inU b = true) : 0 ≤ w2 a b ∧ w2 a b < 340282366920938463463374607431768211456 := by
  rw [inU_iff] at *; unfold w2; omega
theorem inU_lo (n : Int) : inU (lo64 n) = true := by rw [inU_iff]; unfold lo64; omega
theorem mul_range {a b : Int} (h : inU a = true) (k : inU b = true) : 0 ≤ a * b ∧ a * b < 340282366920938463463374607431768211456 := by
  rw [inU_iff] at *
  have h1 := Int.mul_nonneg h.1 k.1
  have h2 := Int.mul_le_mul (by omega : a ≤ 18446744073709551615) (by omega : b ≤ 18446744073709551615) k.1 (by decide)
  omega
theorem wm_spec {a b : Int} (h : inU a = true) (k : inU b = true) : inU (wmH a b) = true ∧ inU (wmL a b) = true ∧ w2 (wmH a b) (wmL a b) = a * b := by
  have := mul_range h k
  exact hilo_range _ this.1 this.2
theorem wa_spec {a b c d : Int} (h1 : inU a = true) (h2 : inU b = true) (h3 : inU c = true) (h4 : inU d = true) : inU (waH a b c d) = true ∧ inU (waL a b c d) = true ∧ (waOk a b c d = true → w2 (waH a b c d) (waL a b c d) = w2 a b + w2 c d) := by
  have r1 := w2_range h1 h2
  have r2 := w2_range h3 h4
  unfold waH waL
  cases h : waOk a b c d
  · exact ⟨rfl, rfl, fun h => by simp at h⟩
  · have h := of_decide_eq_true h
    have := hilo_range (w2 a b + w2 c d) (by omega) h
    exact ⟨this.1, this.2.1, fun _ => this.2.2⟩
theorem ws_spec {a b c d : Int} (h1 : inU a = true) (h2 : inU b = true) (h3 : inU c = true) (h4 : inU d = true) : inU (wsH a b c d) = true ∧ inU (wsL a b c d) = true ∧ (wsOk a b c d = true → w2 (wsH a b c d) (wsL a b c d) = w2 a b - w2 c d) := by
  have r1 := w2_range h1 h2
  have r2 := w2_range h3 h4
  unfold wsH wsL
  cases h : wsOk a b c d
  · exact ⟨rfl, rfl, fun h => by simp at h⟩
  · have h := of_decide_eq_true h
    have := hilo_range (w2 a b - w2 c d) (by omega) (by omega)
    exact ⟨this.1, this.2.1, fun _ => this.2.2⟩
theorem wk_spec {a b k : Int} (h1 : inU a = true) (h2 : inU b = true) (h3 : inU k = true) : inU (wkH a b k) = true ∧ inU (wkL a b k) = true ∧ (wkOk a b k = true → w2 (wkH a b k) (wkL a b k) = w2 a b * k) := by
  have r1 := w2_range h1 h2
  unfold wkH wkL
  cases h : wkOk a b k
  · exact ⟨rfl, rfl, fun h => by simp at h⟩
  · have h := of_decide_eq_true h
    have := hilo_range (w2 a b * k) (Int.mul_nonneg r1.1 (inU_iff.1 h3).1) h
    exact ⟨this.1, this.2.1, fun _ => this.2.2⟩
theorem wq_spec {a b d : Int} (h1 : inU a = true) (h2 : inU b = true) (h3 : inU d = true) (h : 0 < d) : inU (wqH a b d) = true ∧ inU (wqL a b d) = true ∧ w2 (wqH a b d) (wqL a b d) = w2 a b / d ∧ inU (wqR a b d) = true := by
  have r1 := w2_range h1 h2
  have := hilo_range (w2 a b / d) (Int.ediv_nonneg r1.1 (by omega)) (Int.lt_of_le_of_lt (Int.ediv_le_self _ r1.1) r1.2)
  refine ⟨this.1, this.2.1, this.2.2, ?_⟩
  rw [inU_iff] at *
  have m1 := Int.emod_nonneg (w2 a b) (by omega : d ≠ 0)
  have m2 := Int.emod_lt_of_pos (w2 a b) h
  unfold wqR; omega
theorem mixed : Try.prog.follows .mixedOrders = true := by kernel_rfl

theorem mul_of_calls {f : Nat} {fn : Func} (hf : Try.prog.funcs[f]? = some fn) (hn : (fn.name == "runtime.NumGoroutine") = false) (hb : fn.body = some (fn.body.getD .skip))
    (H : ∀ (a b : Nat), a < 18446744073709551616 → b < 18446744073709551616 → ∀ w, Calls Try.prog f #[.int .u64 a, .int .u64 b] w fun e w' => ∃ hi lo : Nat, e = .returned (.agg #[.int .u64 hi, .int .u64 lo]) ∧ Word2 (a * b) hi lo ∧ Below w.heap.size w w') : Answers f s_mul := by
  intro args v bs h hok
  unfold s_mul at h
  split at h <;> try (simp at h; done)
  simp only [Option.some.injEq, Prod.mk.injEq] at h
  obtain ⟨rfl, rfl⟩ := h
  obtain ⟨h1, h2, _⟩ := hok
  obtain ⟨a, rfl, ha⟩ := inU_nat h1
  obtain ⟨b, rfl, hb'⟩ := inU_nat h2
  refine does_of_calls hf hn hb fun w => (H a b ha hb' w).mono ?_
  rintro e w' ⟨p, q, rfl, k, hx⟩
  obtain ⟨e1, e2⟩ := hilo_nat k
  refine ⟨?_, hx⟩
  unfold wmH wmL
  rw [← Int.natCast_mul, e1, e2]
theorem cmp_of_calls {f : Nat} {fn : Func} (hf : Try.prog.funcs[f]? = some fn) (hn : (fn.name == "runtime.NumGoroutine") = false) (hb : fn.body = some (fn.body.getD .skip))
    (H : ∀ (xh xl yh yl x y : Nat), Word2 x xh xl → Word2 y yh yl → ∀ w, Calls Try.prog f #[.agg #[.int .u64 xh, .int .u64 xl], .agg #[.int .u64 yh, .int .u64 yl]] w fun e w' => e = .returned (.int .i64 (cmp3 x y)) ∧ Below w.heap.size w w') : Answers f s_cmp := by
  intro args v bs h hok
  unfold s_cmp at h
  split at h <;> try (simp at h; done)
  simp only [Option.some.injEq, Prod.mk.injEq] at h
  obtain ⟨rfl, rfl⟩ := h
  obtain ⟨h1, h2, h3, h4, _⟩ := hok
  obtain ⟨a, rfl, ha⟩ := inU_nat h1
  obtain ⟨b, rfl, hb'⟩ := inU_nat h2
  obtain ⟨c, rfl, hc⟩ := inU_nat h3
  obtain ⟨d, rfl, hd⟩ := inU_nat h4
  refine does_of_calls hf hn hb fun w => (H a b c d _ _ ⟨rfl, hb', ha⟩ ⟨rfl, hd, hc⟩ w).mono ?_
  rintro e w' ⟨rfl, hx⟩
  refine ⟨?_, hx⟩
  unfold wcmp
  rw [w2_nat, w2_nat]
  unfold cmp3
  simp only [Int.ofNat_lt, Int.ofNat_inj]
theorem add_of_calls {f : Nat} {fn : Func} (hf : Try.prog.funcs[f]? = some fn) (hn : (fn.name == "runtime.NumGoroutine") = false) (hb : fn.body = some (fn.body.getD .skip))
    (H : ∀ (xh xl yh yl x y : Nat), Word2 x xh xl → Word2 y yh yl → ∀ w, Calls Try.prog f #[.agg #[.int .u64 xh, .int .u64 xl], .agg #[.int .u64 yh, .int .u64 yl]] w fun e w' => AnsOf (x + y) e ∧ Below w.heap.size w w') : Answers f s_add := by
  intro args v bs h hok
  unfold s_add at h
  split at h <;> try (simp at h; done)
  simp only [Option.some.injEq, Prod.mk.injEq] at h
  obtain ⟨rfl, rfl⟩ := h
  obtain ⟨h1, h2, h3, h4, _⟩ := hok
  obtain ⟨a, rfl, ha⟩ := inU_nat h1
  obtain ⟨b, rfl, hb'⟩ := inU_nat h2
  obtain ⟨c, rfl, hc⟩ := inU_nat h3
  obtain ⟨d, rfl, hd⟩ := inU_nat h4
  refine does_of_calls hf hn hb fun w => (H a b c d _ _ ⟨rfl, hb', ha⟩ ⟨rfl, hd, hc⟩ w).mono ?_
  rintro e w' ⟨⟨hi, lo, t, rfl, k⟩, hx⟩
  refine ⟨?_, hx⟩
  unfold waH waL waOk
  rw [w2_nat, w2_nat, ← Int.natCast_add]
  rcases k with ⟨rfl, k⟩ | ⟨rfl, rfl, rfl, k⟩
  · obtain ⟨e1, e2⟩ := hilo_nat k
    have hlt := k.lt
    rw [e1, e2]
    have : decide (((a * 18446744073709551616 + b + (c * 18446744073709551616 + d) : Nat) : Int) < 340282366920938463463374607431768211456) = true := decide_eq_true (by omega)
    rw [this]; rfl
  · have : decide (((a * 18446744073709551616 + b + (c * 18446744073709551616 + d) : Nat) : Int) < 340282366920938463463374607431768211456) = false := decide_eq_false (by omega)
    rw [this]; rfl
theorem sub_of_calls {f : Nat} {fn : Func} (hf : Try.prog.funcs[f]? = some fn) (hn : (fn.name == "runtime.NumGoroutine") = false) (hb : fn.body = some (fn.body.getD .skip))
    (H : ∀ (xh xl yh yl x y : Nat), Word2 x xh xl → Word2 y yh yl → ∀ w, Calls Try.prog f #[.agg #[.int .u64 xh, .int .u64 xl], .agg #[.int .u64 yh, .int .u64 yl]] w fun e w' => DifOf x y e ∧ Below w.heap.size w w') : Answers f s_sub := by
  intro args v bs h hok
  unfold s_sub at h
  split at h <;> try (simp at h; done)
  simp only [Option.some.injEq, Prod.mk.injEq] at h
  obtain ⟨rfl, rfl⟩ := h
  obtain ⟨h1, h2, h3, h4, _⟩ := hok
  obtain ⟨a, rfl, ha⟩ := inU_nat h1
  obtain ⟨b, rfl, hb'⟩ := inU_nat h2
  obtain ⟨c, rfl, hc⟩ := inU_nat h3
  obtain ⟨d, rfl, hd⟩ := inU_nat h4
  refine does_of_calls hf hn hb fun w => (H a b c d _ _ ⟨rfl, hb', ha⟩ ⟨rfl, hd, hc⟩ w).mono ?_
  rintro e w' ⟨⟨hi, lo, t, rfl, k⟩, hx⟩
  refine ⟨?_, hx⟩
  unfold wsH wsL wsOk
  rw [w2_nat, w2_nat]
  rcases k with ⟨rfl, k, kl⟩ | ⟨rfl, rfl, rfl, k⟩
  · obtain ⟨e1, e2⟩ := hilo_nat k
    rw [← Int.ofNat_sub kl, e1, e2]
    have : decide (((c * 18446744073709551616 + d : Nat) : Int) ≤ ((a * 18446744073709551616 + b : Nat) : Int)) = true := decide_eq_true (by omega)
    rw [this]; rfl
  · have : decide (((c * 18446744073709551616 + d : Nat) : Int) ≤ ((a * 18446744073709551616 + b : Nat) : Int)) = false := decide_eq_false (by omega)
    rw [this]; rfl
theorem mulsmall_of_calls {f : Nat} {fn : Func} (hf : Try.prog.funcs[f]? = some fn) (hn : (fn.name == "runtime.NumGoroutine") = false) (hb : fn.body = some (fn.body.getD .skip))
    (H : ∀ (ah al n k : Nat), Word2 n ah al → k < 18446744073709551616 → ∀ w, Calls Try.prog f #[.agg #[.int .u64 ah, .int .u64 al], .int .u64 k] w fun e w' => AnsOf (n * k) e ∧ Below w.heap.size w w') : Answers f s_mulsmall := by
  intro args v bs h hok
  unfold s_mulsmall at h
  split at h <;> try (simp at h; done)
  simp only [Option.some.injEq, Prod.mk.injEq] at h
  obtain ⟨rfl, rfl⟩ := h
  obtain ⟨h1, h2, h3, _⟩ := hok
  obtain ⟨a, rfl, ha⟩ := inU_nat h1
  obtain ⟨b, rfl, hb'⟩ := inU_nat h2
  obtain ⟨c, rfl, hc⟩ := inU_nat h3
  refine does_of_calls hf hn hb fun w => (H a b _ c ⟨rfl, hb', ha⟩ hc w).mono ?_
  rintro e w' ⟨⟨hi, lo, t, rfl, k⟩, hx⟩
  refine ⟨?_, hx⟩
  unfold wkH wkL wkOk
  rw [w2_nat, ← Int.natCast_mul]
  rcases k with ⟨rfl, k⟩ | ⟨rfl, rfl, rfl, k⟩
  · obtain ⟨e1, e2⟩ := hilo_nat k
    have hlt := k.lt
    rw [e1, e2]
    have : decide ((((a * 18446744073709551616 + b) * c : Nat) : Int) < 340282366920938463463374607431768211456) = true := decide_eq_true (by omega)
    rw [this]; rfl
  · have : decide ((((a * 18446744073709551616 + b) * c : Nat) : Int) < 340282366920938463463374607431768211456) = false := decide_eq_false (by omega)
    rw [this]; rfl
theorem a_mod : Answers 12 s_mod := by
  intro args v bs h hok
  unfold s_mod at h
  split at h <;> try (simp at h; done)
  simp only [Option.some.injEq, Prod.mk.injEq] at h
  obtain ⟨rfl, rfl⟩ := h
  obtain ⟨h3, _⟩ := hok
  obtain ⟨h1, h2⟩ := of_decide_eq_true h3
  refine does_of_calls Try.func12 (by kernel_rfl) (by kernel_rfl) fun w => (mod_any _ _ h1 h2 w).mono ?_
  rintro e w' ⟨rfl, rfl⟩
  exact ⟨rfl, Below.refl _ _⟩

end Go.Proofs.Ytjieldpnnopljaa
namespace Go.Proofs.Ytjieldpnnopljaa
open Go.RowKit PR
set_option linter.unusedVariables false

-- SPEC in16 gxMax
def in16 (a : Int) : Bool := decide (0 ≤ a ∧ a < 65536)
def gxMax (n : Int) : Int := if n % 3 = 2 then 65535 else 255

def s_gmax : List Value → Option (Value × List Bool)
  | [.int .i64 n] => some (.int .u16 (gxMax n), [])
  | _ => none
def s_yes : List Value → Option (Value × List Bool)
  | [] => some (.bool true, [])
  | _ => none
def o_gmax : Oracle := orc [(12, s_mod)]

theorem ieq_rfl' (a : Int) : ieq a a = true := by simp [ieq]
theorem beq_rfl' (a : Bool) : beq' a a = true := by simp [beq']
theorem wf16 {a : Int} (h : (Lit.int .u16 a).wf = true) : in16 a = true := by
  simp only [Lit.wf, Bool.and_eq_true, decide_eq_true_eq] at h
  have h1 : IntKind.u16.min = 0 := rfl
  have h2 : IntKind.u16.max = 65535 := rfl
  unfold in16; rw [decide_eq_true_eq]; omega
theorem gxMax_cases (n : Int) : gxMax n = 255 ∨ gxMax n = 65535 := by unfold gxMax; split <;> simp
end Go.Proofs.Ytjieldpnnopljaa
namespace Go.Proofs.Ytjieldpnnopljaa
open Go.RowKit PR
set_option linter.unusedVariables false

-- SPEC ordOk sqH sqL ordI rtI tmI vldB qtI enL enH
def ordOk (q r : Int) : Bool := decide (0 ≤ q ∧ q < 140737488355328 ∧ 0 ≤ r ∧ r < 8589934592)
def sqH (q r : Int) : Int := hi64 (q * q * r)
def sqL (q r : Int) : Int := lo64 (q * q * r)
def cmpZ (a b : Int) : Int := if a < b then -1 else if a = b then 0 else 1
def ordZ (p q r m : Int) : Int := if m < p then 1 else cmpZ (q * q * r) ((m - p) * (m - p))
def ordI (ph pl q r d n : Int) : Int := ordZ (w2 ph pl) q r (n * d)
def rtI (q r h l : Int) : Int := cmpZ (q * q * r) (w2 h l * w2 h l)
def tmI (t : Bool) (ph pl q r d n : Int) : Int := bif t then ordZ (2 * w2 ph pl) (2 * q) r (n * d) else ordI ph pl q r d n
def vldB (ph q r d : Int) : Bool := decide (ph < 4294967296) && decide (q < 70368744177664) && decide (r < 8589934592) && decide (1 ≤ d)
def qtI (h l d : Int) : Int := if w2 h l / d < 9223372036854775808 then w2 h l / d else 9223372036854775808
def isqUp (r : Int) : Int := 2 ^ (((Lib.bitLenAux 64 r.toNat : Nat) + 1) / 2)
def enL (ph pl d : Int) : Int := qtI ph pl d
def enH (ph pl q r d : Int) : Int := if (w2 ph pl + q * isqUp r) / d < 9223372036854775808 then (w2 ph pl + q * isqUp r) / d else 9223372036854775808
def s_square : List Value → Option (Value × List Bool)
  | [.agg ⟨[.int .u64 ph, .int .u64 pl, .int .u64 q, .int .u64 r, .int .u64 d]⟩] => some (.agg #[.int .u64 (sqH q r), .int .u64 (sqL q r)], [ordOk q r])
  | _ => none
def s_order : List Value → Option (Value × List Bool)
  | [.agg ⟨[.int .u64 ph, .int .u64 pl, .int .u64 q, .int .u64 r, .int .u64 d]⟩, .int .u64 n] => some (.int .i64 (ordI ph pl q r d n), [inU ph, inU pl, ordOk q r, inU d, inU n])
  | _ => none
def s_root : List Value → Option (Value × List Bool)
  | [.agg ⟨[.int .u64 ph, .int .u64 pl, .int .u64 q, .int .u64 r, .int .u64 d]⟩, .agg ⟨[.int .u64 h, .int .u64 l]⟩] => some (.int .i64 (rtI q r h l), [ordOk q r, inU h, inU l])
  | _ => none
def s_times : List Value → Option (Value × List Bool)
  | [.agg ⟨[.int .u64 ph, .int .u64 pl, .int .u64 q, .int .u64 r, .int .u64 d]⟩, .bool t, .int .u64 n] => some (.int .i64 (tmI t ph pl q r d n), [inU ph, inU pl, vldB ph q r d, inU q, inU r, inU d, inU n])
  | _ => none
def s_valid : List Value → Option (Value × List Bool)
  | [.agg ⟨[.int .u64 ph, .int .u64 pl, .int .u64 q, .int .u64 r, .int .u64 d]⟩] => some (.bool (vldB ph q r d), [])
  | _ => none
def s_quotient : List Value → Option (Value × List Bool)
  | [.agg ⟨[.int .u64 h, .int .u64 l]⟩, .int .u64 d] => some (.int .u64 (qtI h l d), [inU h, inU l, inU d, ine d 0])
  | _ => none


theorem ordOk_iff {q r : Int} : ordOk q r = true ↔ 0 ≤ q ∧ q < 140737488355328 ∧ 0 ≤ r ∧ r < 8589934592 := by simp [ordOk]
theorem sq_range {q r : Int} (h : ordOk q r = true) : inU q = true ∧ inU r = true ∧ 0 ≤ q * q * r ∧ q * q * r < 170141183460469231731687303715884105728 := by
  obtain ⟨h1, h2, h3, h4⟩ := ordOk_iff.1 h
  have a1 := Int.mul_nonneg h1 h1
  have a2 := Int.mul_nonneg a1 h3
  have b1 := Int.mul_le_mul (by omega : q ≤ 140737488355327) (by omega : q ≤ 140737488355327) h1 (by decide)
  have b2 := Int.mul_le_mul b1 (by omega : r ≤ 8589934591) h3 (by decide)
  rw [inU_iff, inU_iff]
  omega
theorem sq_words {q r : Int} (h : ordOk q r = true) : inU (sqH q r) = true ∧ inU (sqL q r) = true ∧ w2 (sqH q r) (sqL q r) = q * q * r := by
  obtain ⟨_, _, h3, h4⟩ := sq_range h
  exact hilo_range _ h3 (by omega)

theorem rt_spec {q r h l : Int} (ho : ordOk q r = true) (h1 : inU h = true) (h2 : inU l = true) (hh : h ≠ 0) : rtI q r h l = -1 := by
  obtain ⟨_, _, r1, r2⟩ := sq_range ho
  have big : 18446744073709551616 ≤ w2 h l := by unfold w2; rw [inU_iff] at h1 h2; omega
  have := Int.mul_le_mul big big (by decide) (by omega)
  unfold rtI cmpZ
  rw [if_pos (by omega)]

theorem valid_way {ph q r d : Int} : bcond (ilt ph 4294967296) (bcond (ilt q 70368744177664) (bcond (ilt r 8589934592) (True ∧ Value.bool (ige d 1) = Value.bool (vldB ph q r d)) (True ∧ Value.bool false = Value.bool (vldB ph q r d))) (True ∧ Value.bool false = Value.bool (vldB ph q r d))) (True ∧ Value.bool false = Value.bool (vldB ph q r d)) := by
  unfold vldB ilt ige
  simp only [ge_iff_le, bcond_iff, true_and, Value.bool.injEq]
  refine ⟨fun h1 => ⟨fun h2 => ⟨fun h3 => ?_, fun h3 => ?_⟩, fun h2 => ?_⟩, fun h1 => ?_⟩ <;> simp_all <;> omega
end Go.Proofs.Ytjieldpnnopljaa
namespace Go.Proofs.Ytjieldpnnopljaa
open Go.RowKit PR
set_option linter.unusedVariables false

-- SPEC cmpX flI flOk flV hvOk hvV flGood flMu feGood feMu
/-- the greatest integer whose square is at most n -/
def rootOf : Nat → Nat
  | 0 => 0
  | n + 1 => if (rootOf n + 1) * (rootOf n + 1) ≤ n + 1 then rootOf n + 1 else rootOf n
def isq (n : Int) : Int := ((rootOf n.toNat : Nat) : Int)
def flZ (p q r d : Int) : Int := (p + isq (q * q * r)) / d
def cmpX (ph pl q r d n : Int) : Int := bif vldB ph q r d then ordI ph pl q r d n else 0
def flI (ph pl q r d : Int) : Int := flZ (w2 ph pl) q r d
def flOk (ph pl q r d : Int) : Bool := vldB ph q r d && decide (flI ph pl q r d < 9223372036854775808)
def flV (ph pl q r d : Int) : Int := bif flOk ph pl q r d then flI ph pl q r d else 0
def hvZ (p q r d : Int) : Int := if 0 ≤ ordZ (2 * p) (2 * q) r ((2 * flZ p q r d + 1) * d) then flZ p q r d + 1 else flZ p q r d
def hvOk (ph pl q r d : Int) : Bool := flOk ph pl q r d && decide (hvZ (w2 ph pl) q r d < 9223372036854775808)
def hvV (ph pl q r d : Int) : Int := bif hvOk ph pl q r d then hvZ (w2 ph pl) q r d else 0
def fiveU (a b c d e : Int) : Prop := inU a = true ∧ inU b = true ∧ inU c = true ∧ inU d = true ∧ inU e = true

def s_compare : List Value → Option (Value × List Bool)
  | [.agg ⟨[.int .u64 ph, .int .u64 pl, .int .u64 q, .int .u64 r, .int .u64 d]⟩, .int .u64 n] => some (.tuple #[.int .i64 (cmpX ph pl q r d n), .bool (vldB ph q r d)], [inU ph, inU pl, inU q, inU r, inU d, inU n])
  | _ => none
def s_floor : List Value → Option (Value × List Bool)
  | [.agg ⟨[.int .u64 ph, .int .u64 pl, .int .u64 q, .int .u64 r, .int .u64 d]⟩] => some (.tuple #[.int .u64 (flV ph pl q r d), .bool (flOk ph pl q r d)], [inU ph, inU pl, inU q, inU r, inU d])
  | _ => none
def s_halfX : List Value → Option (Value × List Bool)
  | [.agg ⟨[.int .u64 ph, .int .u64 pl, .int .u64 q, .int .u64 r, .int .u64 d]⟩] => some (.tuple #[.int .u64 (hvV ph pl q r d), .bool (hvOk ph pl q r d)], [inU ph, inU pl, inU q, inU r, inU d])
  | _ => none
def s_enclose : List Value → Option (Value × List Bool)
  | [.agg ⟨[.int .u64 ph, .int .u64 pl, .int .u64 q, .int .u64 r, .int .u64 d]⟩] => some (.tuple #[.int .u64 (enL ph pl d), .int .u64 (enH ph pl q r d)], [vldB ph q r d, inU ph, inU pl, inU q, inU r, inU d])
  | _ => none
def s_below : List Value → Option (Value × List Bool)
  | [.int .u64 n] => some (.tuple #[.int .u64 (isel (ige n 9223372036854775808) 0 n), .bool (bnot (ige n 9223372036854775808))], [])
  | _ => none


def flGood (ph pl q r d l h : Int) : Prop := 0 ≤ l ∧ l ≤ h ∧ h ≤ 9223372036854775808 ∧ l ≤ flI ph pl q r d ∧ (flI ph pl q r d ≤ h ∨ h = 9223372036854775808)
def flMu (l h : Int) : Nat := (h - l).toNat
def o_inv_floor (ph pl q r d : Int) : Inv where
  ι := Int × Int
  good i := flGood ph pl q r d i.1 i.2
  slots i := slotsOf 36 [(1, .pointer (some ⟨0, 0, none⟩)), (2, .int .u64 0), (3, .bool false), (4, .int .u64 i.1), (5, .int .u64 i.2)]
  blocks _ := [(0, [.int .u64 ph, .int .u64 pl, .int .u64 q, .int .u64 r, .int .u64 d])]
  μ i := flMu i.1 i.2

def feGood (ph pl q r d n i : Int) : Prop := -1 ≤ i ∧ i ≤ 62 ∧ 0 ≤ n ∧ n ≤ flI ph pl q r d ∧ flI ph pl q r d < n + 2 ^ (i + 1).toNat ∧ n % 2 ^ (i + 1).toNat = 0 ∧ n + 2 ^ (i + 1).toNat ≤ 9223372036854775808
def feMu (i : Int) : Nat := (i + 1).toNat
def o_inv_rfloor (ph pl q r d : Int) : Inv where
  ι := Int × Int
  good i := feGood ph pl q r d i.1 i.2
  slots i := slotsOf 32 [(1, .pointer (some ⟨0, 0, none⟩)), (2, .int .u64 0), (3, .bool false), (4, .int .u64 i.1), (5, .int .i64 i.2)]
  blocks _ := [(0, [.int .u64 ph, .int .u64 pl, .int .u64 q, .int .u64 r, .int .u64 d])]
  μ i := feMu i.2

def o_gx : Oracle := orc [(12, s_mod)]

theorem rootOf_spec : ∀ n : Nat, rootOf n * rootOf n ≤ n ∧ n < (rootOf n + 1) * (rootOf n + 1)
  | 0 => by decide
  | n + 1 => by
    obtain ⟨h1, h2⟩ := rootOf_spec n
    unfold rootOf
    split
    · rename_i h
      refine ⟨h, ?_⟩
      have : (rootOf n + 1 + 1) * (rootOf n + 1 + 1) = (rootOf n + 1) * (rootOf n + 1) + 2 * (rootOf n + 1) + 1 := by
        simp only [Nat.add_mul, Nat.mul_add]; omega
      omega
    · exact ⟨by omega, by omega⟩
theorem isq_spec {x : Int} (h : 0 ≤ x) : 0 ≤ isq x ∧ isq x * isq x ≤ x ∧ x < (isq x + 1) * (isq x + 1) := by
  obtain ⟨h1, h2⟩ := rootOf_spec x.toNat
  have e : ((x.toNat : Nat) : Int) = x := Int.toNat_of_nonneg h
  unfold isq
  refine ⟨by omega, ?_, ?_⟩
  · rw [← Int.natCast_mul]; omega
  · have : (((rootOf x.toNat + 1) * (rootOf x.toNat + 1) : Nat) : Int) = ((rootOf x.toNat : Nat) + 1 : Int) * ((rootOf x.toNat : Nat) + 1) := by
      rw [Int.natCast_mul]; rfl
    rw [← this]; omega
theorem le_isq {x k : Int} (h : 0 ≤ x) (hk : 0 ≤ k) : k ≤ isq x ↔ k * k ≤ x := by
  obtain ⟨h1, h2, h3⟩ := isq_spec h
  constructor
  · intro hle
    exact Int.le_trans (Int.mul_le_mul hle hle hk h1) h2
  · intro hle
    by_cases hc : k ≤ isq x
    · exact hc
    · have := Int.mul_le_mul (by omega : isq x + 1 ≤ k) (by omega : isq x + 1 ≤ k) (by omega) hk
      omega
theorem ordZ_ge {p q r m : Int} (hS : 0 ≤ q * q * r) : 0 ≤ ordZ p q r m ↔ m ≤ p + isq (q * q * r) := by
  have h1 := (isq_spec hS).1
  unfold ordZ
  split
  · constructor <;> intro _ <;> omega
  · rename_i hm
    have k := le_isq hS (k := m - p) (by omega)
    unfold cmpZ
    constructor
    · intro h
      have : (m - p) * (m - p) ≤ q * q * r := by split at h <;> (try split at h) <;> omega
      have := k.2 this
      omega
    · intro h
      have := k.1 (by omega)
      split
      · omega
      · split <;> omega
theorem ord_fl {p q r d n : Int} (hS : 0 ≤ q * q * r) (hd : 0 < d) : 0 ≤ ordZ p q r (n * d) ↔ n ≤ flZ p q r d := by
  rw [ordZ_ge hS]
  unfold flZ
  rw [Int.le_ediv_iff_mul_le hd]
theorem fl_nonneg {p q r d : Int} (hp : 0 ≤ p) (hS : 0 ≤ q * q * r) (hd : 0 < d) : 0 ≤ flZ p q r d :=
  Int.ediv_nonneg (by have := (isq_spec hS).1; omega) (by omega)

/-- what a valid number gives -/
theorem vld_spec {ph pl q r d : Int} (h : vldB ph q r d = true) (h5 : fiveU ph pl q r d) :
    inU ph = true ∧ inU pl = true ∧ inU q = true ∧ inU r = true ∧ inU d = true ∧ 0 ≤ w2 ph pl ∧ w2 ph pl < 79228162514264337593543950336 ∧ ordOk q r = true ∧ ordOk (2 * q) r = true ∧ q < 70368744177664 ∧ 0 < d ∧ 0 ≤ q * q * r ∧ q * q * r < 170141183460469231731687303715884105728 := by
  obtain ⟨a1, a2, a3, a4, a5⟩ := h5
  simp only [vldB, Bool.and_eq_true, decide_eq_true_eq] at h
  obtain ⟨⟨⟨b1, b2⟩, b3⟩, b4⟩ := h
  have A1 := inU_iff.1 a1
  have A2 := inU_iff.1 a2
  have A3 := inU_iff.1 a3
  have A4 := inU_iff.1 a4
  have o : ordOk q r = true := ordOk_iff.2 (by omega)
  have s := sq_range o
  refine ⟨a1, a2, a3, a4, a5, ?_, ?_, o, ordOk_iff.2 (by omega), by omega, by omega, s.2.2.1, s.2.2.2⟩
  · unfold w2; omega
  · unfold w2; omega
theorem tup2 {a b c d : Value} (h : a = c) (k : b = d) : Value.tuple #[a, b] = .tuple #[c, d] := by rw [h, k]
theorem int_eq {k : IntKind} {a b : Int} (h : a = b) : Value.int k a = .int k b := by rw [h]
theorem bool_eq {a b : Bool} (h : a = b) : Value.bool a = .bool b := by rw [h]

theorem len33 {r : Int} (h0 : 0 ≤ r) (h : r < 8589934592) : Lib.bitLenAux 64 r.toNat ≤ 33 ∧ r < 2 ^ Lib.bitLenAux 64 r.toNat := by
  have e64 : (2 : Nat) ^ 64 = 18446744073709551616 := by decide
  obtain ⟨b1, b2, b3, _⟩ := Num.bitLenAux_spec 64 r.toNat (by omega)
  refine ⟨?_, ?_⟩
  rotate_left
  · have e : (2 : Int) ^ Lib.bitLenAux 64 r.toNat = ((2 ^ Lib.bitLenAux 64 r.toNat : Nat) : Int) := by simp
    rw [e]
    generalize 2 ^ Lib.bitLenAux 64 r.toNat = z at *
    omega
  by_cases hz : r.toNat = 0
  · rw [hz]; decide
  · have := b2 hz
    by_cases hc : Lib.bitLenAux 64 r.toNat ≤ 33
    · exact hc
    · have : 2 ^ 33 ≤ 2 ^ (Lib.bitLenAux 64 r.toNat - 1) := Nat.pow_le_pow_right (by decide) (by omega)
      have e : (2 : Nat) ^ 33 = 8589934592 := by decide
      omega
theorem isqUp_spec {r : Int} (h0 : 0 ≤ r) (h : r < 8589934592) : 1 ≤ isqUp r ∧ isqUp r ≤ 131072 ∧ r ≤ isqUp r * isqUp r ∧ ishl .u64 1 (iquo .i64 (iadd .i64 (ilen r) 1) 2) = isqUp r ∧ 0 ≤ iquo .i64 (iadd .i64 (ilen r) 1) 2 := by
  obtain ⟨l1, l2⟩ := len33 h0 h
  unfold isqUp
  unfold ilen
  generalize Lib.bitLenAux 64 r.toNat = b at *
  have e1 : iadd .i64 (b : Int) 1 = ((b + 1 : Nat) : Int) := by unfold iadd; rw [IntWalk.i64_in _ (by omega)]; rfl
  have e2 : iquo .i64 ((b + 1 : Nat) : Int) 2 = (((b + 1) / 2 : Nat) : Int) := by
    unfold iquo
    rw [show ((b + 1 : Nat) : Int).tdiv 2 = (((b + 1) / 2 : Nat) : Int) by rw [Int.tdiv_eq_ediv_of_nonneg (by omega)]; omega]
    rw [IntWalk.i64_in _ (by omega)]
  rw [e1, e2]
  have hk : (b + 1) / 2 ≤ 17 := by omega
  have p1 : (2 : Int) ^ ((b + 1) / 2) = ((2 ^ ((b + 1) / 2) : Nat) : Int) := by simp
  have p2 : (2 : Nat) ^ ((b + 1) / 2) ≤ 2 ^ 17 := Nat.pow_le_pow_right (by decide) hk
  have p3 : 0 < (2 : Nat) ^ ((b + 1) / 2) := Nat.two_pow_pos _
  have p4 : (2 : Nat) ^ b ≤ 2 ^ ((b + 1) / 2) * 2 ^ ((b + 1) / 2) := by rw [← Nat.pow_add]; exact Nat.pow_le_pow_right (by decide) (by omega)
  have e17 : (2 : Nat) ^ 17 = 131072 := by decide
  refine ⟨by omega, by omega, ?_, ?_, by omega⟩
  · have : (2 : Int) ^ b = ((2 ^ b : Nat) : Int) := by simp
    rw [this] at l2
    rw [p1, ← Int.natCast_mul]
    omega
  · unfold ishl
    have : min ((((b + 1) / 2 : Nat) : Int)).toNat IntKind.u64.bits = (b + 1) / 2 := by simp [IntKind.bits]; omega
    rw [this, IntKind.wrap_u64, Int.one_mul, p1]
    omega

theorem fl_bounds {ph pl q r d : Int} (hv : vldB ph q r d = true) (h5 : fiveU ph pl q r d) : flGood ph pl q r d (enL ph pl d) (enH ph pl q r d) := by
  obtain ⟨i1, i2, i3, i4, i5, p1, p2, o1, _, q2, d1, s1, s2⟩ := vld_spec hv h5
  have R := ordOk_iff.1 o1
  obtain ⟨u1, u2, u3, _, _⟩ := isqUp_spec R.2.2.1 R.2.2.2
  obtain ⟨k1, k2, k3⟩ := isq_spec s1
  have up : isq (q * q * r) ≤ q * isqUp r := by
    by_cases hc : isq (q * q * r) ≤ q * isqUp r
    · exact hc
    · have n0 := Int.mul_nonneg R.1 (by omega : 0 ≤ isqUp r)
      have h1 := Int.mul_le_mul (by omega : q * isqUp r + 1 ≤ isq (q * q * r)) (by omega : q * isqUp r + 1 ≤ isq (q * q * r)) (by omega) k1
      have h2 : q * q * r ≤ q * isqUp r * (q * isqUp r) := by
        have := Int.mul_le_mul_of_nonneg_left u3 (Int.mul_nonneg R.1 R.1)
        rw [show q * isqUp r * (q * isqUp r) = q * q * (isqUp r * isqUp r) by
          rw [Int.mul_assoc, Int.mul_left_comm (isqUp r), ← Int.mul_assoc q q]]
        exact this
      have h3 : (q * isqUp r + 1) * (q * isqUp r + 1) = q * isqUp r * (q * isqUp r) + 2 * (q * isqUp r) + 1 := by
        rw [Int.add_mul, Int.mul_add]; omega
      omega
  have f1 : w2 ph pl / d ≤ flI ph pl q r d := Int.ediv_le_ediv d1 (by omega)
  have f2 : flI ph pl q r d ≤ (w2 ph pl + q * isqUp r) / d := Int.ediv_le_ediv d1 (by omega)
  have f0 : 0 ≤ w2 ph pl / d := Int.ediv_nonneg p1 (by omega)
  unfold flGood enL enH qtI
  split <;> split <;> omega

theorem ior_pow {n j : Nat} (hj : j ≤ 62) (hm : n % 2 ^ (j + 1) = 0) (h : n + 2 ^ j < 18446744073709551616) : ior .u64 (n : Int) (ishl .u64 1 (iconv .u64 (j : Int))) = ((n + 2 ^ j : Nat) : Int) := by
  have p3 : (2 : Nat) ^ j ≤ 2 ^ 62 := Nat.pow_le_pow_right (by decide) hj
  have e62 : (2 : Nat) ^ 62 = 4611686018427387904 := by decide
  have e1 : iconv .u64 (j : Int) = j := by unfold iconv; rw [IntKind.wrap_u64]; omega
  have e2 : ishl .u64 1 (j : Int) = ((2 ^ j : Nat) : Int) := by
    unfold ishl
    have : min (j : Int).toNat IntKind.u64.bits = j := by simp [IntKind.bits]; omega
    have p1 : (2 : Int) ^ j = ((2 ^ j : Nat) : Int) := by simp
    rw [this, IntKind.wrap_u64, Int.one_mul, p1]
    omega
  rw [e1, e2]
  unfold ior
  exact or_add n (2 ^ j) (j + 1) (by omega) (Nat.pow_lt_pow_right (by decide) (by omega)) hm h

/-- the two ways to reckon with twice the number -/
theorem dbl {ph pl q r d : Int} (hv : vldB ph q r d = true) (h5 : fiveU ph pl q r d) (n : Int) :
    wkOk ph pl 2 = true ∧ imul .u64 2 q = 2 * q ∧ ordI (wkH ph pl 2) (wkL ph pl 2) (2 * q) r d n = ordZ (2 * w2 ph pl) (2 * q) r (n * d) ∧ inU (wkH ph pl 2) = true ∧ inU (wkL ph pl 2) = true := by
  obtain ⟨i1, i2, i3, i4, i5, p1, p2, o1, _, q2, d1, s1, s2⟩ := vld_spec hv h5
  have R := ordOk_iff.1 o1
  have ok : wkOk ph pl 2 = true := decide_eq_true (by omega)
  obtain ⟨k1, k2, k3⟩ := wk_spec i1 i2 (show inU 2 = true from rfl)
  refine ⟨ok, by unfold imul; rw [IntKind.wrap_u64]; omega, ?_, k1, k2⟩
  unfold ordI
  rw [k3 ok, Int.mul_comm]

end Go.Proofs.Ytjieldpnnopljaa
namespace Go.Proofs.Ytjieldpnnopljaa
open Go.RowKit PR
set_option linter.unusedVariables false

-- SPEC gxPh gxPl gxQ gxR gxD
def gxPh (n0 n3 : Int) : Int := if n0 % 4 = 2 then n3 % 100 else 0
def gxPl (n0 : Int) : Int := if n0 % 4 = 1 then n0 % 50 else n0 % 1099511627776
def gxQ (n0 n1 : Int) : Int := if n0 % 4 = 1 then n1 % 4 else n1 % 1048576
def gxR (n0 n2 : Int) : Int := if n0 % 4 = 0 then (n2 % 1000) * (n2 % 1000) else if n0 % 4 = 1 then n2 % 10 else n2 % 1048576
def gxD (n0 n1 n3 : Int) : Int := if n0 % 4 = 1 then 1 + n3 % 4 else if n0 % 4 = 2 then 9223372036854775808 + n1 % 1048576 else 1 + n3 % 65536
def s_gx : List Value → Option (Value × List Bool)
  | [.agg ⟨[.int .i64 n0, .int .i64 n1, .int .i64 n2, .int .i64 n3]⟩] => some (.agg #[.int .u64 (gxPh n0 n3), .int .u64 (gxPl n0), .int .u64 (gxQ n0 n1), .int .u64 (gxR n0 n2), .int .u64 (gxD n0 n1 n3)], [])
  | _ => none

theorem gx_range (n0 n1 n2 n3 : Int) : (0 ≤ gxPh n0 n3 ∧ gxPh n0 n3 < 100) ∧ (0 ≤ gxPl n0 ∧ gxPl n0 < 1099511627776) ∧ (0 ≤ gxQ n0 n1 ∧ gxQ n0 n1 < 1048576) ∧ (0 ≤ gxR n0 n2 ∧ gxR n0 n2 < 1048576) ∧
    (1 ≤ gxD n0 n1 n3 ∧ gxD n0 n1 n3 < 9223372036855824384) ∧ (gxD n0 n1 n3 ≤ 65536 ∧ gxPh n0 n3 = 0 ∨ 9223372036854775808 ≤ gxD n0 n1 n3) := by
  have h1 : 0 ≤ (n2 % 1000) * (n2 % 1000) ∧ (n2 % 1000) * (n2 % 1000) ≤ 999 * 999 := by
    have a := Int.emod_nonneg n2 (show (1000 : Int) ≠ 0 by decide)
    have b := Int.emod_lt_of_pos n2 (show (0 : Int) < 1000 by decide)
    exact ⟨Int.mul_nonneg a a, Int.mul_le_mul (by omega) (by omega) a (by decide)⟩
  unfold gxPh gxPl gxQ gxR gxD
  generalize (n2 % 1000) * (n2 % 1000) = z at *
  refine ⟨?_, ?_, ?_, ?_, ?_, ?_⟩ <;> (repeat' split) <;> omega

end Go.Proofs.Ytjieldpnnopljaa
namespace Go.Proofs.Ytjieldpnnopljaa
open Go.RowKit PR
set_option linter.unusedVariables false

theorem inU_wf {a : Int} (h : (Lit.int .u64 a).wf = true) : inU a = true := by
  obtain ⟨n, rfl, hn⟩ := u64_nat h
  exact inU_iff.2 (by omega)
theorem ieq_self (a : Int) : ieq a a = true := by simp [ieq]
theorem beq_self' (a : Bool) : beq' a a = true := by simp [beq']
theorem gx_in (n0 n1 n2 n3 : Int) : inU (gxPh n0 n3) = true ∧ inU (gxPl n0) = true ∧ inU (gxQ n0 n1) = true ∧ inU (gxR n0 n2) = true ∧ inU (gxD n0 n1 n3) = true := by
  have := gx_range n0 n1 n2 n3
  simp only [inU_iff]
  omega
theorem inU_iadd (a b : Int) : inU (iadd .u64 a b) = true := by rw [inU_iff]; unfold iadd; rw [IntKind.wrap_u64]; omega

theorem fl_ord {ph pl q r d : Int} (hv : vldB ph q r d = true) (h5 : fiveU ph pl q r d) (n : Int) : ige (ordI ph pl q r d n) 0 = true ↔ n ≤ flI ph pl q r d := by
  obtain ⟨i1, i2, i3, i4, i5, p1, p2, o1, _, q2, d1, s1, s2⟩ := vld_spec hv h5
  unfold ige ordI flI
  rw [decide_eq_true_eq]
  exact ord_fl s1 d1

theorem floor_facts {ph pl q r d : Int} (h5 : fiveU ph pl q r d) (hf : flOk ph pl q r d = true) :
    vldB ph q r d = true ∧ 0 ≤ flV ph pl q r d ∧ flV ph pl q r d < 9223372036854775808 ∧ flV ph pl q r d = flI ph pl q r d ∧ ige (cmpX ph pl q r d (flV ph pl q r d)) 0 = true ∧ ilt (cmpX ph pl q r d (iadd .u64 (flV ph pl q r d) 1)) 0 = true ∧
    (hvOk ph pl q r d = true → hvV ph pl q r d = flV ph pl q r d ∨ hvV ph pl q r d = iadd .u64 (flV ph pl q r d) 1) := by
  have hf' := hf
  simp only [flOk, Bool.and_eq_true, decide_eq_true_eq] at hf'
  obtain ⟨hv, flt⟩ := hf'
  obtain ⟨_, _, _, _, _, p1, p2, o1, o2, q2, d1, s1, s2⟩ := vld_spec hv h5
  have fl0 : 0 ≤ flI ph pl q r d := fl_nonneg p1 s1 d1
  have eV : flV ph pl q r d = flI ph pl q r d := by unfold flV; rw [hf]; rfl
  have e2 : iadd .u64 (flI ph pl q r d) 1 = flI ph pl q r d + 1 := by unfold iadd; rw [IntKind.wrap_u64]; omega
  rw [eV, e2]
  refine ⟨hv, fl0, flt, rfl, ?_, ?_, fun h => ?_⟩
  · unfold cmpX; rw [hv, cond_true]; exact (fl_ord hv h5 _).2 (Int.le_refl _)
  · unfold cmpX; rw [hv, cond_true]
    have : ¬ ige (ordI ph pl q r d (flI ph pl q r d + 1)) 0 = true := fun hc => by have := (fl_ord hv h5 _).1 hc; omega
    unfold ige at this; unfold ilt
    simp only [ge_iff_le, decide_eq_true_eq] at this ⊢
    omega
  · unfold hvV; rw [h, cond_true]
    unfold hvZ
    split
    · exact Or.inr rfl
    · exact Or.inl rfl

theorem mul4 (a b c d : Int) : a * b * (c * d) = a * c * (b * d) := by rw [Int.mul_assoc, Int.mul_left_comm b, ← Int.mul_assoc]
theorem isq_sq {x : Int} (h : 0 ≤ x) : isq (x * x) = x := by
  have h0 := Int.mul_nonneg h h
  have := (le_isq h0 h).2 (Int.le_refl _)
  obtain ⟨h1, h2, h3⟩ := isq_spec h0
  by_cases hc : isq (x * x) ≤ x
  · omega
  · have := Int.mul_le_mul (by omega : x + 1 ≤ isq (x * x)) (by omega : x + 1 ≤ isq (x * x)) (by omega) h1
    have e : (x + 1) * (x + 1) = x * x + 2 * x + 1 := by rw [Int.add_mul, Int.mul_add]; omega
    omega

/-- the nearest integer, by the whole part alone -/
theorem hv_whole {p q r d s : Int} (hs : 0 ≤ s) (hS : q * q * r = s * s) (hd : 0 < d) : hvZ p q r d = if (2 * ((p + s) / d) + 1) * d ≤ 2 * (p + s) then (p + s) / d + 1 else (p + s) / d := by
  have e1 : isq (q * q * r) = s := by rw [hS]; exact isq_sq hs
  have e2 : (2 * q) * (2 * q) * r = (2 * s) * (2 * s) := by
    rw [show (2 * q) * (2 * q) * r = 4 * (q * q * r) by
      rw [show (2 * q) * (2 * q) = 4 * (q * q) by rw [mul4]; rfl, Int.mul_assoc], hS, mul4]; rfl
  have e3 : isq ((2 * q) * (2 * q) * r) = 2 * s := by rw [e2]; exact isq_sq (by omega)
  have hS2 : 0 ≤ (2 * q) * (2 * q) * r := by rw [e2]; exact Int.mul_nonneg (by omega) (by omega)
  unfold hvZ flZ
  rw [e1]
  have := ordZ_ge (p := 2 * p) (m := (2 * ((p + s) / d) + 1) * d) hS2
  rw [e3] at this
  by_cases hc : (2 * ((p + s) / d) + 1) * d ≤ 2 * (p + s)
  · rw [if_pos (this.2 (by omega)), if_pos hc]
  · rw [if_neg (fun h => hc (by have := this.1 h; omega)), if_neg hc]

theorem hlf_int {n d : Int} (hn : 0 ≤ n) (hd : 0 < d) : hlf n d = if (2 * (n / d) + 1) * d ≤ 2 * n then n / d + 1 else n / d := by
  obtain ⟨a, rfl⟩ : ∃ a : Nat, n = a := ⟨n.toNat, by omega⟩
  obtain ⟨b, rfl⟩ : ∃ b : Nat, d = b := ⟨d.toNat, by omega⟩
  unfold hlf half
  simp only [Int.toNat_natCast]
  rw [if_neg (by omega)]
  have h1 := Nat.div_add_mod a b
  have h2 := Nat.mod_lt a (by omega : 0 < b)
  have e1 : ((a : Int) / (b : Int)) = ((a / b : Nat) : Int) := by simp
  have e2 : (2 * ((a / b : Nat) : Int) + 1) * (b : Int) = (((2 * (a / b) + 1) * b : Nat) : Int) := by simp
  rw [e1, e2]
  have e3 : (2 * (a / b) + 1) * b = 2 * (b * (a / b)) + b := by rw [Nat.add_mul, Nat.one_mul, Nat.mul_assoc, Nat.mul_comm (a / b)]
  rw [e3]
  generalize b * (a / b) = z at *
  by_cases hc : b - a % b ≤ a % b
  · rw [if_pos hc, if_pos (by omega)]; rfl
  · rw [if_neg hc, if_neg (by omega)]

theorem cmpZ_scale {a b m : Int} (hm : 0 < m) : cmpZ (m * a) (m * b) = cmpZ a b := by
  unfold cmpZ
  simp only [Int.mul_lt_mul_left hm]
  by_cases h : a < b
  · rw [if_pos h, if_pos h]
  · rw [if_neg h, if_neg h]
    by_cases h2 : a = b
    · rw [if_pos h2, if_pos (by rw [h2])]
    · rw [if_neg h2, if_neg (fun hc => h2 (Int.eq_of_mul_eq_mul_left (by omega) hc))]

theorem ordZ_scale {p q r x m : Int} (hm : 0 < m) : ordZ (m * p) (m * q) r (m * x) = ordZ p q r x := by
  unfold ordZ
  simp only [Int.mul_lt_mul_left hm]
  have e1 : m * q * (m * q) * r = (m * m) * (q * q * r) := by rw [mul4, Int.mul_assoc]
  have e2 : (m * x - m * p) * (m * x - m * p) = (m * m) * ((x - p) * (x - p)) := by rw [← Int.mul_sub, mul4]
  rw [e1, e2, cmpZ_scale (Int.mul_pos hm hm)]

theorem fl_scale {p q r d m : Int} (hm : 0 < m) (hS : 0 ≤ q * q * r) (hd : 0 < d) : flZ (m * p) (m * q) r (m * d) = flZ p q r d := by
  have hS2 : 0 ≤ m * q * (m * q) * r := by
    rw [show m * q * (m * q) * r = (m * m) * (q * q * r) by rw [mul4, Int.mul_assoc]]
    exact Int.mul_nonneg (Int.le_of_lt (Int.mul_pos hm hm)) hS
  have k : ∀ n, n ≤ flZ (m * p) (m * q) r (m * d) ↔ n ≤ flZ p q r d := fun n => by
    rw [← ord_fl hS2 (Int.mul_pos hm hd), ← ord_fl hS hd, Int.mul_left_comm n m d, ordZ_scale hm]
  exact Int.le_antisymm ((k _).1 (Int.le_refl _)) ((k _).2 (Int.le_refl _))

theorem hv_scale {p q r d m : Int} (hm : 0 < m) (hS : 0 ≤ q * q * r) (hd : 0 < d) : hvZ (m * p) (m * q) r (m * d) = hvZ p q r d := by
  unfold hvZ
  rw [fl_scale hm hS hd, Int.mul_left_comm 2 m p, Int.mul_left_comm 2 m q, Int.mul_left_comm _ m d, ordZ_scale hm]

end Go.Proofs.Ytjieldpnnopljaa
namespace Go.Proofs.Ytjieldpnnopljaa
open Go.RowKit PR
set_option linter.unusedVariables false

-- SPEC smV smOk pvB t16 t8 nr5 pmV stV gsV gpF gpA gpC in16 gxMax hlf gmod modOk inU
def smV (b : Int) : Int := if b = 8 then 255 else if b = 16 then 65535 else 0
def smOk (b : Int) : Bool := decide (b = 8 ∨ b = 16)
/-- are the samples of a pixel in order? -/
def pvB (c0 c1 c2 a f m : Int) : Bool := decide (c0 ≤ a ∧ c1 ≤ a ∧ c2 ≤ a ∧ a ≤ f ∧ f ≤ m)
def t16 (v : Int) : Int := if v ≤ 255 then 257 * v else 65535
def t8 (v : Int) : Int := (510 * v + 65535) / 131070
/-- the integer nearest to x * y / d, as 16 bits -/
def nr5 (x y d : Int) : Int := iconv .u16 (hlf (imul .u64 (iconv .u64 x) (iconv .u64 y)) (iconv .u64 d))
def pmV (c a m : Int) : Int := nr5 (iimin c m) (iimin a m) m
def stV (c a m : Int) : Int := nr5 (iimin c a) m a
/-- the generator's sample -/
def gsV (n m : Int) : Int :=
  bif ieq (gmod n 8) 0 then 0 else bif ieq (gmod n 8) 1 then m else bif ieq (gmod n 8) 2 then m
  else bif ieq (gmod n 8) 3 then iconv .u16 (iquo .i64 (iadd .i64 (iconv .i64 m) (gmod (iquo .i64 n 8) 2)) 2)
  else bif ieq (gmod n 8) 4 then iconv .u16 (iimin (iconv .i64 m) (gmod (iquo .i64 n 8) 4))
  else iconv .u16 (gmod (iquo .i64 n 8) (iadd .i64 (iconv .i64 m) 1))
def gpF (n4 m : Int) : Int := gsV n4 m
def gpA (n3 n4 m : Int) : Int := bif igt (gmod n3 3) 0 then gsV (iquo .i64 n3 3) (gpF n4 m) else gpF n4 m
def gpC (n n3 n4 m : Int) : Int := gsV n (gpA n3 n4 m)

def s_smax : List Value → Option (Value × List Bool)
  | [.int .i64 b] => some (.tuple #[.int .u16 (smV b), .bool (smOk b)], [])
  | _ => none
def s_pvalid : List Value → Option (Value × List Bool)
  | [.agg ⟨[.int .u16 c0, .int .u16 c1, .int .u16 c2, .int .u16 a, .int .u16 f]⟩, .int .u16 m] => some (.bool (pvB c0 c1 c2 a f m), [])
  | _ => none
def s_to16 : List Value → Option (Value × List Bool)
  | [.int .u16 v] => some (.int .u16 (t16 v), [in16 v])
  | _ => none
def s_to8 : List Value → Option (Value × List Bool)
  | [.int .u16 v] => some (.int .u16 (t8 v), [in16 v])
  | _ => none
def s_widen : List Value → Option (Value × List Bool)
  | [.agg ⟨[.int .u16 c0, .int .u16 c1, .int .u16 c2, .int .u16 a, .int .u16 f]⟩] => some (.agg #[.int .u16 (t16 c0), .int .u16 (t16 c1), .int .u16 (t16 c2), .int .u16 (t16 a), .int .u16 (t16 f)], [in16 c0, in16 c1, in16 c2, in16 a, in16 f])
  | _ => none
def s_narrow : List Value → Option (Value × List Bool)
  | [.agg ⟨[.int .u16 c0, .int .u16 c1, .int .u16 c2, .int .u16 a, .int .u16 f]⟩] => some (.agg #[.int .u16 (t8 c0), .int .u16 (t8 c1), .int .u16 (t8 c2), .int .u16 (t8 a), .int .u16 (t8 f)], [in16 c0, in16 c1, in16 c2, in16 a, in16 f])
  | _ => none
def s_nearest5 : List Value → Option (Value × List Bool)
  | [.int .u16 x, .int .u16 y, .int .u16 d] => some (.int .u16 (nr5 x y d), [])
  | _ => none
def s_premul : List Value → Option (Value × List Bool)
  | [.int .u16 c, .int .u16 a, .int .u16 m] => some (.int .u16 (pmV c a m), [])
  | _ => none
def s_straight : List Value → Option (Value × List Bool)
  | [.int .u16 c, .int .u16 a, .int .u16 m] => some (.int .u16 (stV c a m), [])
  | _ => none
def s_by65535 : List Value → Option (Value × List Bool)
  | [.int .u64 n] => some (.int .u64 (hlf n 65535), [inU n])
  | _ => none
def s_gsample : List Value → Option (Value × List Bool)
  | [.int .i64 n, .int .u16 m] => some (.int .u16 (gsV n m), [in16 m])
  | _ => none
def s_galpha : List Value → Option (Value × List Bool)
  | [.int .i64 c, .int .i64 a, .int .u16 m] => some (.tuple #[.int .u16 (gsV c (gsV a m)), .int .u16 (gsV a m)], [in16 m])
  | _ => none
def s_gpixel : List Value → Option (Value × List Bool)
  | [.agg ⟨[.int .i64 n0, .int .i64 n1, .int .i64 n2, .int .i64 n3, .int .i64 n4]⟩, .int .u16 m] => some (.agg #[.int .u16 (gpC n0 n3 n4 m), .int .u16 (gpC n1 n3 n4 m), .int .u16 (gpC n2 n3 n4 m), .int .u16 (gpA n3 n4 m), .int .u16 (gpF n4 m)], [in16 m])
  | _ => none


end Go.Proofs.Ytjieldpnnopljaa
namespace Go.Proofs.Ytjieldpnnopljaa
open Go.RowKit PR
set_option linter.unusedVariables false

theorem in16_iff {a : Int} : in16 a = true ↔ 0 ≤ a ∧ a < 65536 := by simp [in16]
theorem u16_id {a : Int} (h : 0 ≤ a) (k : a < 65536) : iconv .u16 a = a := by unfold iconv; rw [IntKind.wrap_u16]; omega
theorem u64_id {a : Int} (h : 0 ≤ a) (k : a < 18446744073709551616) : iconv .u64 a = a := by unfold iconv; rw [IntKind.wrap_u64]; omega
theorem i64_id {a : Int} (h : 0 ≤ a) (k : a < 9223372036854775808) : iconv .i64 a = a := by unfold iconv; exact IntWalk.i64_in _ (by omega)
theorem inU_mul (a b : Int) : inU (imul .u64 a b) = true := by rw [inU_iff]; unfold imul; rw [IntKind.wrap_u64]; omega
theorem inU_conv (a : Int) : inU (iconv .u64 a) = true := by rw [inU_iff]; unfold iconv; rw [IntKind.wrap_u64]; omega
theorem inU_lit {a : Int} (h : 0 ≤ a) (k : a < 18446744073709551616) : inU a = true := by rw [inU_iff]; exact ⟨h, k⟩
theorem in16_conv (a : Int) : in16 (iconv .u16 a) = true := by rw [in16_iff]; unfold iconv; rw [IntKind.wrap_u16]; omega
theorem mul16 {a b : Int} (h1 : 0 ≤ a) (h2 : a < 65536) (h3 : 0 ≤ b) (h4 : b < 65536) : 0 ≤ a * b ∧ a * b ≤ 4294836225 := by
  have := Int.mul_le_mul (by omega : a ≤ 65535) (by omega : b ≤ 65535) h3 (by decide)
  exact ⟨Int.mul_nonneg h1 h3, by omega⟩
theorem imul16 {a b : Int} (h1 : 0 ≤ a) (h2 : a < 65536) (h3 : 0 ≤ b) (h4 : b < 65536) : imul .u64 (iconv .u64 a) (iconv .u64 b) = a * b := by
  have := mul16 h1 h2 h3 h4
  rw [u64_id h1 (by omega), u64_id h3 (by omega)]
  unfold imul; rw [IntKind.wrap_u64]; omega

/-- the nearest integer, in closed form -/
theorem half_div (n d : Nat) (h : 0 < d) : half n d = (2 * n + d) / (2 * d) := by
  have e := Nat.div_add_mod n d
  have l := Nat.mod_lt n h
  symm
  unfold half
  rw [if_neg (by omega)]
  generalize n / d = q at *
  generalize n % d = r at *
  have a1 : q * (2 * d) = 2 * (d * q) := by rw [Nat.mul_comm d q, ← Nat.mul_assoc, Nat.mul_comm q 2, Nat.mul_assoc]
  split
  · apply Nat.div_eq_of_lt_le
    · simp only [Nat.add_mul, a1]; omega
    · simp only [Nat.add_mul, a1]; omega
  · apply Nat.div_eq_of_lt_le
    · rw [a1]; omega
    · show 2 * n + d < (q + 1) * (2 * d)
      rw [Nat.add_mul, a1]; omega
theorem hlf_div {n d : Int} (hn : 0 ≤ n) (hd : 0 < d) : hlf n d = (2 * n + d) / (2 * d) := by
  unfold hlf
  rw [half_div _ _ (by omega)]
  simp only [Int.natCast_ediv, Int.natCast_add, Int.natCast_mul]
  rw [Int.toNat_of_nonneg hn, Int.toNat_of_nonneg (by omega)]
  rfl
theorem hlf_zero (n : Int) : hlf n 0 = 0 := by unfold hlf half; simp

theorem smax_eq (b : Int) : (b = 8 ∧ smV b = 255 ∧ smOk b = true) ∨ (b = 16 ∧ smV b = 65535 ∧ smOk b = true) ∨ (b ≠ 8 ∧ b ≠ 16 ∧ smV b = 0 ∧ smOk b = false) := by
  by_cases h : b = 8
  · subst h; exact Or.inl ⟨rfl, rfl, rfl⟩
  · by_cases k : b = 16
    · subst k; exact Or.inr (Or.inl ⟨rfl, rfl, rfl⟩)
    · exact Or.inr (Or.inr ⟨h, k, by unfold smV; rw [if_neg h, if_neg k], decide_eq_false (by omega)⟩)
theorem boolV {a b : Bool} (h : a = b) : Value.bool a = Value.bool b := by rw [h]
theorem intV {k : IntKind} {a b : Int} (h : a = b) : Value.int k a = Value.int k b := by rw [h]
theorem t8_hlf {v : Int} (h : in16 v = true) : iconv .u16 (hlf (imul .u64 (iconv .u64 v) 255) 65535) = t8 v := by
  rw [in16_iff] at h
  have e : imul .u64 (iconv .u64 v) 255 = v * 255 := by rw [u64_id h.1 (by omega)]; unfold imul; rw [IntKind.wrap_u64]; omega
  rw [e, hlf_div (by omega) (by decide)]
  unfold t8
  rw [u16_id (by omega) (by omega)]
  omega
theorem gmod_range (n : Int) {k : Int} (h : 0 < k) : 0 ≤ gmod n k ∧ gmod n k < k := by
  unfold gmod; exact ⟨Int.emod_nonneg _ (by omega), Int.emod_lt_of_pos _ h⟩
theorem gsV_range (n : Int) {m : Int} (h : in16 m = true) : 0 ≤ gsV n m ∧ gsV n m ≤ m := by
  rw [in16_iff] at h
  have em : iconv .i64 m = m := i64_id h.1 (by omega)
  unfold gsV
  simp only [Bool.cond_eq_ite]
  split
  · omega
  split
  · omega
  split
  · omega
  split
  · have g := gmod_range (iquo .i64 n 8) (k := 2) (by decide)
    generalize gmod (iquo .i64 n 8) 2 = z at *
    have e1 : iadd .i64 (iconv .i64 m) z = m + z := by
      rw [em]; unfold iadd; exact IntWalk.i64_in _ (by omega)
    have e2 : iquo .i64 (m + z) 2 = (m + z) / 2 := by
      unfold iquo; rw [Int.tdiv_eq_ediv_of_nonneg (by omega)]; exact IntWalk.i64_in _ (by omega)
    rw [e1, e2, u16_id (by omega) (by omega)]
    omega
  split
  · have g := gmod_range (iquo .i64 n 8) (k := 4) (by decide)
    have e1 : 0 ≤ iimin m (gmod (iquo .i64 n 8) 4) ∧ iimin m (gmod (iquo .i64 n 8) 4) ≤ m := by unfold iimin; split <;> omega
    rw [em, u16_id (by omega) (by omega)]
    omega
  · have e1 : iadd .i64 (iconv .i64 m) 1 = m + 1 := by
      rw [em]; unfold iadd; exact IntWalk.i64_in _ (by omega)
    have g := gmod_range (iquo .i64 n 8) (k := m + 1) (by omega)
    rw [e1, u16_id (by omega) (by omega)]
    omega
theorem gsV_in16 (n : Int) {m : Int} (h : in16 m = true) : in16 (gsV n m) = true := by
  have := gsV_range n h
  rw [in16_iff] at *
  omega
theorem modOk_lit {k : Int} (h : 1 ≤ k) (h' : k ≤ 65536) : modOk k = true := decide_eq_true (by omega)
theorem gpF_in16 (n4 : Int) {m : Int} (h : in16 m = true) : in16 (gpF n4 m) = true := gsV_in16 _ h
theorem gpA_range (n3 n4 : Int) {m : Int} (h : in16 m = true) : 0 ≤ gpA n3 n4 m ∧ gpA n3 n4 m ≤ gpF n4 m := by
  have k := gpF_in16 n4 h
  unfold gpA
  simp only [Bool.cond_eq_ite]
  split
  · exact gsV_range _ k
  · rw [in16_iff] at k; omega
theorem gpA_in16 (n3 n4 : Int) {m : Int} (h : in16 m = true) : in16 (gpA n3 n4 m) = true := by
  have := gpA_range n3 n4 h
  have k := gpF_in16 n4 h
  rw [in16_iff] at *
  omega
theorem gpC_range (n n3 n4 : Int) {m : Int} (h : in16 m = true) : 0 ≤ gpC n n3 n4 m ∧ gpC n n3 n4 m ≤ gpA n3 n4 m := gsV_range _ (gpA_in16 n3 n4 h)
theorem gpC_in16 (n n3 n4 : Int) {m : Int} (h : in16 m = true) : in16 (gpC n n3 n4 m) = true := gsV_in16 _ (gpA_in16 n3 n4 h)
/-- the generator's pixels are valid -/
theorem gp_valid (n0 n1 n2 n3 n4 : Int) {m : Int} (h : in16 m = true) : pvB (gpC n0 n3 n4 m) (gpC n1 n3 n4 m) (gpC n2 n3 n4 m) (gpA n3 n4 m) (gpF n4 m) m = true := by
  have a0 := gpC_range n0 n3 n4 h
  have a1 := gpC_range n1 n3 n4 h
  have a2 := gpC_range n2 n3 n4 h
  have a3 := gpA_range n3 n4 h
  have a4 : 0 ≤ gpF n4 m ∧ gpF n4 m ≤ m := gsV_range n4 h
  exact decide_eq_true (by omega)
end Go.Proofs.Ytjieldpnnopljaa
