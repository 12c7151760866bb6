/-
  What the functions of layers 1 and 2 and of their specification answer, on integers: the answers that the pure way of running takes for their calls.
-/
import Derived.Test.YtafaadnjkkkafaaDoorO
import Derived.Test.YtafaadnjkkkafaaDoorPx
namespace Go.Proofs.YtafaadnjkkkafaaDoor
open Go.RowKit PR
set_option linter.unusedVariables false

-- SPEC inU w2 wmH wmL waOk waH waL wsOk wsH wsL wkOk wkH wkL wcmp wqH wqL wqR hlf gmod ilen
def inU (a : Int) : Bool := decide (0 ≤ a ∧ a < 18446744073709551616)
def w2 (h l : Int) : Int := h * 18446744073709551616 + l
def hi64 (n : Int) : Int := n / 18446744073709551616
def lo64 (n : Int) : Int := n % 18446744073709551616
def wmH (a b : Int) : Int := hi64 (a * b)
def wmL (a b : Int) : Int := lo64 (a * b)
def waOk (ah al bh bl : Int) : Bool := decide (w2 ah al + w2 bh bl < 340282366920938463463374607431768211456)
def waH (ah al bh bl : Int) : Int := bif waOk ah al bh bl then hi64 (w2 ah al + w2 bh bl) else 0
def waL (ah al bh bl : Int) : Int := bif waOk ah al bh bl then lo64 (w2 ah al + w2 bh bl) else 0
def wsOk (ah al bh bl : Int) : Bool := decide (w2 bh bl ≤ w2 ah al)
def wsH (ah al bh bl : Int) : Int := bif wsOk ah al bh bl then hi64 (w2 ah al - w2 bh bl) else 0
def wsL (ah al bh bl : Int) : Int := bif wsOk ah al bh bl then lo64 (w2 ah al - w2 bh bl) else 0
def wkOk (ah al k : Int) : Bool := decide (w2 ah al * k < 340282366920938463463374607431768211456)
def wkH (ah al k : Int) : Int := bif wkOk ah al k then hi64 (w2 ah al * k) else 0
def wkL (ah al k : Int) : Int := bif wkOk ah al k then lo64 (w2 ah al * k) else 0
def wcmp (ah al bh bl : Int) : Int := if w2 ah al < w2 bh bl then -1 else if w2 ah al = w2 bh bl then 0 else 1
def wqH (ah al d : Int) : Int := hi64 (w2 ah al / d)
def wqL (ah al d : Int) : Int := lo64 (w2 ah al / d)
def wqR (ah al d : Int) : Int := w2 ah al % d
def hlf (n d : Int) : Int := ((half n.toNat d.toNat : Nat) : Int)
def gmod (n k : Int) : Int := n % k
def modOk (k : Int) : Bool := decide (1 ≤ k ∧ k ≤ 4611686018427387904)
def ilen (n : Int) : Int := ((Lib.bitLenAux 64 n.toNat : Nat) : Int)

def s_of : List Value → Option (Value × List Bool)
  | [.int .u64 n] => some (.agg #[.int .u64 0, .int .u64 n], [inU n])
  | _ => none
def s_mul : List Value → Option (Value × List Bool)
  | [.int .u64 a, .int .u64 b] => some (.agg #[.int .u64 (wmH a b), .int .u64 (wmL a b)], [inU a, inU b])
  | _ => none
def s_add : List Value → Option (Value × List Bool)
  | [.agg ⟨[.int .u64 a, .int .u64 b]⟩, .agg ⟨[.int .u64 c, .int .u64 d]⟩] => some (.tuple #[.agg #[.int .u64 (waH a b c d), .int .u64 (waL a b c d)], .bool (waOk a b c d)], [inU a, inU b, inU c, inU d])
  | _ => none
def s_sub : List Value → Option (Value × List Bool)
  | [.agg ⟨[.int .u64 a, .int .u64 b]⟩, .agg ⟨[.int .u64 c, .int .u64 d]⟩] => some (.tuple #[.agg #[.int .u64 (wsH a b c d), .int .u64 (wsL a b c d)], .bool (wsOk a b c d)], [inU a, inU b, inU c, inU d])
  | _ => none
def s_mulsmall : List Value → Option (Value × List Bool)
  | [.agg ⟨[.int .u64 a, .int .u64 b]⟩, .int .u64 k] => some (.tuple #[.agg #[.int .u64 (wkH a b k), .int .u64 (wkL a b k)], .bool (wkOk a b k)], [inU a, inU b, inU k])
  | _ => none
def s_cmp : List Value → Option (Value × List Bool)
  | [.agg ⟨[.int .u64 a, .int .u64 b]⟩, .agg ⟨[.int .u64 c, .int .u64 d]⟩] => some (.int .i64 (wcmp a b c d), [inU a, inU b, inU c, inU d])
  | _ => none
def s_divmod : List Value → Option (Value × List Bool)
  | [.agg ⟨[.int .u64 a, .int .u64 b]⟩, .int .u64 d] => some (.tuple #[.agg #[.int .u64 (wqH a b d), .int .u64 (wqL a b d)], .int .u64 (wqR a b d), .bool true], [inU a, inU b, inU d, ine d 0])
  | _ => none
def s_half : List Value → Option (Value × List Bool)
  | [.int .u64 n, .int .u64 d] => some (.int .u64 (hlf n d), [inU n, inU d])
  | _ => none
def s_mod : List Value → Option (Value × List Bool)
  | [.int .i64 n, .int .i64 k] => some (.int .i64 (gmod n k), [modOk k])
  | _ => none
def s_len64 : List Value → Option (Value × List Bool)
  | [.int .u64 n] => some (.int .i64 (ilen n), [inU n])
  | _ => none

/-- f answers what s says -/
def Answers (f : Nat) (s : List Value → Option (Value × List Bool)) : Prop := AnswersP Tryd.prog f s

theorem inU_iff {a : Int} : inU a = true ↔ 0 ≤ a ∧ a < 18446744073709551616 := by simp [inU]
theorem inU_nat {a : Int} (h : inU a = true) : ∃ n : Nat, a = n ∧ n < 18446744073709551616 := by
  have := inU_iff.1 h
  exact ⟨a.toNat, by omega, by omega⟩
theorem hilo_nat {n hi lo : Nat} (h : Word2 n hi lo) : hi64 n = hi ∧ lo64 n = lo := by
  obtain ⟨h1, h2, h3⟩ := h
  unfold hi64 lo64
  omega
theorem w2_nat (a b : Nat) : w2 a b = ((a * 18446744073709551616 + b : Nat) : Int) := by unfold w2; omega
theorem hilo_range (n : Int) (h : 0 ≤ n) (k : n < 340282366920938463463374607431768211456) : inU (hi64 n) = true ∧ inU (lo64 n) = true ∧ w2 (hi64 n) (lo64 n) = n := by
  rw [inU_iff, inU_iff]; unfold hi64 lo64 w2; omega
theorem w2_range {a b : Int} (h : inU a = true) (k : inU b = true) : 0 ≤ w2 a b ∧ w2 a b < 340282366920938463463374607431768211456 := by
  rw [inU_iff] at *; unfold w2; omega
theorem inU_lo (n : Int) : inU (lo64 n) = true := by rw [inU_iff]; unfold lo64; omega
theorem mul_range {a b : Int} (h : inU a = true) (k : inU b = true) : 0 ≤ a * b ∧ a * b < 340282366920938463463374607431768211456 := by
  rw [inU_iff] at *
  have h1 := Int.mul_nonneg h.1 k.1
  have h2 := Int.mul_le_mul (by omega : a ≤ 18446744073709551615) (by omega : b ≤ 18446744073709551615) k.1 (by decide)
  omega
theorem wm_spec {a b : Int} (h : inU a = true) (k : inU b = true) : inU (wmH a b) = true ∧ inU (wmL a b) = true ∧ w2 (wmH a b) (wmL a b) = a * b := by
  have := mul_range h k
  exact hilo_range _ this.1 this.2
theorem wa_spec {a b c d : Int} (h1 : inU a = true) (h2 : inU b = true) (h3 : inU c = true) (h4 : inU d = true) : inU (waH a b c d) = true ∧ inU (waL a b c d) = true ∧ (waOk a b c d = true → w2 (waH a b c d) (waL a b c d) = w2 a b + w2 c d) := by
  have r1 := w2_range h1 h2
  have r2 := w2_range h3 h4
  unfold waH waL
  cases h : waOk a b c d
  · exact ⟨rfl, rfl, fun h => by simp at h⟩
  · have h := of_decide_eq_true h
    have := hilo_range (w2 a b + w2 c d) (by omega) h
    exact ⟨this.1, this.2.1, fun _ => this.2.2⟩
theorem ws_spec {a b c d : Int} (h1 : inU a = true) (h2 : inU b = true) (h3 : inU c = true) (h4 : inU d = true) : inU (wsH a b c d) = true ∧ inU (wsL a b c d) = true ∧ (wsOk a b c d = true → w2 (wsH a b c d) (wsL a b c d) = w2 a b - w2 c d) := by
  have r1 := w2_range h1 h2
  have r2 := w2_range h3 h4
  unfold wsH wsL
  cases h : wsOk a b c d
  · exact ⟨rfl, rfl, fun h => by simp at h⟩
  · have h := of_decide_eq_true h
    have := hilo_range (w2 a b - w2 c d) (by omega) (by omega)
    exact ⟨this.1, this.2.1, fun _ => this.2.2⟩
theorem wk_spec {a b k : Int} (h1 : inU a = true) (h2 : inU b = true) (h3 : inU k = true) : inU (wkH a b k) = true ∧ inU (wkL a b k) = true ∧ (wkOk a b k = true → w2 (wkH a b k) (wkL a b k) = w2 a b * k) := by
  have r1 := w2_range h1 h2
  unfold wkH wkL
  cases h : wkOk a b k
  · exact ⟨rfl, rfl, fun h => by simp at h⟩
  · have h := of_decide_eq_true h
    have := hilo_range (w2 a b * k) (Int.mul_nonneg r1.1 (inU_iff.1 h3).1) h
    exact ⟨this.1, this.2.1, fun _ => this.2.2⟩
theorem wq_spec {a b d : Int} (h1 : inU a = true) (h2 : inU b = true) (h3 : inU d = true) (h : 0 < d) : inU (wqH a b d) = true ∧ inU (wqL a b d) = true ∧ w2 (wqH a b d) (wqL a b d) = w2 a b / d ∧ inU (wqR a b d) = true := by
  have r1 := w2_range h1 h2
  have := hilo_range (w2 a b / d) (Int.ediv_nonneg r1.1 (by omega)) (Int.lt_of_le_of_lt (Int.ediv_le_self _ r1.1) r1.2)
  refine ⟨this.1, this.2.1, this.2.2, ?_⟩
  rw [inU_iff] at *
  have m1 := Int.emod_nonneg (w2 a b) (by omega : d ≠ 0)
  have m2 := Int.emod_lt_of_pos (w2 a b) h
  unfold wqR; omega
theorem mixed : Tryd.prog.follows .mixedOrders = true := by kernel_rfl

theorem a_of : Answers 64 s_of := by
  intro args v bs h hok
  unfold s_of at h
  split at h <;> try (simp at h; done)
  rename_i n
  simp only [Option.some.injEq, Prod.mk.injEq] at h
  obtain ⟨rfl, rfl⟩ := h
  obtain ⟨h1, _⟩ := hok
  obtain ⟨n, rfl, hn⟩ := inU_nat h1
  exact does_of_calls Tryd.func64 (by kernel_rfl) (by kernel_rfl) (fun w => wide_of n w)

theorem mul_of_calls {f : Nat} {fn : Func} (hf : Tryd.prog.funcs[f]? = some fn) (hn : (fn.name == "runtime.NumGoroutine") = false) (hb : fn.body = some (fn.body.getD .skip))
    (H : ∀ (a b : Nat), a < 18446744073709551616 → b < 18446744073709551616 → ∀ w, Calls Tryd.prog f #[.int .u64 a, .int .u64 b] w fun e w' => ∃ hi lo : Nat, e = .returned (.agg #[.int .u64 hi, .int .u64 lo]) ∧ Word2 (a * b) hi lo ∧ Below w.heap.size w w') : Answers f s_mul := by
  intro args v bs h hok
  unfold s_mul at h
  split at h <;> try (simp at h; done)
  simp only [Option.some.injEq, Prod.mk.injEq] at h
  obtain ⟨rfl, rfl⟩ := h
  obtain ⟨h1, h2, _⟩ := hok
  obtain ⟨a, rfl, ha⟩ := inU_nat h1
  obtain ⟨b, rfl, hb'⟩ := inU_nat h2
  refine does_of_calls hf hn hb fun w => (H a b ha hb' w).mono ?_
  rintro e w' ⟨p, q, rfl, k, hx⟩
  obtain ⟨e1, e2⟩ := hilo_nat k
  refine ⟨?_, hx⟩
  unfold wmH wmL
  rw [← Int.natCast_mul, e1, e2]
theorem a_mul : Answers 61 s_mul := mul_of_calls Tryd.func61 (by kernel_rfl) (by kernel_rfl) (fun a b ha hb w => wide_mul a b ha hb w)
theorem a_rmul : Answers 46 s_mul := mul_of_calls Tryd.func46 (by kernel_rfl) (by kernel_rfl) (fun a b ha hb w => ref_mul a b ha hb w)

theorem cmp_of_calls {f : Nat} {fn : Func} (hf : Tryd.prog.funcs[f]? = some fn) (hn : (fn.name == "runtime.NumGoroutine") = false) (hb : fn.body = some (fn.body.getD .skip))
    (H : ∀ (xh xl yh yl x y : Nat), Word2 x xh xl → Word2 y yh yl → ∀ w, Calls Tryd.prog f #[.agg #[.int .u64 xh, .int .u64 xl], .agg #[.int .u64 yh, .int .u64 yl]] w fun e w' => e = .returned (.int .i64 (cmp3 x y)) ∧ Below w.heap.size w w') : Answers f s_cmp := by
  intro args v bs h hok
  unfold s_cmp at h
  split at h <;> try (simp at h; done)
  simp only [Option.some.injEq, Prod.mk.injEq] at h
  obtain ⟨rfl, rfl⟩ := h
  obtain ⟨h1, h2, h3, h4, _⟩ := hok
  obtain ⟨a, rfl, ha⟩ := inU_nat h1
  obtain ⟨b, rfl, hb'⟩ := inU_nat h2
  obtain ⟨c, rfl, hc⟩ := inU_nat h3
  obtain ⟨d, rfl, hd⟩ := inU_nat h4
  refine does_of_calls hf hn hb fun w => (H a b c d _ _ ⟨rfl, hb', ha⟩ ⟨rfl, hd, hc⟩ w).mono ?_
  rintro e w' ⟨rfl, hx⟩
  refine ⟨?_, hx⟩
  unfold wcmp
  rw [w2_nat, w2_nat]
  unfold cmp3
  simp only [Int.ofNat_lt, Int.ofNat_inj]
theorem a_cmp : Answers 62 s_cmp := cmp_of_calls Tryd.func62 (by kernel_rfl) (by kernel_rfl) (fun _ _ _ _ _ _ hx hy w => wide_compare _ _ _ _ _ _ hx hy w)
theorem a_rcmp : Answers 47 s_cmp := cmp_of_calls Tryd.func47 (by kernel_rfl) (by kernel_rfl) (fun _ _ _ _ _ _ hx hy w => ref_compare _ _ _ _ _ _ hx hy w)

theorem add_of_calls {f : Nat} {fn : Func} (hf : Tryd.prog.funcs[f]? = some fn) (hn : (fn.name == "runtime.NumGoroutine") = false) (hb : fn.body = some (fn.body.getD .skip))
    (H : ∀ (xh xl yh yl x y : Nat), Word2 x xh xl → Word2 y yh yl → ∀ w, Calls Tryd.prog f #[.agg #[.int .u64 xh, .int .u64 xl], .agg #[.int .u64 yh, .int .u64 yl]] w fun e w' => AnsOf (x + y) e ∧ Below w.heap.size w w') : Answers f s_add := by
  intro args v bs h hok
  unfold s_add at h
  split at h <;> try (simp at h; done)
  simp only [Option.some.injEq, Prod.mk.injEq] at h
  obtain ⟨rfl, rfl⟩ := h
  obtain ⟨h1, h2, h3, h4, _⟩ := hok
  obtain ⟨a, rfl, ha⟩ := inU_nat h1
  obtain ⟨b, rfl, hb'⟩ := inU_nat h2
  obtain ⟨c, rfl, hc⟩ := inU_nat h3
  obtain ⟨d, rfl, hd⟩ := inU_nat h4
  refine does_of_calls hf hn hb fun w => (H a b c d _ _ ⟨rfl, hb', ha⟩ ⟨rfl, hd, hc⟩ w).mono ?_
  rintro e w' ⟨⟨hi, lo, t, rfl, k⟩, hx⟩
  refine ⟨?_, hx⟩
  unfold waH waL waOk
  rw [w2_nat, w2_nat, ← Int.natCast_add]
  rcases k with ⟨rfl, k⟩ | ⟨rfl, rfl, rfl, k⟩
  · obtain ⟨e1, e2⟩ := hilo_nat k
    have hlt := k.lt
    rw [e1, e2]
    have : decide (((a * 18446744073709551616 + b + (c * 18446744073709551616 + d) : Nat) : Int) < 340282366920938463463374607431768211456) = true := decide_eq_true (by omega)
    rw [this]; rfl
  · have : decide (((a * 18446744073709551616 + b + (c * 18446744073709551616 + d) : Nat) : Int) < 340282366920938463463374607431768211456) = false := decide_eq_false (by omega)
    rw [this]; rfl
theorem wide_add' (xh xl yh yl x y : Nat) (hx : Word2 x xh xl) (hy : Word2 y yh yl) (w : World) :
    Calls Tryd.prog 67 #[.agg #[.int .u64 xh, .int .u64 xl], .agg #[.int .u64 yh, .int .u64 yl]] w fun e w' => AnsOf (x + y) e ∧ Below w.heap.size w w' := by
  by_cases h : x + y < 340282366920938463463374607431768211456
  · exact (wide_add_yes xh xl yh yl x y hx hy h w).mono fun e w' ⟨hi, lo, e1, k, b⟩ => ⟨⟨hi, lo, true, e1, Or.inl ⟨rfl, k⟩⟩, b⟩
  · exact (wide_add_no xh xl yh yl x y hx hy h w).mono fun e w' ⟨e1, b⟩ => ⟨⟨0, 0, false, e1, Or.inr ⟨rfl, rfl, rfl, h⟩⟩, b⟩
theorem a_add : Answers 67 s_add := add_of_calls Tryd.func67 (by kernel_rfl) (by kernel_rfl) (fun _ _ _ _ _ _ hx hy w => wide_add' _ _ _ _ _ _ hx hy w)
theorem a_radd : Answers 49 s_add := add_of_calls Tryd.func49 (by kernel_rfl) (by kernel_rfl) (fun _ _ _ _ _ _ hx hy w => ref_add _ _ _ _ _ _ hx hy w)

theorem sub_of_calls {f : Nat} {fn : Func} (hf : Tryd.prog.funcs[f]? = some fn) (hn : (fn.name == "runtime.NumGoroutine") = false) (hb : fn.body = some (fn.body.getD .skip))
    (H : ∀ (xh xl yh yl x y : Nat), Word2 x xh xl → Word2 y yh yl → ∀ w, Calls Tryd.prog f #[.agg #[.int .u64 xh, .int .u64 xl], .agg #[.int .u64 yh, .int .u64 yl]] w fun e w' => DifOf x y e ∧ Below w.heap.size w w') : Answers f s_sub := by
  intro args v bs h hok
  unfold s_sub at h
  split at h <;> try (simp at h; done)
  simp only [Option.some.injEq, Prod.mk.injEq] at h
  obtain ⟨rfl, rfl⟩ := h
  obtain ⟨h1, h2, h3, h4, _⟩ := hok
  obtain ⟨a, rfl, ha⟩ := inU_nat h1
  obtain ⟨b, rfl, hb'⟩ := inU_nat h2
  obtain ⟨c, rfl, hc⟩ := inU_nat h3
  obtain ⟨d, rfl, hd⟩ := inU_nat h4
  refine does_of_calls hf hn hb fun w => (H a b c d _ _ ⟨rfl, hb', ha⟩ ⟨rfl, hd, hc⟩ w).mono ?_
  rintro e w' ⟨⟨hi, lo, t, rfl, k⟩, hx⟩
  refine ⟨?_, hx⟩
  unfold wsH wsL wsOk
  rw [w2_nat, w2_nat]
  rcases k with ⟨rfl, k, kl⟩ | ⟨rfl, rfl, rfl, k⟩
  · obtain ⟨e1, e2⟩ := hilo_nat k
    rw [← Int.ofNat_sub kl, e1, e2]
    have : decide (((c * 18446744073709551616 + d : Nat) : Int) ≤ ((a * 18446744073709551616 + b : Nat) : Int)) = true := decide_eq_true (by omega)
    rw [this]; rfl
  · have : decide (((c * 18446744073709551616 + d : Nat) : Int) ≤ ((a * 18446744073709551616 + b : Nat) : Int)) = false := decide_eq_false (by omega)
    rw [this]; rfl
theorem a_sub : Answers 65 s_sub := sub_of_calls Tryd.func65 (by kernel_rfl) (by kernel_rfl) (fun _ _ _ _ _ _ hx hy w => wide_sub _ _ _ _ _ _ hx hy w)
theorem a_rsub : Answers 35 s_sub := sub_of_calls Tryd.func35 (by kernel_rfl) (by kernel_rfl) (fun _ _ _ _ _ _ hx hy w => ref_sub _ _ _ _ _ _ hx hy w)

theorem mulsmall_of_calls {f : Nat} {fn : Func} (hf : Tryd.prog.funcs[f]? = some fn) (hn : (fn.name == "runtime.NumGoroutine") = false) (hb : fn.body = some (fn.body.getD .skip))
    (H : ∀ (ah al n k : Nat), Word2 n ah al → k < 18446744073709551616 → ∀ w, Calls Tryd.prog f #[.agg #[.int .u64 ah, .int .u64 al], .int .u64 k] w fun e w' => AnsOf (n * k) e ∧ Below w.heap.size w w') : Answers f s_mulsmall := by
  intro args v bs h hok
  unfold s_mulsmall at h
  split at h <;> try (simp at h; done)
  simp only [Option.some.injEq, Prod.mk.injEq] at h
  obtain ⟨rfl, rfl⟩ := h
  obtain ⟨h1, h2, h3, _⟩ := hok
  obtain ⟨a, rfl, ha⟩ := inU_nat h1
  obtain ⟨b, rfl, hb'⟩ := inU_nat h2
  obtain ⟨c, rfl, hc⟩ := inU_nat h3
  refine does_of_calls hf hn hb fun w => (H a b _ c ⟨rfl, hb', ha⟩ hc w).mono ?_
  rintro e w' ⟨⟨hi, lo, t, rfl, k⟩, hx⟩
  refine ⟨?_, hx⟩
  unfold wkH wkL wkOk
  rw [w2_nat, ← Int.natCast_mul]
  rcases k with ⟨rfl, k⟩ | ⟨rfl, rfl, rfl, k⟩
  · obtain ⟨e1, e2⟩ := hilo_nat k
    have hlt := k.lt
    rw [e1, e2]
    have : decide ((((a * 18446744073709551616 + b) * c : Nat) : Int) < 340282366920938463463374607431768211456) = true := decide_eq_true (by omega)
    rw [this]; rfl
  · have : decide ((((a * 18446744073709551616 + b) * c : Nat) : Int) < 340282366920938463463374607431768211456) = false := decide_eq_false (by omega)
    rw [this]; rfl
theorem a_mulsmall : Answers 51 s_mulsmall := mulsmall_of_calls Tryd.func51 (by kernel_rfl) (by kernel_rfl) (fun _ _ _ _ hn hk w => wide_mulsmall _ _ _ _ hn hk w)
theorem a_rmulsmall : Answers 45 s_mulsmall := mulsmall_of_calls Tryd.func45 (by kernel_rfl) (by kernel_rfl) (fun _ _ _ _ hn hk w => ref_mulsmall _ _ _ _ hn hk w)

theorem a_divmod : Answers 70 s_divmod := by
  intro args v bs h hok
  unfold s_divmod at h
  split at h <;> try (simp at h; done)
  simp only [Option.some.injEq, Prod.mk.injEq] at h
  obtain ⟨rfl, rfl⟩ := h
  obtain ⟨h1, h2, h3, h4, _⟩ := hok
  obtain ⟨a, rfl, ha⟩ := inU_nat h1
  obtain ⟨b, rfl, hb'⟩ := inU_nat h2
  obtain ⟨d, rfl, hd⟩ := inU_nat h3
  simp only [ine, bne_iff_ne, ne_eq] at h4
  refine does_of_calls Tryd.func70 (by kernel_rfl) (by kernel_rfl) fun w => (wide_divmod a b d _ ⟨rfl, hb', ha⟩ hd (by omega) w).mono ?_
  rintro e w' ⟨p, q, rfl, k, hx⟩
  obtain ⟨e1, e2⟩ := hilo_nat k
  refine ⟨?_, hx⟩
  unfold wqH wqL wqR
  rw [w2_nat, ← Int.natCast_ediv, ← Int.natCast_emod, e1, e2]

theorem a_mod : Answers 12 s_mod := by
  intro args v bs h hok
  unfold s_mod at h
  split at h <;> try (simp at h; done)
  simp only [Option.some.injEq, Prod.mk.injEq] at h
  obtain ⟨rfl, rfl⟩ := h
  obtain ⟨h3, _⟩ := hok
  obtain ⟨h1, h2⟩ := of_decide_eq_true h3
  refine does_of_calls Tryd.func12 (by kernel_rfl) (by kernel_rfl) fun w => (mod_any _ _ h1 h2 w).mono ?_
  rintro e w' ⟨rfl, rfl⟩
  exact ⟨rfl, Below.refl _ _⟩

theorem a_len64 : Answers 66 s_len64 := by
  intro args v bs h hok
  unfold s_len64 at h
  split at h <;> try (simp at h; done)
  simp only [Option.some.injEq, Prod.mk.injEq] at h
  obtain ⟨rfl, rfl⟩ := h
  obtain ⟨h1, _⟩ := hok
  have := inU_iff.1 h1
  refine does_of_calls Tryd.func66 (by kernel_rfl) (by kernel_rfl) fun w => (Tryd.bits_Len64 _ w (by omega) (by omega)).mono ?_
  rintro e w' ⟨rfl, rfl⟩
  exact ⟨rfl, Below.refl _ _⟩
end Go.Proofs.YtafaadnjkkkafaaDoor
