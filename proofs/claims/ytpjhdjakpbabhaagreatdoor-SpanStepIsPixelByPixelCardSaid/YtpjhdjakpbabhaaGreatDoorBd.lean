import Derived.Test.YtpjhdjakpbabhaaGreatDoorBb
import Derived.Test.YtpjhdjakpbabhaaGreatDoorBc
namespace Go.Proofs.YtpjhdjakpbabhaaGreatDoor
open Go.RowKit PR
set_option linter.unusedVariables false
def inU (a : Int) : Bool := decide (0 ≤ a ∧ a < 18446744073709551616)
def w2 (h l : Int) : Int := h * 18446744073709551616 + l
def hi64 (n : Int) : Int := n / 18446744073709551616
def lo64 (n : Int) : Int := n % 18446744073709551616
def wmH (a b : Int) : Int := hi64 (a * b)
def wmL (a b : Int) : Int := lo64 (a * b)
def waOk (ah al bh bl : Int) : Bool := decide (w2 ah al + w2 bh bl < 340282366920938463463374607431768211456)
def waH (ah al bh bl : Int) : Int := bif waOk ah al bh bl then hi64 (w2 ah al + w2 bh bl) else 0
def waL (ah al bh bl : Int) : Int := bif waOk ah al bh bl then lo64 (w2 ah al + w2 bh bl) else 0
def wsOk (ah al bh bl : Int) : Bool := decide (w2 bh bl ≤ w2 ah al)
def wsH (ah al bh bl : Int) : Int := bif wsOk ah al bh bl then hi64 (w2 ah al - w2 bh bl) else 0
def wsL (ah al bh bl : Int) : Int := bif wsOk ah al bh bl then lo64 (w2 ah al - w2 bh bl) else 0
def wkOk (ah al k : Int) : Bool := decide (w2 ah al * k < 340282366920938463463374607431768211456)
def wkH (ah al k : Int) : Int := bif wkOk ah al k then hi64 (w2 ah al * k) else 0
def wkL (ah al k : Int) : Int := bif wkOk ah al k then lo64 (w2 ah al * k) else 0
def wcmp (ah al bh bl : Int) : Int := if w2 ah al < w2 bh bl then -1 else if w2 ah al = w2 bh bl then 0 else 1
def wqH (ah al d : Int) : Int := hi64 (w2 ah al / d)
def wqL (ah al d : Int) : Int := lo64 (w2 ah al / d)
def wqR (ah al d : Int) : Int := w2 ah al % d
def hlf (n d : Int) : Int := ((half n.toNat d.toNat : Nat) : Int)
def gmod (n k : Int) : Int := n % k
def modOk (k : Int) : Bool := decide (1 ≤ k ∧ k ≤ 4611686018427387904)
def ilen (n : Int) : Int := ((Lib.bitLenAux 64 n.toNat : Nat) : Int)
def s_of : List Value → Option (Value × List Bool)
  | [.int .u64 n] => some (.agg #[.int .u64 0, .int .u64 n], [inU n])
  | _ => none
def s_mul : List Value → Option (Value × List Bool)
  | [.int .u64 a, .int .u64 b] => some (.agg #[.int .u64 (wmH a b), .int .u64 (wmL a b)], [inU a, inU b])
  | _ => none
def s_add : List Value → Option (Value × List Bool)
  | [.agg ⟨[.int .u64 a, .int .u64 b]⟩, .agg ⟨[.int .u64 c, .int .u64 d]⟩] => some (.tuple #[.agg #[.int .u64 (waH a b c d), .int .u64 (waL a b c d)], .bool (waOk a b c d)], [inU a, inU b, inU c, inU d])
  | _ => none
def s_sub : List Value → Option (Value × List Bool)
  | [.agg ⟨[.int .u64 a, .int .u64 b]⟩, .agg ⟨[.int .u64 c, .int .u64 d]⟩] => some (.tuple #[.agg #[.int .u64 (wsH a b c d), .int .u64 (wsL a b c d)], .bool (wsOk a b c d)], [inU a, inU b, inU c, inU d])
  | _ => none
def s_mulsmall : List Value → Option (Value × List Bool)
  | [.agg ⟨[.int .u64 a, .int .u64 b]⟩, .int .u64 k] => some (.tuple #[.agg #[.int .u64 (wkH a b k), .int .u64 (wkL a b k)], .bool (wkOk a b k)], [inU a, inU b, inU k])
  | _ => none
def s_cmp : List Value → Option (Value × List Bool)
  | [.agg ⟨[.int .u64 a, .int .u64 b]⟩, .agg ⟨[.int .u64 c, .int .u64 d]⟩] => some (.int .i64 (wcmp a b c d), [inU a, inU b, inU c, inU d])
  | _ => none
def s_divmod : List Value → Option (Value × List Bool)
  | [.agg ⟨[.int .u64 a, .int .u64 b]⟩, .int .u64 d] => some (.tuple #[.agg #[.int .u64 (wqH a b d), .int .u64 (wqL a b d)], .int .u64 (wqR a b d), .bool true], [inU a, inU b, inU d, ine d 0])
  | _ => none
def s_half : List Value → Option (Value × List Bool)
  | [.int .u64 n, .int .u64 d] => some (.int .u64 (hlf n d), [inU n, inU d])
  | _ => none
def s_mod : List Value → Option (Value × List Bool)
  | [.int .i64 n, .int .i64 k] => some (.int .i64 (gmod n k), [modOk k])
  | _ => none
def s_len64 : List Value → Option (Value × List Bool)
  | [.int .u64 n] => some (.int .i64 (ilen n), [inU n])
  | _ => none
def Answers (f : Nat) (s : List Value → Option (Value × List Bool)) : Prop := AnswersP Tryz.prog f s
theorem inU_iff {a : Int} : inU a = true ↔ 0 ≤ a ∧ a < 18446744073709551616 := by simp [inU]
theorem inU_nat {a : Int} (h : inU a = true) : ∃ n : Nat, a = n ∧ n < 18446744073709551616 := by
  have := inU_iff.1 h
  exact ⟨a.toNat, by omega, by omega⟩
theorem hilo_nat {n hi lo : Nat} (h : Word2 n hi lo) : hi64 n = hi ∧ lo64 n = lo := by
  obtain ⟨h1, h2, h3⟩ := h
  unfold hi64 lo64
  omega
theorem w2_nat (a b : Nat) : w2 a b = ((a * 18446744073709551616 + b : Nat) : Int) := by unfold w2; omega
theorem hilo_range (n : Int) (h : 0 ≤ n) (k : n < 340282366920938463463374607431768211456) : inU (hi64 n) = true ∧ inU (lo64 n) = true ∧ w2 (hi64 n) (lo64 n) = n := by
  rw [inU_iff, inU_iff]; unfold hi64 lo64 w2; omega
theorem w2_range {a b : Int} (h : inU a = true) (k : inU b = true) : 0 ≤ w2 a b ∧ w2 a b < 340282366920938463463374607431768211456 := by
  rw [inU_iff] at *; unfold w2; omega
theorem inU_lo (n : Int) : inU (lo64 n) = true := by rw [inU_iff]; unfold lo64; omega
theorem mul_range {a b : Int} (h : inU a = true) (k : inU b = true) : 0 ≤ a * b ∧ a * b < 340282366920938463463374607431768211456 := by
  rw [inU_iff] at *
  have h1 := Int.mul_nonneg h.1 k.1
  have h2 := Int.mul_le_mul (by omega : a ≤ 18446744073709551615) (by omega : b ≤ 18446744073709551615) k.1 (by decide)
  omega
theorem wm_spec {a b : Int} (h : inU a = true) (k : inU b = true) : inU (wmH a b) = true ∧ inU (wmL a b) = true ∧ w2 (wmH a b) (wmL a b) = a * b := by
  have := mul_range h k
  exact hilo_range _ this.1 this.2
theorem wa_spec {a b c d : Int} (h1 : inU a = true) (h2 : inU b = true) (h3 : inU c = true) (h4 : inU d = true) : inU (waH a b c d) = true ∧ inU (waL a b c d) = true ∧ (waOk a b c d = true → w2 (waH a b c d) (waL a b c d) = w2 a b + w2 c d) := by
  have r1 := w2_range h1 h2
  have r2 := w2_range h3 h4
  unfold waH waL
  cases h : waOk a b c d
  · exact ⟨rfl, rfl, fun h => by simp at h⟩
  · have h := of_decide_eq_true h
    have := hilo_range (w2 a b + w2 c d) (by omega) h
    exact ⟨this.1, this.2.1, fun _ => this.2.2⟩
theorem ws_spec {a b c d : Int} (h1 : inU a = true) (h2 : inU b = true) (h3 : inU c = true) (h4 : inU d = true) : inU (wsH a b c d) = true ∧ inU (wsL a b c d) = true ∧ (wsOk a b c d = true → w2 (wsH a b c d) (wsL a b c d) = w2 a b - w2 c d) := by
  have r1 := w2_range h1 h2
  have r2 := w2_range h3 h4
  unfold wsH wsL
  cases h : wsOk a b c d
  · exact ⟨rfl, rfl, fun h => by simp at h⟩
  · have h := of_decide_eq_true h
    have := hilo_range (w2 a b - w2 c d) (by omega) (by omega)
    exact ⟨this.1, this.2.1, fun _ => this.2.2⟩
theorem wk_spec {a b k : Int} (h1 : inU a = true) (h2 : inU b = true) (h3 : inU k = true) : inU (wkH a b k) = true ∧ inU (wkL a b k) = true ∧ (wkOk a b k = true → w2 (wkH a b k) (wkL a b k) = w2 a b * k) := by
  have r1 := w2_range h1 h2
  unfold wkH wkL
  cases h : wkOk a b k
  · exact ⟨rfl, rfl, fun h => by simp at h⟩
  · have h := of_decide_eq_true h
    have := hilo_range (w2 a b * k) (Int.mul_nonneg r1.1 (inU_iff.1 h3).1) h
    exact ⟨this.1, this.2.1, fun _ => this.2.2⟩
theorem wq_spec {a b d : Int} (h1 : inU a = true) (h2 : inU b = true) (h3 : inU d = true) (h : 0 < d) : inU (wqH a b d) = true ∧ inU (wqL a b d) = true ∧ w2 (wqH a b d) (wqL a b d) = w2 a b / d ∧ inU (wqR a b d) = true := by
  have r1 := w2_range h1 h2
  have := hilo_range (w2 a b / d) (Int.ediv_nonneg r1.1 (by omega)) (Int.lt_of_le_of_lt (Int.ediv_le_self _ r1.1) r1.2)
  refine ⟨this.1, this.2.1, this.2.2, ?_⟩
  rw [inU_iff] at *
  have m1 := Int.emod_nonneg (w2 a b) (by omega : d ≠ 0)
  have m2 := Int.emod_lt_of_pos (w2 a b) h
  unfold wqR; omega
theorem mixed : Tryz.prog.follows .mixedOrders = true := by kernel_rfl
theorem a_of : Answers 124 s_of := by
  intro args v bs h hok
  unfold s_of at h
  split at h <;> try (simp at h; done)
  rename_i n
  simp only [Option.some.injEq, Prod.mk.injEq] at h
  obtain ⟨rfl, rfl⟩ := h
  obtain ⟨h1, _⟩ := hok
  obtain ⟨n, rfl, hn⟩ := inU_nat h1
  exact does_of_calls Tryz.func124 (by kernel_rfl) (by kernel_rfl) (fun w => wide_of n w)
theorem mul_of_calls {f : Nat} {fn : Func} (hf : Tryz.prog.funcs[f]? = some fn) (hn : (fn.name == "runtime.NumGoroutine") = false) (hb : fn.body = some (fn.body.getD .skip))
    (H : ∀ (a b : Nat), a < 18446744073709551616 → b < 18446744073709551616 → ∀ w, Calls Tryz.prog f #[.int .u64 a, .int .u64 b] w fun e w' => ∃ hi lo : Nat, e = .returned (.agg #[.int .u64 hi, .int .u64 lo]) ∧ Word2 (a * b) hi lo ∧ Below w.heap.size w w') : Answers f s_mul := by
  intro args v bs h hok
  unfold s_mul at h
  split at h <;> try (simp at h; done)
  simp only [Option.some.injEq, Prod.mk.injEq] at h
  obtain ⟨rfl, rfl⟩ := h
  obtain ⟨h1, h2, _⟩ := hok
  obtain ⟨a, rfl, ha⟩ := inU_nat h1
  obtain ⟨b, rfl, hb'⟩ := inU_nat h2
  refine does_of_calls hf hn hb fun w => (H a b ha hb' w).mono ?_
  rintro e w' ⟨p, q, rfl, k, hx⟩
  obtain ⟨e1, e2⟩ := hilo_nat k
  refine ⟨?_, hx⟩
  unfold wmH wmL
  rw [← Int.natCast_mul, e1, e2]
theorem a_mul : Answers 117 s_mul := mul_of_calls Tryz.func117 (by kernel_rfl) (by kernel_rfl) (fun a b ha hb w => wide_mul a b ha hb w)
theorem cmp_of_calls {f : Nat} {fn : Func} (hf : Tryz.prog.funcs[f]? = some fn) (hn : (fn.name == "runtime.NumGoroutine") = false) (hb : fn.body = some (fn.body.getD .skip))
    (H : ∀ (xh xl yh yl x y : Nat), Word2 x xh xl → Word2 y yh yl → ∀ w, Calls Tryz.prog f #[.agg #[.int .u64 xh, .int .u64 xl], .agg #[.int .u64 yh, .int .u64 yl]] w fun e w' => e = .returned (.int .i64 (cmp3 x y)) ∧ Below w.heap.size w w') : Answers f s_cmp := by
  intro args v bs h hok
  unfold s_cmp at h
  split at h <;> try (simp at h; done)
  simp only [Option.some.injEq, Prod.mk.injEq] at h
  obtain ⟨rfl, rfl⟩ := h
  obtain ⟨h1, h2, h3, h4, _⟩ := hok
  obtain ⟨a, rfl, ha⟩ := inU_nat h1
  obtain ⟨b, rfl, hb'⟩ := inU_nat h2
  obtain ⟨c, rfl, hc⟩ := inU_nat h3
  obtain ⟨d, rfl, hd⟩ := inU_nat h4
  refine does_of_calls hf hn hb fun w => (H a b c d _ _ ⟨rfl, hb', ha⟩ ⟨rfl, hd, hc⟩ w).mono ?_
  rintro e w' ⟨rfl, hx⟩
  refine ⟨?_, hx⟩
  unfold wcmp
  rw [w2_nat, w2_nat]
  unfold cmp3
  simp only [Int.ofNat_lt, Int.ofNat_inj]
theorem a_cmp : Answers 122 s_cmp := cmp_of_calls Tryz.func122 (by kernel_rfl) (by kernel_rfl) (fun _ _ _ _ _ _ hx hy w => wide_compare _ _ _ _ _ _ hx hy w)
theorem add_of_calls {f : Nat} {fn : Func} (hf : Tryz.prog.funcs[f]? = some fn) (hn : (fn.name == "runtime.NumGoroutine") = false) (hb : fn.body = some (fn.body.getD .skip))
    (H : ∀ (xh xl yh yl x y : Nat), Word2 x xh xl → Word2 y yh yl → ∀ w, Calls Tryz.prog f #[.agg #[.int .u64 xh, .int .u64 xl], .agg #[.int .u64 yh, .int .u64 yl]] w fun e w' => AnsOf (x + y) e ∧ Below w.heap.size w w') : Answers f s_add := by
  intro args v bs h hok
  unfold s_add at h
  split at h <;> try (simp at h; done)
  simp only [Option.some.injEq, Prod.mk.injEq] at h
  obtain ⟨rfl, rfl⟩ := h
  obtain ⟨h1, h2, h3, h4, _⟩ := hok
  obtain ⟨a, rfl, ha⟩ := inU_nat h1
  obtain ⟨b, rfl, hb'⟩ := inU_nat h2
  obtain ⟨c, rfl, hc⟩ := inU_nat h3
  obtain ⟨d, rfl, hd⟩ := inU_nat h4
  refine does_of_calls hf hn hb fun w => (H a b c d _ _ ⟨rfl, hb', ha⟩ ⟨rfl, hd, hc⟩ w).mono ?_
  rintro e w' ⟨⟨hi, lo, t, rfl, k⟩, hx⟩
  refine ⟨?_, hx⟩
  unfold waH waL waOk
  rw [w2_nat, w2_nat, ← Int.natCast_add]
  rcases k with ⟨rfl, k⟩ | ⟨rfl, rfl, rfl, k⟩
  · obtain ⟨e1, e2⟩ := hilo_nat k
    have hlt := k.lt
    rw [e1, e2]
    have : decide (((a * 18446744073709551616 + b + (c * 18446744073709551616 + d) : Nat) : Int) < 340282366920938463463374607431768211456) = true := decide_eq_true (by omega)
    rw [this]; rfl
  · have : decide (((a * 18446744073709551616 + b + (c * 18446744073709551616 + d) : Nat) : Int) < 340282366920938463463374607431768211456) = false := decide_eq_false (by omega)
    rw [this]; rfl
theorem wide_add' (xh xl yh yl x y : Nat) (hx : Word2 x xh xl) (hy : Word2 y yh yl) (w : World) :
    Calls Tryz.prog 116 #[.agg #[.int .u64 xh, .int .u64 xl], .agg #[.int .u64 yh, .int .u64 yl]] w fun e w' => AnsOf (x + y) e ∧ Below w.heap.size w w' := by
  by_cases h : x + y < 340282366920938463463374607431768211456
  · exact (wide_add_yes xh xl yh yl x y hx hy h w).mono fun e w' ⟨hi, lo, e1, k, b⟩ => ⟨⟨hi, lo, true, e1, Or.inl ⟨rfl, k⟩⟩, b⟩
  · exact (wide_add_no xh xl yh yl x y hx hy h w).mono fun e w' ⟨e1, b⟩ => ⟨⟨0, 0, false, e1, Or.inr ⟨rfl, rfl, rfl, h⟩⟩, b⟩
theorem a_add : Answers 116 s_add := add_of_calls Tryz.func116 (by kernel_rfl) (by kernel_rfl) (fun _ _ _ _ _ _ hx hy w => wide_add' _ _ _ _ _ _ hx hy w)
theorem sub_of_calls {f : Nat} {fn : Func} (hf : Tryz.prog.funcs[f]? = some fn) (hn : (fn.name == "runtime.NumGoroutine") = false) (hb : fn.body = some (fn.body.getD .skip))
    (H : ∀ (xh xl yh yl x y : Nat), Word2 x xh xl → Word2 y yh yl → ∀ w, Calls Tryz.prog f #[.agg #[.int .u64 xh, .int .u64 xl], .agg #[.int .u64 yh, .int .u64 yl]] w fun e w' => DifOf x y e ∧ Below w.heap.size w w') : Answers f s_sub := by
  intro args v bs h hok
  unfold s_sub at h
  split at h <;> try (simp at h; done)
  simp only [Option.some.injEq, Prod.mk.injEq] at h
  obtain ⟨rfl, rfl⟩ := h
  obtain ⟨h1, h2, h3, h4, _⟩ := hok
  obtain ⟨a, rfl, ha⟩ := inU_nat h1
  obtain ⟨b, rfl, hb'⟩ := inU_nat h2
  obtain ⟨c, rfl, hc⟩ := inU_nat h3
  obtain ⟨d, rfl, hd⟩ := inU_nat h4
  refine does_of_calls hf hn hb fun w => (H a b c d _ _ ⟨rfl, hb', ha⟩ ⟨rfl, hd, hc⟩ w).mono ?_
  rintro e w' ⟨⟨hi, lo, t, rfl, k⟩, hx⟩
  refine ⟨?_, hx⟩
  unfold wsH wsL wsOk
  rw [w2_nat, w2_nat]
  rcases k with ⟨rfl, k, kl⟩ | ⟨rfl, rfl, rfl, k⟩
  · obtain ⟨e1, e2⟩ := hilo_nat k
    rw [← Int.ofNat_sub kl, e1, e2]
    have : decide (((c * 18446744073709551616 + d : Nat) : Int) ≤ ((a * 18446744073709551616 + b : Nat) : Int)) = true := decide_eq_true (by omega)
    rw [this]; rfl
  · have : decide (((c * 18446744073709551616 + d : Nat) : Int) ≤ ((a * 18446744073709551616 + b : Nat) : Int)) = false := decide_eq_false (by omega)
    rw [this]; rfl
theorem a_sub : Answers 125 s_sub := sub_of_calls Tryz.func125 (by kernel_rfl) (by kernel_rfl) (fun _ _ _ _ _ _ hx hy w => wide_sub _ _ _ _ _ _ hx hy w)
theorem mulsmall_of_calls {f : Nat} {fn : Func} (hf : Tryz.prog.funcs[f]? = some fn) (hn : (fn.name == "runtime.NumGoroutine") = false) (hb : fn.body = some (fn.body.getD .skip))
    (H : ∀ (ah al n k : Nat), Word2 n ah al → k < 18446744073709551616 → ∀ w, Calls Tryz.prog f #[.agg #[.int .u64 ah, .int .u64 al], .int .u64 k] w fun e w' => AnsOf (n * k) e ∧ Below w.heap.size w w') : Answers f s_mulsmall := by
  intro args v bs h hok
  unfold s_mulsmall at h
  split at h <;> try (simp at h; done)
  simp only [Option.some.injEq, Prod.mk.injEq] at h
  obtain ⟨rfl, rfl⟩ := h
  obtain ⟨h1, h2, h3, _⟩ := hok
  obtain ⟨a, rfl, ha⟩ := inU_nat h1
  obtain ⟨b, rfl, hb'⟩ := inU_nat h2
  obtain ⟨c, rfl, hc⟩ := inU_nat h3
  refine does_of_calls hf hn hb fun w => (H a b _ c ⟨rfl, hb', ha⟩ hc w).mono ?_
  rintro e w' ⟨⟨hi, lo, t, rfl, k⟩, hx⟩
  refine ⟨?_, hx⟩
  unfold wkH wkL wkOk
  rw [w2_nat, ← Int.natCast_mul]
  rcases k with ⟨rfl, k⟩ | ⟨rfl, rfl, rfl, k⟩
  · obtain ⟨e1, e2⟩ := hilo_nat k
    have hlt := k.lt
    rw [e1, e2]
    have : decide ((((a * 18446744073709551616 + b) * c : Nat) : Int) < 340282366920938463463374607431768211456) = true := decide_eq_true (by omega)
    rw [this]; rfl
  · have : decide ((((a * 18446744073709551616 + b) * c : Nat) : Int) < 340282366920938463463374607431768211456) = false := decide_eq_false (by omega)
    rw [this]; rfl
theorem a_mulsmall : Answers 100 s_mulsmall := mulsmall_of_calls Tryz.func100 (by kernel_rfl) (by kernel_rfl) (fun _ _ _ _ hn hk w => wide_mulsmall _ _ _ _ hn hk w)
theorem a_divmod : Answers 145 s_divmod := by
  intro args v bs h hok
  unfold s_divmod at h
  split at h <;> try (simp at h; done)
  simp only [Option.some.injEq, Prod.mk.injEq] at h
  obtain ⟨rfl, rfl⟩ := h
  obtain ⟨h1, h2, h3, h4, _⟩ := hok
  obtain ⟨a, rfl, ha⟩ := inU_nat h1
  obtain ⟨b, rfl, hb'⟩ := inU_nat h2
  obtain ⟨d, rfl, hd⟩ := inU_nat h3
  simp only [ine, bne_iff_ne, ne_eq] at h4
  refine does_of_calls Tryz.func145 (by kernel_rfl) (by kernel_rfl) fun w => (wide_divmod a b d _ ⟨rfl, hb', ha⟩ hd (by omega) w).mono ?_
  rintro e w' ⟨p, q, rfl, k, hx⟩
  obtain ⟨e1, e2⟩ := hilo_nat k
  refine ⟨?_, hx⟩
  unfold wqH wqL wqR
  rw [w2_nat, ← Int.natCast_ediv, ← Int.natCast_emod, e1, e2]
theorem a_mod : Answers 8 s_mod := by
  intro args v bs h hok
  unfold s_mod at h
  split at h <;> try (simp at h; done)
  simp only [Option.some.injEq, Prod.mk.injEq] at h
  obtain ⟨rfl, rfl⟩ := h
  obtain ⟨h3, _⟩ := hok
  obtain ⟨h1, h2⟩ := of_decide_eq_true h3
  refine does_of_calls Tryz.func8 (by kernel_rfl) (by kernel_rfl) fun w => (mod_any _ _ h1 h2 w).mono ?_
  rintro e w' ⟨rfl, rfl⟩
  exact ⟨rfl, Below.refl _ _⟩
theorem a_len64 : Answers 139 s_len64 := by
  intro args v bs h hok
  unfold s_len64 at h
  split at h <;> try (simp at h; done)
  simp only [Option.some.injEq, Prod.mk.injEq] at h
  obtain ⟨rfl, rfl⟩ := h
  obtain ⟨h1, _⟩ := hok
  have := inU_iff.1 h1
  refine does_of_calls Tryz.func139 (by kernel_rfl) (by kernel_rfl) fun w => (Tryz.bits_Len64 _ w (by omega) (by omega)).mono ?_
  rintro e w' ⟨rfl, rfl⟩
  exact ⟨rfl, Below.refl _ _⟩
end Go.Proofs.YtpjhdjakpbabhaaGreatDoor
namespace Go.Proofs.YtpjhdjakpbabhaaGreatDoor
open Go.RowKit PR
set_option linter.unusedVariables false
def in16 (a : Int) : Bool := decide (0 ≤ a ∧ a < 65536)
def gxMax (n : Int) : Int := if n % 3 = 2 then 65535 else 255
theorem ieq_rfl' (a : Int) : ieq a a = true := by simp [ieq]
theorem gxMax_cases (n : Int) : gxMax n = 255 ∨ gxMax n = 65535 := by unfold gxMax; split <;> simp
end Go.Proofs.YtpjhdjakpbabhaaGreatDoor
namespace Go.Proofs.YtpjhdjakpbabhaaGreatDoor
open Go.RowKit PR
set_option linter.unusedVariables false
def ordOk (q r : Int) : Bool := decide (0 ≤ q ∧ q < 140737488355328 ∧ 0 ≤ r ∧ r < 8589934592)
def sqH (q r : Int) : Int := hi64 (q * q * r)
def sqL (q r : Int) : Int := lo64 (q * q * r)
def cmpZ (a b : Int) : Int := if a < b then -1 else if a = b then 0 else 1
def ordZ (p q r m : Int) : Int := if m < p then 1 else cmpZ (q * q * r) ((m - p) * (m - p))
def ordI (ph pl q r d n : Int) : Int := ordZ (w2 ph pl) q r (n * d)
def vldB (ph q r d : Int) : Bool := decide (ph < 4294967296) && decide (q < 70368744177664) && decide (r < 8589934592) && decide (1 ≤ d)
def qtI (h l d : Int) : Int := if w2 h l / d < 9223372036854775808 then w2 h l / d else 9223372036854775808
def isqUp (r : Int) : Int := 2 ^ (((Lib.bitLenAux 64 r.toNat : Nat) + 1) / 2)
def enL (ph pl d : Int) : Int := qtI ph pl d
def enH (ph pl q r d : Int) : Int := if (w2 ph pl + q * isqUp r) / d < 9223372036854775808 then (w2 ph pl + q * isqUp r) / d else 9223372036854775808
def s_square : List Value → Option (Value × List Bool)
  | [.agg ⟨[.int .u64 ph, .int .u64 pl, .int .u64 q, .int .u64 r, .int .u64 d]⟩] => some (.agg #[.int .u64 (sqH q r), .int .u64 (sqL q r)], [ordOk q r])
  | _ => none
def s_order : List Value → Option (Value × List Bool)
  | [.agg ⟨[.int .u64 ph, .int .u64 pl, .int .u64 q, .int .u64 r, .int .u64 d]⟩, .int .u64 n] => some (.int .i64 (ordI ph pl q r d n), [inU ph, inU pl, ordOk q r, inU d, inU n])
  | _ => none
def s_valid : List Value → Option (Value × List Bool)
  | [.agg ⟨[.int .u64 ph, .int .u64 pl, .int .u64 q, .int .u64 r, .int .u64 d]⟩] => some (.bool (vldB ph q r d), [])
  | _ => none
def s_quotient : List Value → Option (Value × List Bool)
  | [.agg ⟨[.int .u64 h, .int .u64 l]⟩, .int .u64 d] => some (.int .u64 (qtI h l d), [inU h, inU l, inU d, ine d 0])
  | _ => none
def o_square : Oracle := orc [(117, s_mul), (100, s_mulsmall)]
set_option maxRecDepth 100000 in
theorem square_vc (ph pl q r d : Int) (V : Value → Prop) : evalBody Tryz.prog (o_square) (noLoops) (Tryz.f123.body.getD .skip) Tryz.f123.results.toList Tryz.f123.ntmps [.agg #[.int .u64 ph, .int .u64 pl, .int .u64 q, .int .u64 r, .int .u64 d]] V = ((inU (wmH q q) = true ∧ inU (wmL q q) = true ∧ inU r = true ∧ inU q = true ∧ inU q = true ∧ True) ∧ V (Value.agg #[Value.int .u64 (wkH (wmH q q) (wmL q q) r), Value.int .u64 (wkL (wmH q q) (wmL q q) r)])) := by
  try delta o_square
  try delta s_mul
  try delta s_mulsmall
  generalize @inU = inU
  generalize @wkH = wkH
  generalize @wkL = wkL
  generalize @wkOk = wkOk
  generalize @wmH = wmH
  generalize @wmL = wmL
  kernel_rfl
def o_order : Oracle := orc [(117, s_mul), (122, s_cmp), (123, s_square), (124, s_of), (125, s_sub)]
set_option maxRecDepth 100000 in
theorem order_vc (ph pl q r d n : Int) (V : Value → Prop) : evalBody Tryz.prog (o_order) (noLoops) (Tryz.f101.body.getD .skip) Tryz.f101.results.toList Tryz.f101.ntmps [.agg #[.int .u64 ph, .int .u64 pl, .int .u64 q, .int .u64 r, .int .u64 d], .int .u64 n] V = (bcond (ieq (wcmp ph pl (wmH n d) (wmL n d)) 1) ((inU ph = true ∧ inU pl = true ∧ inU (wmH n d) = true ∧ inU (wmL n d) = true ∧ inU n = true ∧ inU d = true ∧ True) ∧ V (Value.int .i64 1)) (bcond (ieq (wcmp ph pl (wmH n d) (wmL n d)) 0) ((inU (sqH q r) = true ∧ inU (sqL q r) = true ∧ inU 0 = true ∧ inU 0 = true ∧ inU 0 = true ∧ ordOk q r = true ∧ inU ph = true ∧ inU pl = true ∧ inU (wmH n d) = true ∧ inU (wmL n d) = true ∧ inU n = true ∧ inU d = true ∧ True) ∧ V (Value.int .i64 (wcmp (sqH q r) (sqL q r) 0 0))) (bcond (ine (wsH (wmH n d) (wmL n d) ph pl) 0) ((inU (wmH n d) = true ∧ inU (wmL n d) = true ∧ inU ph = true ∧ inU pl = true ∧ inU ph = true ∧ inU pl = true ∧ inU (wmH n d) = true ∧ inU (wmL n d) = true ∧ inU n = true ∧ inU d = true ∧ True) ∧ V (Value.int .i64 (-1))) ((inU (sqH q r) = true ∧ inU (sqL q r) = true ∧ inU (wmH (wsL (wmH n d) (wmL n d) ph pl) (wsL (wmH n d) (wmL n d) ph pl)) = true ∧ inU (wmL (wsL (wmH n d) (wmL n d) ph pl) (wsL (wmH n d) (wmL n d) ph pl)) = true ∧ inU (wsL (wmH n d) (wmL n d) ph pl) = true ∧ inU (wsL (wmH n d) (wmL n d) ph pl) = true ∧ ordOk q r = true ∧ inU (wmH n d) = true ∧ inU (wmL n d) = true ∧ inU ph = true ∧ inU pl = true ∧ inU ph = true ∧ inU pl = true ∧ inU (wmH n d) = true ∧ inU (wmL n d) = true ∧ inU n = true ∧ inU d = true ∧ True) ∧ V (Value.int .i64 (wcmp (sqH q r) (sqL q r) (wmH (wsL (wmH n d) (wmL n d) ph pl) (wsL (wmH n d) (wmL n d) ph pl)) (wmL (wsL (wmH n d) (wmL n d) ph pl) (wsL (wmH n d) (wmL n d) ph pl)))))))) := by
  try delta o_order
  try delta s_mul
  try delta s_cmp
  try delta s_square
  try delta s_of
  try delta s_sub
  generalize @inU = inU
  generalize @ordOk = ordOk
  generalize @sqH = sqH
  generalize @sqL = sqL
  generalize @wcmp = wcmp
  generalize @wmH = wmH
  generalize @wmL = wmL
  generalize @wsH = wsH
  generalize @wsL = wsL
  generalize @wsOk = wsOk
  kernel_rfl
set_option maxRecDepth 100000 in
theorem valid_vc (ph pl q r d : Int) (V : Value → Prop) : evalBody Tryz.prog (orc []) (noLoops) (Tryz.f118.body.getD .skip) Tryz.f118.results.toList Tryz.f118.ntmps [.agg #[.int .u64 ph, .int .u64 pl, .int .u64 q, .int .u64 r, .int .u64 d]] V = (bcond (ilt ph 4294967296) (bcond (ilt q 70368744177664) (bcond (ilt r 8589934592) (True ∧ V (Value.bool (ige d 1))) (True ∧ V (Value.bool false))) (True ∧ V (Value.bool false))) (True ∧ V (Value.bool false))) := by
  kernel_rfl
def o_quotient : Oracle := orc [(145, s_divmod)]
set_option maxRecDepth 100000 in
theorem quotient_vc (h l d : Int) (V : Value → Prop) : evalBody Tryz.prog (o_quotient) (noLoops) (Tryz.f140.body.getD .skip) Tryz.f140.results.toList Tryz.f140.ntmps [.agg #[.int .u64 h, .int .u64 l], .int .u64 d] V = (bcond (ine (wqH h l d) 0) ((inU h = true ∧ inU l = true ∧ inU d = true ∧ ine d 0 = true ∧ True) ∧ V (Value.int .u64 9223372036854775808)) ((inU h = true ∧ inU l = true ∧ inU d = true ∧ ine d 0 = true ∧ True) ∧ V (Value.int .u64 (iimin (wqL h l d) 9223372036854775808)))) := by
  try delta o_quotient
  try delta s_divmod
  generalize @inU = inU
  generalize @wqH = wqH
  generalize @wqL = wqL
  generalize @wqR = wqR
  kernel_rfl
def o_enclose : Oracle := orc [(139, s_len64), (124, s_of), (116, s_add), (140, s_quotient)]
set_option maxRecDepth 100000 in
theorem enclose_vc (ph pl q r d : Int) (V : Value → Prop) : evalBody Tryz.prog (o_enclose) (noLoops) (Tryz.f119.body.getD .skip) Tryz.f119.results.toList Tryz.f119.ntmps [.agg #[.int .u64 ph, .int .u64 pl, .int .u64 q, .int .u64 r, .int .u64 d]] V = ((inU (waH ph pl 0 (imul IntKind.u64 q (ishl IntKind.u64 1 (iquo IntKind.i64 (iadd IntKind.i64 (ilen r) 1) 2)))) = true ∧ inU (waL ph pl 0 (imul IntKind.u64 q (ishl IntKind.u64 1 (iquo IntKind.i64 (iadd IntKind.i64 (ilen r) 1) 2)))) = true ∧ inU d = true ∧ ine d 0 = true ∧ inU ph = true ∧ inU pl = true ∧ inU d = true ∧ ine d 0 = true ∧ inU ph = true ∧ inU pl = true ∧ inU 0 = true ∧ inU (imul IntKind.u64 q (ishl IntKind.u64 1 (iquo IntKind.i64 (iadd IntKind.i64 (ilen r) 1) 2))) = true ∧ inU (imul IntKind.u64 q (ishl IntKind.u64 1 (iquo IntKind.i64 (iadd IntKind.i64 (ilen r) 1) 2))) = true ∧ ige (iquo IntKind.i64 (iadd IntKind.i64 (ilen r) 1) 2) 0 = true ∧ true = true ∧ inU r = true ∧ True) ∧ V (Value.tuple #[Value.int .u64 (qtI ph pl d), Value.int .u64 (qtI (waH ph pl 0 (imul IntKind.u64 q (ishl IntKind.u64 1 (iquo IntKind.i64 (iadd IntKind.i64 (ilen r) 1) 2)))) (waL ph pl 0 (imul IntKind.u64 q (ishl IntKind.u64 1 (iquo IntKind.i64 (iadd IntKind.i64 (ilen r) 1) 2)))) d)])) := by
  try delta o_enclose
  try delta s_len64
  try delta s_of
  try delta s_add
  try delta s_quotient
  generalize @ilen = ilen
  generalize @inU = inU
  generalize @qtI = qtI
  generalize @waH = waH
  generalize @waL = waL
  generalize @waOk = waOk
  kernel_rfl
set_option maxRecDepth 100000 in
theorem below_vc (n : Int) (V : Value → Prop) : evalBody Tryz.prog (orc []) (noLoops) (Tryz.f102.body.getD .skip) Tryz.f102.results.toList Tryz.f102.ntmps [.int .u64 n] V = (bcond (ige n 9223372036854775808) (True ∧ V (Value.tuple #[Value.int .u64 0, Value.bool false])) (True ∧ V (Value.tuple #[Value.int .u64 n, Value.bool true]))) := by
  kernel_rfl
theorem ordOk_iff {q r : Int} : ordOk q r = true ↔ 0 ≤ q ∧ q < 140737488355328 ∧ 0 ≤ r ∧ r < 8589934592 := by simp [ordOk]
theorem sq_range {q r : Int} (h : ordOk q r = true) : inU q = true ∧ inU r = true ∧ 0 ≤ q * q * r ∧ q * q * r < 170141183460469231731687303715884105728 := by
  obtain ⟨h1, h2, h3, h4⟩ := ordOk_iff.1 h
  have a1 := Int.mul_nonneg h1 h1
  have a2 := Int.mul_nonneg a1 h3
  have b1 := Int.mul_le_mul (by omega : q ≤ 140737488355327) (by omega : q ≤ 140737488355327) h1 (by decide)
  have b2 := Int.mul_le_mul b1 (by omega : r ≤ 8589934591) h3 (by decide)
  rw [inU_iff, inU_iff]
  omega
theorem sq_words {q r : Int} (h : ordOk q r = true) : inU (sqH q r) = true ∧ inU (sqL q r) = true ∧ w2 (sqH q r) (sqL q r) = q * q * r := by
  obtain ⟨_, _, h3, h4⟩ := sq_range h
  exact hilo_range _ h3 (by omega)
theorem a_square : Answers 123 s_square := by
  intro args v bs h hok
  unfold s_square at h
  split at h <;> try (simp at h; done)
  rename_i ph pl q r d
  simp only [Option.some.injEq, Prod.mk.injEq] at h
  obtain ⟨rfl, rfl⟩ := h
  refine does_of_eval (O := o_square) (orc_cons a_mul (orc_cons a_mulsmall orc_nil)) mixed (noLoops) Tryz.func123 (by kernel_rfl) (by kernel_rfl) rfl ?_
  rw [square_vc]
  obtain ⟨o1, _⟩ := hok
  obtain ⟨i1, i2, r1, r2⟩ := sq_range o1
  obtain ⟨m1, m2, m3⟩ := wm_spec i1 i1
  have k := wk_spec m1 m2 i2
  have ok : wkOk (wmH q q) (wmL q q) r = true := by unfold wkOk; rw [m3]; exact decide_eq_true (by omega)
  simp only [i1, i2, m1, m2, true_and]
  unfold wkH wkL
  rw [ok, m3]
  rfl
theorem a_order : Answers 101 s_order := by
  intro args v bs h hok
  unfold s_order at h
  split at h <;> try (simp at h; done)
  rename_i ph pl q r d n
  simp only [Option.some.injEq, Prod.mk.injEq] at h
  obtain ⟨rfl, rfl⟩ := h
  refine does_of_eval (O := o_order) (orc_cons a_mul (orc_cons a_cmp (orc_cons a_square (orc_cons a_of (orc_cons a_sub orc_nil))))) mixed (noLoops) Tryz.func101 (by kernel_rfl) (by kernel_rfl) rfl ?_
  rw [order_vc]
  obtain ⟨p1, p2, o1, d1, n1, _⟩ := hok
  obtain ⟨i1, i2, r1, r2⟩ := sq_range o1
  obtain ⟨s1, s2, s3⟩ := sq_words o1
  obtain ⟨m1, m2, m3⟩ := wm_spec n1 d1
  obtain ⟨t1, t2, t3⟩ := ws_spec m1 m2 p1 p2
  have P := w2_range p1 p2
  have M := w2_range m1 m2
  obtain ⟨u1, u2, u3⟩ := wm_spec t2 t2
  have z : inU 0 = true := rfl
  simp only [bcond_iff, p1, p2, m1, m2, s1, s2, z, o1, d1, n1, t2, u1, u2, true_and, Value.int.injEq, ieq, ine, beq_iff_eq, beq_eq_false_iff_ne, bne_iff_ne, bne_eq_false_iff_eq, ne_eq]
  unfold ordI ordZ
  rw [← m3]
  refine ⟨fun h => ?_, fun h => ⟨fun h' => ?_, fun h' => ⟨fun h'' => ?_, fun h'' => ?_⟩⟩⟩
  · unfold wcmp at h
    rw [if_pos (by split at h <;> (try split at h) <;> omega)]
  · unfold wcmp at h'
    have e : w2 (wmH n d) (wmL n d) = w2 ph pl := by split at h' <;> (try split at h') <;> omega
    rw [if_neg (by omega), e, Int.sub_self]
    unfold wcmp cmpZ
    rw [s3]; rfl
  · have lt : w2 ph pl < w2 (wmH n d) (wmL n d) := by
      unfold wcmp at h h'; split at h <;> (try split at h) <;> (try split at h') <;> (try split at h') <;> omega
    have ok : wsOk (wmH n d) (wmL n d) ph pl = true := decide_eq_true (by omega)
    have t3 := t3 ok
    have big : 18446744073709551616 ≤ w2 (wmH n d) (wmL n d) - w2 ph pl := by
      rw [← t3]; unfold w2; rw [inU_iff] at t1 t2; omega
    have := Int.mul_le_mul big big (by decide) (by omega)
    rw [if_neg (by omega)]
    unfold cmpZ
    rw [if_pos (by omega)]
  · have lt : w2 ph pl < w2 (wmH n d) (wmL n d) := by
      unfold wcmp at h h'; split at h <;> (try split at h) <;> (try split at h') <;> (try split at h') <;> omega
    have ok : wsOk (wmH n d) (wmL n d) ph pl = true := decide_eq_true (by omega)
    have t3 := t3 ok
    have e : wsL (wmH n d) (wmL n d) ph pl = w2 (wmH n d) (wmL n d) - w2 ph pl := by
      rw [← t3, h'']; unfold w2; omega
    rw [if_neg (by omega)]
    unfold wcmp
    rw [u3, s3, e]
    rfl
theorem valid_way {ph q r d : Int} : bcond (ilt ph 4294967296) (bcond (ilt q 70368744177664) (bcond (ilt r 8589934592) (True ∧ Value.bool (ige d 1) = Value.bool (vldB ph q r d)) (True ∧ Value.bool false = Value.bool (vldB ph q r d))) (True ∧ Value.bool false = Value.bool (vldB ph q r d))) (True ∧ Value.bool false = Value.bool (vldB ph q r d)) := by
  unfold vldB ilt ige
  simp only [ge_iff_le, bcond_iff, true_and, Value.bool.injEq]
  refine ⟨fun h1 => ⟨fun h2 => ⟨fun h3 => ?_, fun h3 => ?_⟩, fun h2 => ?_⟩, fun h1 => ?_⟩ <;> simp_all <;> omega
theorem a_valid : Answers 118 s_valid := by
  intro args v bs h hok
  unfold s_valid at h
  split at h <;> try (simp at h; done)
  rename_i ph pl q r d
  simp only [Option.some.injEq, Prod.mk.injEq] at h
  obtain ⟨rfl, rfl⟩ := h
  refine does_of_eval (O := (orc [])) orc_nil mixed (noLoops) Tryz.func118 (by kernel_rfl) (by kernel_rfl) rfl ?_
  rw [valid_vc]
  exact valid_way
theorem a_quotient : Answers 140 s_quotient := by
  intro args v bs h hok
  unfold s_quotient at h
  split at h <;> try (simp at h; done)
  rename_i h l d
  simp only [Option.some.injEq, Prod.mk.injEq] at h
  obtain ⟨rfl, rfl⟩ := h
  refine does_of_eval (O := o_quotient) (orc_cons a_divmod orc_nil) mixed (noLoops) Tryz.func140 (by kernel_rfl) (by kernel_rfl) rfl ?_
  rw [quotient_vc]
  obtain ⟨h1, h2, d1, d0, _⟩ := hok
  simp only [ine, bne_iff_ne, ne_eq] at d0
  have D := inU_iff.1 d1
  obtain ⟨k1, k2, k3, _⟩ := wq_spec h1 h2 d1 (by omega)
  rw [inU_iff] at k1 k2
  simp only [bcond_iff, h1, h2, d1, ine, bne_iff_ne, ne_eq, d0, not_false_eq_true, bne_eq_false_iff_eq, true_and, Value.int.injEq]
  unfold qtI
  rw [← k3]
  unfold w2 iimin
  refine ⟨fun e => ?_, fun e => ?_⟩
  · rw [if_neg (by omega)]
  · rw [e]
    split <;> split <;> omega
end Go.Proofs.YtpjhdjakpbabhaaGreatDoor
namespace Go.Proofs.YtpjhdjakpbabhaaGreatDoor
open Go.RowKit PR
set_option linter.unusedVariables false
def rootOf : Nat → Nat
  | 0 => 0
  | n + 1 => if (rootOf n + 1) * (rootOf n + 1) ≤ n + 1 then rootOf n + 1 else rootOf n
def isq (n : Int) : Int := ((rootOf n.toNat : Nat) : Int)
def flZ (p q r d : Int) : Int := (p + isq (q * q * r)) / d
def flI (ph pl q r d : Int) : Int := flZ (w2 ph pl) q r d
def flOk (ph pl q r d : Int) : Bool := vldB ph q r d && decide (flI ph pl q r d < 9223372036854775808)
def flV (ph pl q r d : Int) : Int := bif flOk ph pl q r d then flI ph pl q r d else 0
def hvZ (p q r d : Int) : Int := if 0 ≤ ordZ (2 * p) (2 * q) r ((2 * flZ p q r d + 1) * d) then flZ p q r d + 1 else flZ p q r d
def hvOk (ph pl q r d : Int) : Bool := flOk ph pl q r d && decide (hvZ (w2 ph pl) q r d < 9223372036854775808)
def hvV (ph pl q r d : Int) : Int := bif hvOk ph pl q r d then hvZ (w2 ph pl) q r d else 0
def fiveU (a b c d e : Int) : Prop := inU a = true ∧ inU b = true ∧ inU c = true ∧ inU d = true ∧ inU e = true
def s_floor : List Value → Option (Value × List Bool)
  | [.agg ⟨[.int .u64 ph, .int .u64 pl, .int .u64 q, .int .u64 r, .int .u64 d]⟩] => some (.tuple #[.int .u64 (flV ph pl q r d), .bool (flOk ph pl q r d)], [inU ph, inU pl, inU q, inU r, inU d])
  | _ => none
def s_halfX : List Value → Option (Value × List Bool)
  | [.agg ⟨[.int .u64 ph, .int .u64 pl, .int .u64 q, .int .u64 r, .int .u64 d]⟩] => some (.tuple #[.int .u64 (hvV ph pl q r d), .bool (hvOk ph pl q r d)], [inU ph, inU pl, inU q, inU r, inU d])
  | _ => none
def s_enclose : List Value → Option (Value × List Bool)
  | [.agg ⟨[.int .u64 ph, .int .u64 pl, .int .u64 q, .int .u64 r, .int .u64 d]⟩] => some (.tuple #[.int .u64 (enL ph pl d), .int .u64 (enH ph pl q r d)], [vldB ph q r d, inU ph, inU pl, inU q, inU r, inU d])
  | _ => none
def s_below : List Value → Option (Value × List Bool)
  | [.int .u64 n] => some (.tuple #[.int .u64 (isel (ige n 9223372036854775808) 0 n), .bool (bnot (ige n 9223372036854775808))], [])
  | _ => none
def flGood (ph pl q r d l h : Int) : Prop := 0 ≤ l ∧ l ≤ h ∧ h ≤ 9223372036854775808 ∧ l ≤ flI ph pl q r d ∧ (flI ph pl q r d ≤ h ∨ h = 9223372036854775808)
def flMu (l h : Int) : Nat := (h - l).toNat
def o_inv_floor (ph pl q r d : Int) : Inv where
  ι := Int × Int
  good i := flGood ph pl q r d i.1 i.2
  slots i := slotsOf 36 [(1, .pointer (some ⟨0, 0, none⟩)), (2, .int .u64 0), (3, .bool false), (4, .int .u64 i.1), (5, .int .u64 i.2)]
  blocks _ := [(0, [.int .u64 ph, .int .u64 pl, .int .u64 q, .int .u64 r, .int .u64 d])]
  μ i := flMu i.1 i.2
def o_floor : Oracle := orc [(118, s_valid), (119, s_enclose), (101, s_order), (102, s_below)]
set_option maxRecDepth 100000 in
theorem floor_vc (ph pl q r d : Int) (V : Value → Prop) : evalBody Tryz.prog (o_floor) (fun n => bif Nat.beq n 4 then some (.inv (o_inv_floor ph pl q r d)) else none) (Tryz.f99.body.getD .skip) Tryz.f99.results.toList Tryz.f99.ntmps [.agg #[.int .u64 ph, .int .u64 pl, .int .u64 q, .int .u64 r, .int .u64 d]] V = (bcond (bnot (vldB ph q r d)) (True ∧ V (Value.tuple #[Value.int .u64 0, Value.bool false])) ((∃ (i : Int × Int), flGood ph pl q r d i.1 i.2 ∧ (vldB ph q r d = true ∧ inU ph = true ∧ inU pl = true ∧ inU q = true ∧ inU r = true ∧ inU d = true ∧ True) ∧ ((true = true ∧ Value.pointer (some ⟨0, 0, none⟩) = Value.pointer (some ⟨0, 0, none⟩)) ∧ (true = true ∧ Value.int .u64 0 = Value.int .u64 0) ∧ (true = true ∧ Value.bool false = Value.bool false) ∧ (true = true ∧ Value.int .u64 (enL ph pl d) = Value.int .u64 i.1) ∧ (true = true ∧ Value.int .u64 (enH ph pl q r d) = Value.int .u64 i.2) ∧ True) ∧ (some [Value.int .u64 ph, Value.int .u64 pl, Value.int .u64 q, Value.int .u64 r, Value.int .u64 d] = some [Value.int .u64 ph, Value.int .u64 pl, Value.int .u64 q, Value.int .u64 r, Value.int .u64 d] ∧ True) ∧ true = true ∧ True) ∧ ∀ (i : Int × Int), flGood ph pl q r d i.1 i.2 → bcond (ilt i.1 i.2) (bcond (ige (ordI ph pl q r d (iadd IntKind.u64 i.1 (iquo IntKind.u64 (iadd IntKind.u64 (isub IntKind.u64 i.2 i.1) 1) 2))) 0) (∃ (j : Int × Int), flGood ph pl q r d j.1 j.2 ∧ ((inU ph = true ∧ inU pl = true ∧ ordOk q r = true ∧ inU d = true ∧ inU (iadd IntKind.u64 i.1 (iquo IntKind.u64 (iadd IntKind.u64 (isub IntKind.u64 i.2 i.1) 1) 2)) = true ∧ true = true ∧ True) ∧ ((true = true ∧ Value.pointer (some ⟨0, 0, none⟩) = Value.pointer (some ⟨0, 0, none⟩)) ∧ (true = true ∧ Value.int .u64 0 = Value.int .u64 0) ∧ (true = true ∧ Value.bool false = Value.bool false) ∧ (true = true ∧ Value.int .u64 (iadd IntKind.u64 i.1 (iquo IntKind.u64 (iadd IntKind.u64 (isub IntKind.u64 i.2 i.1) 1) 2)) = Value.int .u64 j.1) ∧ (true = true ∧ Value.int .u64 i.2 = Value.int .u64 j.2) ∧ True) ∧ (some [Value.int .u64 ph, Value.int .u64 pl, Value.int .u64 q, Value.int .u64 r, Value.int .u64 d] = some [Value.int .u64 ph, Value.int .u64 pl, Value.int .u64 q, Value.int .u64 r, Value.int .u64 d] ∧ True) ∧ true = true ∧ True) ∧ Nat.le (Nat.succ (flMu j.1 j.2)) (flMu i.1 i.2)) (∃ (j : Int × Int), flGood ph pl q r d j.1 j.2 ∧ ((inU ph = true ∧ inU pl = true ∧ ordOk q r = true ∧ inU d = true ∧ inU (iadd IntKind.u64 i.1 (iquo IntKind.u64 (iadd IntKind.u64 (isub IntKind.u64 i.2 i.1) 1) 2)) = true ∧ true = true ∧ True) ∧ ((true = true ∧ Value.pointer (some ⟨0, 0, none⟩) = Value.pointer (some ⟨0, 0, none⟩)) ∧ (true = true ∧ Value.int .u64 0 = Value.int .u64 0) ∧ (true = true ∧ Value.bool false = Value.bool false) ∧ (true = true ∧ Value.int .u64 i.1 = Value.int .u64 j.1) ∧ (true = true ∧ Value.int .u64 (isub IntKind.u64 (iadd IntKind.u64 i.1 (iquo IntKind.u64 (iadd IntKind.u64 (isub IntKind.u64 i.2 i.1) 1) 2)) 1) = Value.int .u64 j.2) ∧ True) ∧ (some [Value.int .u64 ph, Value.int .u64 pl, Value.int .u64 q, Value.int .u64 r, Value.int .u64 d] = some [Value.int .u64 ph, Value.int .u64 pl, Value.int .u64 q, Value.int .u64 r, Value.int .u64 d] ∧ True) ∧ true = true ∧ True) ∧ Nat.le (Nat.succ (flMu j.1 j.2)) (flMu i.1 i.2))) (True ∧ V (Value.tuple #[Value.int .u64 (isel (ige i.1 9223372036854775808) 0 i.1), Value.bool (bnot (ige i.1 9223372036854775808))])))) := by
  try delta o_floor
  try delta o_inv_floor
  try delta s_valid
  try delta s_enclose
  try delta s_order
  try delta s_below
  generalize @enH = enH
  generalize @enL = enL
  generalize @flGood = flGood
  generalize @flMu = flMu
  generalize @inU = inU
  generalize @ordI = ordI
  generalize @ordOk = ordOk
  generalize @vldB = vldB
  kernel_rfl
def o_half : Oracle := orc [(99, s_floor), (100, s_mulsmall), (101, s_order), (102, s_below)]
set_option maxRecDepth 100000 in
theorem half_vc (ph pl q r d : Int) (V : Value → Prop) : evalBody Tryz.prog (o_half) (noLoops) (Tryz.f78.body.getD .skip) Tryz.f78.results.toList Tryz.f78.ntmps [.agg #[.int .u64 ph, .int .u64 pl, .int .u64 q, .int .u64 r, .int .u64 d]] V = (bcond (bnot (flOk ph pl q r d)) ((inU ph = true ∧ inU pl = true ∧ inU q = true ∧ inU r = true ∧ inU d = true ∧ True) ∧ V (Value.tuple #[Value.int .u64 0, Value.bool false])) (bcond (ige (ordI (wkH ph pl 2) (wkL ph pl 2) (imul IntKind.u64 2 q) r d (iadd IntKind.u64 (imul IntKind.u64 2 (flV ph pl q r d)) 1)) 0) ((inU (wkH ph pl 2) = true ∧ inU (wkL ph pl 2) = true ∧ ordOk (imul IntKind.u64 2 q) r = true ∧ inU d = true ∧ inU (iadd IntKind.u64 (imul IntKind.u64 2 (flV ph pl q r d)) 1) = true ∧ inU ph = true ∧ inU pl = true ∧ inU 2 = true ∧ inU ph = true ∧ inU pl = true ∧ inU q = true ∧ inU r = true ∧ inU d = true ∧ True) ∧ V (Value.tuple #[Value.int .u64 (isel (ige (iadd IntKind.u64 (flV ph pl q r d) 1) 9223372036854775808) 0 (iadd IntKind.u64 (flV ph pl q r d) 1)), Value.bool (bnot (ige (iadd IntKind.u64 (flV ph pl q r d) 1) 9223372036854775808))])) ((inU (wkH ph pl 2) = true ∧ inU (wkL ph pl 2) = true ∧ ordOk (imul IntKind.u64 2 q) r = true ∧ inU d = true ∧ inU (iadd IntKind.u64 (imul IntKind.u64 2 (flV ph pl q r d)) 1) = true ∧ inU ph = true ∧ inU pl = true ∧ inU 2 = true ∧ inU ph = true ∧ inU pl = true ∧ inU q = true ∧ inU r = true ∧ inU d = true ∧ True) ∧ V (Value.tuple #[Value.int .u64 (isel (ige (flV ph pl q r d) 9223372036854775808) 0 (flV ph pl q r d)), Value.bool (bnot (ige (flV ph pl q r d) 9223372036854775808))])))) := by
  try delta o_half
  try delta s_floor
  try delta s_mulsmall
  try delta s_order
  try delta s_below
  generalize @flOk = flOk
  generalize @flV = flV
  generalize @inU = inU
  generalize @ordI = ordI
  generalize @ordOk = ordOk
  generalize @wkH = wkH
  generalize @wkL = wkL
  generalize @wkOk = wkOk
  kernel_rfl
theorem rootOf_spec : ∀ n : Nat, rootOf n * rootOf n ≤ n ∧ n < (rootOf n + 1) * (rootOf n + 1)
  | 0 => by decide
  | n + 1 => by
    obtain ⟨h1, h2⟩ := rootOf_spec n
    unfold rootOf
    split
    · rename_i h
      refine ⟨h, ?_⟩
      have : (rootOf n + 1 + 1) * (rootOf n + 1 + 1) = (rootOf n + 1) * (rootOf n + 1) + 2 * (rootOf n + 1) + 1 := by
        simp only [Nat.add_mul, Nat.mul_add]; omega
      omega
    · exact ⟨by omega, by omega⟩
theorem isq_spec {x : Int} (h : 0 ≤ x) : 0 ≤ isq x ∧ isq x * isq x ≤ x ∧ x < (isq x + 1) * (isq x + 1) := by
  obtain ⟨h1, h2⟩ := rootOf_spec x.toNat
  have e : ((x.toNat : Nat) : Int) = x := Int.toNat_of_nonneg h
  unfold isq
  refine ⟨by omega, ?_, ?_⟩
  · rw [← Int.natCast_mul]; omega
  · have : (((rootOf x.toNat + 1) * (rootOf x.toNat + 1) : Nat) : Int) = ((rootOf x.toNat : Nat) + 1 : Int) * ((rootOf x.toNat : Nat) + 1) := by
      rw [Int.natCast_mul]; rfl
    rw [← this]; omega
theorem le_isq {x k : Int} (h : 0 ≤ x) (hk : 0 ≤ k) : k ≤ isq x ↔ k * k ≤ x := by
  obtain ⟨h1, h2, h3⟩ := isq_spec h
  constructor
  · intro hle
    exact Int.le_trans (Int.mul_le_mul hle hle hk h1) h2
  · intro hle
    by_cases hc : k ≤ isq x
    · exact hc
    · have := Int.mul_le_mul (by omega : isq x + 1 ≤ k) (by omega : isq x + 1 ≤ k) (by omega) hk
      omega
theorem ordZ_ge {p q r m : Int} (hS : 0 ≤ q * q * r) : 0 ≤ ordZ p q r m ↔ m ≤ p + isq (q * q * r) := by
  have h1 := (isq_spec hS).1
  unfold ordZ
  split
  · constructor <;> intro _ <;> omega
  · rename_i hm
    have k := le_isq hS (k := m - p) (by omega)
    unfold cmpZ
    constructor
    · intro h
      have : (m - p) * (m - p) ≤ q * q * r := by split at h <;> (try split at h) <;> omega
      have := k.2 this
      omega
    · intro h
      have := k.1 (by omega)
      split
      · omega
      · split <;> omega
theorem ord_fl {p q r d n : Int} (hS : 0 ≤ q * q * r) (hd : 0 < d) : 0 ≤ ordZ p q r (n * d) ↔ n ≤ flZ p q r d := by
  rw [ordZ_ge hS]
  unfold flZ
  rw [Int.le_ediv_iff_mul_le hd]
theorem fl_nonneg {p q r d : Int} (hp : 0 ≤ p) (hS : 0 ≤ q * q * r) (hd : 0 < d) : 0 ≤ flZ p q r d :=
  Int.ediv_nonneg (by have := (isq_spec hS).1; omega) (by omega)
theorem vld_spec {ph pl q r d : Int} (h : vldB ph q r d = true) (h5 : fiveU ph pl q r d) :
    inU ph = true ∧ inU pl = true ∧ inU q = true ∧ inU r = true ∧ inU d = true ∧ 0 ≤ w2 ph pl ∧ w2 ph pl < 79228162514264337593543950336 ∧ ordOk q r = true ∧ ordOk (2 * q) r = true ∧ q < 70368744177664 ∧ 0 < d ∧ 0 ≤ q * q * r ∧ q * q * r < 170141183460469231731687303715884105728 := by
  obtain ⟨a1, a2, a3, a4, a5⟩ := h5
  simp only [vldB, Bool.and_eq_true, decide_eq_true_eq] at h
  obtain ⟨⟨⟨b1, b2⟩, b3⟩, b4⟩ := h
  have A1 := inU_iff.1 a1
  have A2 := inU_iff.1 a2
  have A3 := inU_iff.1 a3
  have A4 := inU_iff.1 a4
  have o : ordOk q r = true := ordOk_iff.2 (by omega)
  have s := sq_range o
  refine ⟨a1, a2, a3, a4, a5, ?_, ?_, o, ordOk_iff.2 (by omega), by omega, by omega, s.2.2.1, s.2.2.2⟩
  · unfold w2; omega
  · unfold w2; omega
theorem tup2 {a b c d : Value} (h : a = c) (k : b = d) : Value.tuple #[a, b] = .tuple #[c, d] := by rw [h, k]
theorem int_eq {k : IntKind} {a b : Int} (h : a = b) : Value.int k a = .int k b := by rw [h]
theorem bool_eq {a b : Bool} (h : a = b) : Value.bool a = .bool b := by rw [h]
theorem a_below : Answers 102 s_below := by
  intro args v bs h hok
  unfold s_below at h
  split at h <;> try (simp at h; done)
  rename_i n
  simp only [Option.some.injEq, Prod.mk.injEq] at h
  obtain ⟨rfl, rfl⟩ := h
  refine does_of_eval (O := (orc [])) orc_nil mixed (noLoops) Tryz.func102 (by kernel_rfl) (by kernel_rfl) rfl ?_
  rw [below_vc]
  rw [bcond_iff]
  refine ⟨fun h => ⟨trivial, ?_⟩, fun h => ⟨trivial, ?_⟩⟩ <;> simp [h, isel, bnot]
theorem len33 {r : Int} (h0 : 0 ≤ r) (h : r < 8589934592) : Lib.bitLenAux 64 r.toNat ≤ 33 ∧ r < 2 ^ Lib.bitLenAux 64 r.toNat := by
  have e64 : (2 : Nat) ^ 64 = 18446744073709551616 := by decide
  obtain ⟨b1, b2, b3, _⟩ := Num.bitLenAux_spec 64 r.toNat (by omega)
  refine ⟨?_, ?_⟩
  rotate_left
  · have e : (2 : Int) ^ Lib.bitLenAux 64 r.toNat = ((2 ^ Lib.bitLenAux 64 r.toNat : Nat) : Int) := by simp
    rw [e]
    generalize 2 ^ Lib.bitLenAux 64 r.toNat = z at *
    omega
  by_cases hz : r.toNat = 0
  · rw [hz]; decide
  · have := b2 hz
    by_cases hc : Lib.bitLenAux 64 r.toNat ≤ 33
    · exact hc
    · have : 2 ^ 33 ≤ 2 ^ (Lib.bitLenAux 64 r.toNat - 1) := Nat.pow_le_pow_right (by decide) (by omega)
      have e : (2 : Nat) ^ 33 = 8589934592 := by decide
      omega
theorem isqUp_spec {r : Int} (h0 : 0 ≤ r) (h : r < 8589934592) : 1 ≤ isqUp r ∧ isqUp r ≤ 131072 ∧ r ≤ isqUp r * isqUp r ∧ ishl .u64 1 (iquo .i64 (iadd .i64 (ilen r) 1) 2) = isqUp r ∧ 0 ≤ iquo .i64 (iadd .i64 (ilen r) 1) 2 := by
  obtain ⟨l1, l2⟩ := len33 h0 h
  unfold isqUp
  unfold ilen
  generalize Lib.bitLenAux 64 r.toNat = b at *
  have e1 : iadd .i64 (b : Int) 1 = ((b + 1 : Nat) : Int) := by unfold iadd; rw [IntWalk.i64_in _ (by omega)]; rfl
  have e2 : iquo .i64 ((b + 1 : Nat) : Int) 2 = (((b + 1) / 2 : Nat) : Int) := by
    unfold iquo
    rw [show ((b + 1 : Nat) : Int).tdiv 2 = (((b + 1) / 2 : Nat) : Int) by rw [Int.tdiv_eq_ediv_of_nonneg (by omega)]; omega]
    rw [IntWalk.i64_in _ (by omega)]
  rw [e1, e2]
  have hk : (b + 1) / 2 ≤ 17 := by omega
  have p1 : (2 : Int) ^ ((b + 1) / 2) = ((2 ^ ((b + 1) / 2) : Nat) : Int) := by simp
  have p2 : (2 : Nat) ^ ((b + 1) / 2) ≤ 2 ^ 17 := Nat.pow_le_pow_right (by decide) hk
  have p3 : 0 < (2 : Nat) ^ ((b + 1) / 2) := Nat.two_pow_pos _
  have p4 : (2 : Nat) ^ b ≤ 2 ^ ((b + 1) / 2) * 2 ^ ((b + 1) / 2) := by rw [← Nat.pow_add]; exact Nat.pow_le_pow_right (by decide) (by omega)
  have e17 : (2 : Nat) ^ 17 = 131072 := by decide
  refine ⟨by omega, by omega, ?_, ?_, by omega⟩
  · have : (2 : Int) ^ b = ((2 ^ b : Nat) : Int) := by simp
    rw [this] at l2
    rw [p1, ← Int.natCast_mul]
    omega
  · unfold ishl
    have : min ((((b + 1) / 2 : Nat) : Int)).toNat IntKind.u64.bits = (b + 1) / 2 := by simp [IntKind.bits]; omega
    rw [this, IntKind.wrap_u64, Int.one_mul, p1]
    omega
theorem a_enclose : Answers 119 s_enclose := by
  intro args v bs h hok
  unfold s_enclose at h
  split at h <;> try (simp at h; done)
  rename_i ph pl q r d
  simp only [Option.some.injEq, Prod.mk.injEq] at h
  obtain ⟨rfl, rfl⟩ := h
  refine does_of_eval (O := o_enclose) (orc_cons a_len64 (orc_cons a_of (orc_cons a_add (orc_cons a_quotient orc_nil)))) mixed (noLoops) Tryz.func119 (by kernel_rfl) (by kernel_rfl) rfl ?_
  rw [enclose_vc]
  obtain ⟨hv, j1, j2, j3, j4, j5, _⟩ := hok
  have h5 : fiveU ph pl q r d := ⟨j1, j2, j3, j4, j5⟩
  obtain ⟨i1, i2, i3, i4, i5, p1, p2, o1, _, q2, d1, _, _⟩ := vld_spec hv h5
  have R := ordOk_iff.1 o1
  obtain ⟨u1, u2, u3, u4, u5⟩ := isqUp_spec R.2.2.1 R.2.2.2
  have b0 := Int.mul_nonneg R.1 (by omega : 0 ≤ isqUp r)
  have b1 := Int.mul_le_mul (by omega : q ≤ 70368744177663) u2 (by omega) (by decide)
  have e1 : imul .u64 q (isqUp r) = q * isqUp r := by unfold imul; rw [IntKind.wrap_u64]; omega
  rw [u4, e1]
  have i6 : inU (q * isqUp r) = true := inU_iff.2 (by omega)
  have z : inU 0 = true := rfl
  have aok : waOk ph pl 0 (q * isqUp r) = true := by unfold waOk; refine decide_eq_true ?_; unfold w2 at *; omega
  obtain ⟨a1, a2, a3⟩ := wa_spec i1 i2 z i6
  have a3 := a3 aok
  have g : ige (iquo .i64 (iadd .i64 (ilen r) 1) 2) 0 = true := decide_eq_true u5
  have n0 : ine d 0 = true := by unfold ine; rw [bne_iff_ne]; omega
  refine ⟨by simp only [i1, i2, i4, i5, i6, a1, a2, z, g, n0, and_self], tup2 (int_eq rfl) (int_eq ?_)⟩
  unfold enH qtI
  rw [a3, show w2 0 (q * isqUp r) = q * isqUp r by unfold w2; omega]
theorem fl_bounds {ph pl q r d : Int} (hv : vldB ph q r d = true) (h5 : fiveU ph pl q r d) : flGood ph pl q r d (enL ph pl d) (enH ph pl q r d) := by
  obtain ⟨i1, i2, i3, i4, i5, p1, p2, o1, _, q2, d1, s1, s2⟩ := vld_spec hv h5
  have R := ordOk_iff.1 o1
  obtain ⟨u1, u2, u3, _, _⟩ := isqUp_spec R.2.2.1 R.2.2.2
  obtain ⟨k1, k2, k3⟩ := isq_spec s1
  have up : isq (q * q * r) ≤ q * isqUp r := by
    by_cases hc : isq (q * q * r) ≤ q * isqUp r
    · exact hc
    · have n0 := Int.mul_nonneg R.1 (by omega : 0 ≤ isqUp r)
      have h1 := Int.mul_le_mul (by omega : q * isqUp r + 1 ≤ isq (q * q * r)) (by omega : q * isqUp r + 1 ≤ isq (q * q * r)) (by omega) k1
      have h2 : q * q * r ≤ q * isqUp r * (q * isqUp r) := by
        have := Int.mul_le_mul_of_nonneg_left u3 (Int.mul_nonneg R.1 R.1)
        rw [show q * isqUp r * (q * isqUp r) = q * q * (isqUp r * isqUp r) by
          rw [Int.mul_assoc, Int.mul_left_comm (isqUp r), ← Int.mul_assoc q q]]
        exact this
      have h3 : (q * isqUp r + 1) * (q * isqUp r + 1) = q * isqUp r * (q * isqUp r) + 2 * (q * isqUp r) + 1 := by
        rw [Int.add_mul, Int.mul_add]; omega
      omega
  have f1 : w2 ph pl / d ≤ flI ph pl q r d := Int.ediv_le_ediv d1 (by omega)
  have f2 : flI ph pl q r d ≤ (w2 ph pl + q * isqUp r) / d := Int.ediv_le_ediv d1 (by omega)
  have f0 : 0 ≤ w2 ph pl / d := Int.ediv_nonneg p1 (by omega)
  unfold flGood enL enH qtI
  split <;> split <;> omega
theorem a_floor : Answers 99 s_floor := by
  intro args v bs h hok
  unfold s_floor at h
  split at h <;> try (simp at h; done)
  rename_i ph pl q r d
  simp only [Option.some.injEq, Prod.mk.injEq] at h
  obtain ⟨rfl, rfl⟩ := h
  refine does_of_eval (O := o_floor) (orc_cons a_valid (orc_cons a_enclose (orc_cons a_order (orc_cons a_below orc_nil)))) mixed ((fun n => bif Nat.beq n 4 then some (.inv (o_inv_floor ph pl q r d)) else none)) Tryz.func99 (by kernel_rfl) (by kernel_rfl) rfl ?_
  rw [floor_vc]
  obtain ⟨j1, j2, j3, j4, j5, _⟩ := hok
  have hok : fiveU ph pl q r d := ⟨j1, j2, j3, j4, j5⟩
  rw [bcond_iff]
  cases hv : vldB ph q r d
  · refine ⟨fun _ => ⟨trivial, ?_⟩, fun h => by simp [bnot] at h⟩
    simp [flV, flOk, hv]
  · refine ⟨fun h => by simp [bnot] at h, fun _ => ?_⟩
    obtain ⟨i1, i2, i3, i4, i5, p1, p2, o1, _, q2, d1, s1, s2⟩ := vld_spec hv hok
    have fl0 := fl_nonneg p1 s1 d1
    refine ⟨⟨(enL ph pl d, enH ph pl q r d), fl_bounds hv hok, ?_⟩, fun i hi => ?_⟩
    · simp only [i1, i2, i3, i4, i5, and_self]
    · obtain ⟨l, h⟩ := i
      obtain ⟨g1, g2, g3, g4, g5⟩ := hi
      simp only at g1 g2 g3 g4 g5 ⊢
      have eM : iadd .u64 l (iquo .u64 (iadd .u64 (isub .u64 h l) 1) 2) = l + (h - l + 1) / 2 := by
        unfold iadd isub iquo
        rw [show IntKind.u64.wrap (h - l) = h - l by rw [IntKind.wrap_u64]; omega, show IntKind.u64.wrap (h - l + 1) = h - l + 1 by rw [IntKind.wrap_u64]; omega,
          show (h - l + 1).tdiv 2 = (h - l + 1) / 2 by rw [Int.tdiv_eq_ediv_of_nonneg (by omega)], show IntKind.u64.wrap ((h - l + 1) / 2) = (h - l + 1) / 2 by rw [IntKind.wrap_u64]; omega]
        rw [IntKind.wrap_u64]; omega
      rw [eM]
      generalize hm : l + (h - l + 1) / 2 = m
      have iM : inU m = true := inU_iff.2 (by omega)
      have eS : isub .u64 m 1 = m - 1 ∨ m < 1 := by
        unfold isub; rw [IntKind.wrap_u64]; omega
      have key : ige (ordI ph pl q r d m) 0 = true ↔ m ≤ flI ph pl q r d := by
        unfold ige ordI flI
        rw [decide_eq_true_eq]
        exact ord_fl s1 d1
      simp only [bcond_iff, i1, i2, i5, o1, iM, true_and, and_true, and_self]
      refine ⟨fun hlt => ⟨fun hge => ⟨(m, h), ?_, ?_, ?_⟩, fun hge => ⟨(l, m - 1), ?_, ?_, ?_⟩⟩, fun hlt => ?_⟩
      · have := key.1 hge
        have := of_decide_eq_true hlt
        exact ⟨by simp only; omega, by simp only; omega, by simp only; omega, by simp only; omega, by simp only; omega⟩
      · simp only [and_self]
      · have := of_decide_eq_true hlt
        show flMu m h + 1 ≤ flMu l h
        unfold flMu; omega
      · have hk : ¬ m ≤ flI ph pl q r d := fun hc => by rw [key.2 hc] at hge; simp at hge
        have := of_decide_eq_true hlt
        exact ⟨by simp only; omega, by simp only; omega, by simp only; omega, by simp only; omega, by simp only; omega⟩
      · have := of_decide_eq_true hlt
        have e := eS.resolve_right (by omega)
        simp only [e, and_self]
      · have := of_decide_eq_true hlt
        show flMu l (m - 1) + 1 ≤ flMu l h
        unfold flMu; omega
      · have hlt := of_decide_eq_false hlt
        refine tup2 (int_eq ?_) (bool_eq ?_)
        · unfold isel flV flOk ige
          rw [hv, Bool.true_and]
          by_cases hc : l ≥ 9223372036854775808
          · rw [decide_eq_true hc, decide_eq_false (by omega)]; rfl
          · rw [decide_eq_false hc, decide_eq_true (by omega)]
            simp only [cond_false, cond_true]; omega
        · unfold bnot flOk ige
          rw [hv, Bool.true_and]
          by_cases hc : l ≥ 9223372036854775808
          · rw [decide_eq_true hc, decide_eq_false (by omega)]; rfl
          · rw [decide_eq_false hc, decide_eq_true (by omega)]; rfl
theorem dbl {ph pl q r d : Int} (hv : vldB ph q r d = true) (h5 : fiveU ph pl q r d) (n : Int) :
    wkOk ph pl 2 = true ∧ imul .u64 2 q = 2 * q ∧ ordI (wkH ph pl 2) (wkL ph pl 2) (2 * q) r d n = ordZ (2 * w2 ph pl) (2 * q) r (n * d) ∧ inU (wkH ph pl 2) = true ∧ inU (wkL ph pl 2) = true := by
  obtain ⟨i1, i2, i3, i4, i5, p1, p2, o1, _, q2, d1, s1, s2⟩ := vld_spec hv h5
  have R := ordOk_iff.1 o1
  have ok : wkOk ph pl 2 = true := decide_eq_true (by omega)
  obtain ⟨k1, k2, k3⟩ := wk_spec i1 i2 (show inU 2 = true from rfl)
  refine ⟨ok, by unfold imul; rw [IntKind.wrap_u64]; omega, ?_, k1, k2⟩
  unfold ordI
  rw [k3 ok, Int.mul_comm]
theorem a_half3 : Answers 78 s_halfX := by
  intro args v bs h hok
  unfold s_halfX at h
  split at h <;> try (simp at h; done)
  rename_i ph pl q r d
  simp only [Option.some.injEq, Prod.mk.injEq] at h
  obtain ⟨rfl, rfl⟩ := h
  refine does_of_eval (O := o_half) (orc_cons a_floor (orc_cons a_mulsmall (orc_cons a_order (orc_cons a_below orc_nil)))) mixed (noLoops) Tryz.func78 (by kernel_rfl) (by kernel_rfl) rfl ?_
  rw [half_vc]
  obtain ⟨i1, i2, i3, i4, i5, _⟩ := hok
  have hok : fiveU ph pl q r d := ⟨i1, i2, i3, i4, i5⟩
  have z : inU 2 = true := rfl
  rw [bcond_iff]
  cases hf : flOk ph pl q r d
  · refine ⟨fun _ => ⟨by simp only [i1, i2, i3, i4, i5, and_self], ?_⟩, fun h => by simp [bnot] at h⟩
    simp [hvV, hvOk, hf]
  · refine ⟨fun h => by simp [bnot] at h, fun _ => ?_⟩
    have hf' := hf
    simp only [flOk, Bool.and_eq_true, decide_eq_true_eq] at hf'
    obtain ⟨hv, flt⟩ := hf'
    obtain ⟨_, _, _, _, _, p1, p2, o1, o2, q2, d1, s1, s2⟩ := vld_spec hv hok
    have fl0 : 0 ≤ flI ph pl q r d := fl_nonneg p1 s1 d1
    have eV : flV ph pl q r d = flI ph pl q r d := by unfold flV; rw [hf]; rfl
    rw [eV]
    have e1 : iadd .u64 (imul .u64 2 (flI ph pl q r d)) 1 = 2 * flI ph pl q r d + 1 := by
      unfold iadd imul; rw [IntKind.wrap_u64, IntKind.wrap_u64]; omega
    have e2 : iadd .u64 (flI ph pl q r d) 1 = flI ph pl q r d + 1 := by unfold iadd; rw [IntKind.wrap_u64]; omega
    obtain ⟨d0, d2, d3, d4, d5⟩ := dbl hv hok (2 * flI ph pl q r d + 1)
    have iM : inU (2 * flI ph pl q r d + 1) = true := inU_iff.2 (by omega)
    rw [e1, e2, d2, d3]
    simp only [bcond_iff, i1, i2, i3, i4, i5, z, d4, d5, o2, iM, true_and]
    have fin : ∀ n : Int, hvZ (w2 ph pl) q r d = n → Value.tuple #[.int .u64 (isel (ige n 9223372036854775808) 0 n), .bool (bnot (ige n 9223372036854775808))] = Value.tuple #[.int .u64 (hvV ph pl q r d), .bool (hvOk ph pl q r d)] := by
      intro n hn
      unfold hvV hvOk
      rw [hn, hf, Bool.true_and]
      unfold isel bnot ige
      by_cases hc : n ≥ 9223372036854775808
      · rw [decide_eq_true hc, decide_eq_false (by omega)]; rfl
      · rw [decide_eq_false hc, decide_eq_true (by omega)]; rfl
    refine ⟨fun hg => fin _ ?_, fun hg => fin _ ?_⟩
    · have := of_decide_eq_true hg
      unfold hvZ; rw [if_pos (by exact this)]; rfl
    · have := of_decide_eq_false hg
      unfold hvZ; rw [if_neg (by exact this)]; rfl
end Go.Proofs.YtpjhdjakpbabhaaGreatDoor
namespace Go.Proofs.YtpjhdjakpbabhaaGreatDoor
open Go.RowKit PR
set_option linter.unusedVariables false
end Go.Proofs.YtpjhdjakpbabhaaGreatDoor
namespace Go.Proofs.YtpjhdjakpbabhaaGreatDoor
open Go.RowKit PR
set_option linter.unusedVariables false
theorem mul4 (a b c d : Int) : a * b * (c * d) = a * c * (b * d) := by rw [Int.mul_assoc, Int.mul_left_comm b, ← Int.mul_assoc]
theorem isq_sq {x : Int} (h : 0 ≤ x) : isq (x * x) = x := by
  have h0 := Int.mul_nonneg h h
  have := (le_isq h0 h).2 (Int.le_refl _)
  obtain ⟨h1, h2, h3⟩ := isq_spec h0
  by_cases hc : isq (x * x) ≤ x
  · omega
  · have := Int.mul_le_mul (by omega : x + 1 ≤ isq (x * x)) (by omega : x + 1 ≤ isq (x * x)) (by omega) h1
    have e : (x + 1) * (x + 1) = x * x + 2 * x + 1 := by rw [Int.add_mul, Int.mul_add]; omega
    omega
theorem hv_whole {p q r d s : Int} (hs : 0 ≤ s) (hS : q * q * r = s * s) (hd : 0 < d) : hvZ p q r d = if (2 * ((p + s) / d) + 1) * d ≤ 2 * (p + s) then (p + s) / d + 1 else (p + s) / d := by
  have e1 : isq (q * q * r) = s := by rw [hS]; exact isq_sq hs
  have e2 : (2 * q) * (2 * q) * r = (2 * s) * (2 * s) := by
    rw [show (2 * q) * (2 * q) * r = 4 * (q * q * r) by
      rw [show (2 * q) * (2 * q) = 4 * (q * q) by rw [mul4]; rfl, Int.mul_assoc], hS, mul4]; rfl
  have e3 : isq ((2 * q) * (2 * q) * r) = 2 * s := by rw [e2]; exact isq_sq (by omega)
  have hS2 : 0 ≤ (2 * q) * (2 * q) * r := by rw [e2]; exact Int.mul_nonneg (by omega) (by omega)
  unfold hvZ flZ
  rw [e1]
  have := ordZ_ge (p := 2 * p) (m := (2 * ((p + s) / d) + 1) * d) hS2
  rw [e3] at this
  by_cases hc : (2 * ((p + s) / d) + 1) * d ≤ 2 * (p + s)
  · rw [if_pos (this.2 (by omega)), if_pos hc]
  · rw [if_neg (fun h => hc (by have := this.1 h; omega)), if_neg hc]
theorem cmpZ_scale {a b m : Int} (hm : 0 < m) : cmpZ (m * a) (m * b) = cmpZ a b := by
  unfold cmpZ
  simp only [Int.mul_lt_mul_left hm]
  by_cases h : a < b
  · rw [if_pos h, if_pos h]
  · rw [if_neg h, if_neg h]
    by_cases h2 : a = b
    · rw [if_pos h2, if_pos (by rw [h2])]
    · rw [if_neg h2, if_neg (fun hc => h2 (Int.eq_of_mul_eq_mul_left (by omega) hc))]
theorem ordZ_scale {p q r x m : Int} (hm : 0 < m) : ordZ (m * p) (m * q) r (m * x) = ordZ p q r x := by
  unfold ordZ
  simp only [Int.mul_lt_mul_left hm]
  have e1 : m * q * (m * q) * r = (m * m) * (q * q * r) := by rw [mul4, Int.mul_assoc]
  have e2 : (m * x - m * p) * (m * x - m * p) = (m * m) * ((x - p) * (x - p)) := by rw [← Int.mul_sub, mul4]
  rw [e1, e2, cmpZ_scale (Int.mul_pos hm hm)]
theorem fl_scale {p q r d m : Int} (hm : 0 < m) (hS : 0 ≤ q * q * r) (hd : 0 < d) : flZ (m * p) (m * q) r (m * d) = flZ p q r d := by
  have hS2 : 0 ≤ m * q * (m * q) * r := by
    rw [show m * q * (m * q) * r = (m * m) * (q * q * r) by rw [mul4, Int.mul_assoc]]
    exact Int.mul_nonneg (Int.le_of_lt (Int.mul_pos hm hm)) hS
  have k : ∀ n, n ≤ flZ (m * p) (m * q) r (m * d) ↔ n ≤ flZ p q r d := fun n => by
    rw [← ord_fl hS2 (Int.mul_pos hm hd), ← ord_fl hS hd, Int.mul_left_comm n m d, ordZ_scale hm]
  exact Int.le_antisymm ((k _).1 (Int.le_refl _)) ((k _).2 (Int.le_refl _))
theorem hv_scale {p q r d m : Int} (hm : 0 < m) (hS : 0 ≤ q * q * r) (hd : 0 < d) : hvZ (m * p) (m * q) r (m * d) = hvZ p q r d := by
  unfold hvZ
  rw [fl_scale hm hS hd, Int.mul_left_comm 2 m p, Int.mul_left_comm 2 m q, Int.mul_left_comm _ m d, ordZ_scale hm]
end Go.Proofs.YtpjhdjakpbabhaaGreatDoor
namespace Go.Proofs.YtpjhdjakpbabhaaGreatDoor
open Go.RowKit PR
set_option linter.unusedVariables false
def pvB (c0 c1 c2 a f m : Int) : Bool := decide (c0 ≤ a ∧ c1 ≤ a ∧ c2 ≤ a ∧ a ≤ f ∧ f ≤ m)
def gsV (n m : Int) : Int :=
  bif ieq (gmod n 8) 0 then 0 else bif ieq (gmod n 8) 1 then m else bif ieq (gmod n 8) 2 then m
  else bif ieq (gmod n 8) 3 then iconv .u16 (iquo .i64 (iadd .i64 (iconv .i64 m) (gmod (iquo .i64 n 8) 2)) 2)
  else bif ieq (gmod n 8) 4 then iconv .u16 (iimin (iconv .i64 m) (gmod (iquo .i64 n 8) 4))
  else iconv .u16 (gmod (iquo .i64 n 8) (iadd .i64 (iconv .i64 m) 1))
def gpF (n4 m : Int) : Int := gsV n4 m
def gpA (n3 n4 m : Int) : Int := bif igt (gmod n3 3) 0 then gsV (iquo .i64 n3 3) (gpF n4 m) else gpF n4 m
def gpC (n n3 n4 m : Int) : Int := gsV n (gpA n3 n4 m)
end Go.Proofs.YtpjhdjakpbabhaaGreatDoor
namespace Go.Proofs.YtpjhdjakpbabhaaGreatDoor
open Go.RowKit PR
set_option linter.unusedVariables false
theorem in16_iff {a : Int} : in16 a = true ↔ 0 ≤ a ∧ a < 65536 := by simp [in16]
theorem u16_id {a : Int} (h : 0 ≤ a) (k : a < 65536) : iconv .u16 a = a := by unfold iconv; rw [IntKind.wrap_u16]; omega
theorem u64_id {a : Int} (h : 0 ≤ a) (k : a < 18446744073709551616) : iconv .u64 a = a := by unfold iconv; rw [IntKind.wrap_u64]; omega
theorem i64_id {a : Int} (h : 0 ≤ a) (k : a < 9223372036854775808) : iconv .i64 a = a := by unfold iconv; exact IntWalk.i64_in _ (by omega)
theorem half_div (n d : Nat) (h : 0 < d) : half n d = (2 * n + d) / (2 * d) := by
  have e := Nat.div_add_mod n d
  have l := Nat.mod_lt n h
  symm
  unfold half
  rw [if_neg (by omega)]
  generalize n / d = q at *
  generalize n % d = r at *
  have a1 : q * (2 * d) = 2 * (d * q) := by rw [Nat.mul_comm d q, ← Nat.mul_assoc, Nat.mul_comm q 2, Nat.mul_assoc]
  split
  · apply Nat.div_eq_of_lt_le
    · simp only [Nat.add_mul, a1]; omega
    · simp only [Nat.add_mul, a1]; omega
  · apply Nat.div_eq_of_lt_le
    · rw [a1]; omega
    · show 2 * n + d < (q + 1) * (2 * d)
      rw [Nat.add_mul, a1]; omega
theorem hlf_div {n d : Int} (hn : 0 ≤ n) (hd : 0 < d) : hlf n d = (2 * n + d) / (2 * d) := by
  unfold hlf
  rw [half_div _ _ (by omega)]
  simp only [Int.natCast_ediv, Int.natCast_add, Int.natCast_mul]
  rw [Int.toNat_of_nonneg hn, Int.toNat_of_nonneg (by omega)]
  rfl
theorem hlf_zero (n : Int) : hlf n 0 = 0 := by unfold hlf half; simp
theorem a_rndhalf : Answers 93 s_half := by
  intro args v bs h hok
  unfold s_half at h
  split at h <;> try (simp at h; done)
  simp only [Option.some.injEq, Prod.mk.injEq] at h
  obtain ⟨rfl, rfl⟩ := h
  obtain ⟨h1, h2, _⟩ := hok
  obtain ⟨a, rfl, ha⟩ := inU_nat h1
  obtain ⟨b, rfl, hb'⟩ := inU_nat h2
  refine does_of_calls Tryz.func93 (by kernel_rfl) (by kernel_rfl) fun w => (half_any a b ha hb' w).mono ?_
  rintro e w' ⟨rfl, hx⟩
  exact ⟨rfl, by obtain ⟨m, rfl⟩ := hx; exact below_drewN _ _⟩
theorem gmod_range (n : Int) {k : Int} (h : 0 < k) : 0 ≤ gmod n k ∧ gmod n k < k := by
  unfold gmod; exact ⟨Int.emod_nonneg _ (by omega), Int.emod_lt_of_pos _ h⟩
theorem gsV_range (n : Int) {m : Int} (h : in16 m = true) : 0 ≤ gsV n m ∧ gsV n m ≤ m := by
  rw [in16_iff] at h
  have em : iconv .i64 m = m := i64_id h.1 (by omega)
  unfold gsV
  simp only [Bool.cond_eq_ite]
  split
  · omega
  split
  · omega
  split
  · omega
  split
  · have g := gmod_range (iquo .i64 n 8) (k := 2) (by decide)
    generalize gmod (iquo .i64 n 8) 2 = z at *
    have e1 : iadd .i64 (iconv .i64 m) z = m + z := by
      rw [em]; unfold iadd; exact IntWalk.i64_in _ (by omega)
    have e2 : iquo .i64 (m + z) 2 = (m + z) / 2 := by
      unfold iquo; rw [Int.tdiv_eq_ediv_of_nonneg (by omega)]; exact IntWalk.i64_in _ (by omega)
    rw [e1, e2, u16_id (by omega) (by omega)]
    omega
  split
  · have g := gmod_range (iquo .i64 n 8) (k := 4) (by decide)
    have e1 : 0 ≤ iimin m (gmod (iquo .i64 n 8) 4) ∧ iimin m (gmod (iquo .i64 n 8) 4) ≤ m := by unfold iimin; split <;> omega
    rw [em, u16_id (by omega) (by omega)]
    omega
  · have e1 : iadd .i64 (iconv .i64 m) 1 = m + 1 := by
      rw [em]; unfold iadd; exact IntWalk.i64_in _ (by omega)
    have g := gmod_range (iquo .i64 n 8) (k := m + 1) (by omega)
    rw [e1, u16_id (by omega) (by omega)]
    omega
theorem gsV_in16 (n : Int) {m : Int} (h : in16 m = true) : in16 (gsV n m) = true := by
  have := gsV_range n h
  rw [in16_iff] at *
  omega
theorem modOk_lit {k : Int} (h : 1 ≤ k) (h' : k ≤ 65536) : modOk k = true := decide_eq_true (by omega)
theorem gpF_in16 (n4 : Int) {m : Int} (h : in16 m = true) : in16 (gpF n4 m) = true := gsV_in16 _ h
theorem gpA_range (n3 n4 : Int) {m : Int} (h : in16 m = true) : 0 ≤ gpA n3 n4 m ∧ gpA n3 n4 m ≤ gpF n4 m := by
  have k := gpF_in16 n4 h
  unfold gpA
  simp only [Bool.cond_eq_ite]
  split
  · exact gsV_range _ k
  · rw [in16_iff] at k; omega
theorem gpA_in16 (n3 n4 : Int) {m : Int} (h : in16 m = true) : in16 (gpA n3 n4 m) = true := by
  have := gpA_range n3 n4 h
  have k := gpF_in16 n4 h
  rw [in16_iff] at *
  omega
theorem gpC_range (n n3 n4 : Int) {m : Int} (h : in16 m = true) : 0 ≤ gpC n n3 n4 m ∧ gpC n n3 n4 m ≤ gpA n3 n4 m := gsV_range _ (gpA_in16 n3 n4 h)
theorem gp_valid (n0 n1 n2 n3 n4 : Int) {m : Int} (h : in16 m = true) : pvB (gpC n0 n3 n4 m) (gpC n1 n3 n4 m) (gpC n2 n3 n4 m) (gpA n3 n4 m) (gpF n4 m) m = true := by
  have a0 := gpC_range n0 n3 n4 h
  have a1 := gpC_range n1 n3 n4 h
  have a2 := gpC_range n2 n3 n4 h
  have a3 := gpA_range n3 n4 h
  have a4 : 0 ≤ gpF n4 m ∧ gpF n4 m ≤ m := gsV_range n4 h
  exact decide_eq_true (by omega)
end Go.Proofs.YtpjhdjakpbabhaaGreatDoor
