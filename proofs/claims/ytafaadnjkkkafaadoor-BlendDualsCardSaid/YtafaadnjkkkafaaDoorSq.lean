/-
  Layer 3 (surd) and its specification: the conditions of the calls, without the loops.
-/
import Derived.Test.YtafaadnjkkkafaaDoorSp
namespace Go.Proofs.YtafaadnjkkkafaaDoor
open Go.RowKit PR
set_option linter.unusedVariables false

-- SPEC ordOk sqH sqL ordI rtI tmI vldB qtI enL enH
def ordOk (q r : Int) : Bool := decide (0 ≤ q ∧ q < 140737488355328 ∧ 0 ≤ r ∧ r < 8589934592)
def sqH (q r : Int) : Int := hi64 (q * q * r)
def sqL (q r : Int) : Int := lo64 (q * q * r)
def cmpZ (a b : Int) : Int := if a < b then -1 else if a = b then 0 else 1
def ordZ (p q r m : Int) : Int := if m < p then 1 else cmpZ (q * q * r) ((m - p) * (m - p))
def ordI (ph pl q r d n : Int) : Int := ordZ (w2 ph pl) q r (n * d)
def rtI (q r h l : Int) : Int := cmpZ (q * q * r) (w2 h l * w2 h l)
def tmI (t : Bool) (ph pl q r d n : Int) : Int := bif t then ordZ (2 * w2 ph pl) (2 * q) r (n * d) else ordI ph pl q r d n
def vldB (ph q r d : Int) : Bool := decide (ph < 4294967296) && decide (q < 70368744177664) && decide (r < 8589934592) && decide (1 ≤ d)
def qtI (h l d : Int) : Int := if w2 h l / d < 9223372036854775808 then w2 h l / d else 9223372036854775808
def isqUp (r : Int) : Int := 2 ^ (((Lib.bitLenAux 64 r.toNat : Nat) + 1) / 2)
def enL (ph pl d : Int) : Int := qtI ph pl d
def enH (ph pl q r d : Int) : Int := if (w2 ph pl + q * isqUp r) / d < 9223372036854775808 then (w2 ph pl + q * isqUp r) / d else 9223372036854775808
def s_square : List Value → Option (Value × List Bool)
  | [.agg ⟨[.int .u64 ph, .int .u64 pl, .int .u64 q, .int .u64 r, .int .u64 d]⟩] => some (.agg #[.int .u64 (sqH q r), .int .u64 (sqL q r)], [ordOk q r])
  | _ => none
def s_order : List Value → Option (Value × List Bool)
  | [.agg ⟨[.int .u64 ph, .int .u64 pl, .int .u64 q, .int .u64 r, .int .u64 d]⟩, .int .u64 n] => some (.int .i64 (ordI ph pl q r d n), [inU ph, inU pl, ordOk q r, inU d, inU n])
  | _ => none
def s_root : List Value → Option (Value × List Bool)
  | [.agg ⟨[.int .u64 ph, .int .u64 pl, .int .u64 q, .int .u64 r, .int .u64 d]⟩, .agg ⟨[.int .u64 h, .int .u64 l]⟩] => some (.int .i64 (rtI q r h l), [ordOk q r, inU h, inU l])
  | _ => none
def s_times : List Value → Option (Value × List Bool)
  | [.agg ⟨[.int .u64 ph, .int .u64 pl, .int .u64 q, .int .u64 r, .int .u64 d]⟩, .bool t, .int .u64 n] => some (.int .i64 (tmI t ph pl q r d n), [inU ph, inU pl, vldB ph q r d, inU q, inU r, inU d, inU n])
  | _ => none
def s_valid : List Value → Option (Value × List Bool)
  | [.agg ⟨[.int .u64 ph, .int .u64 pl, .int .u64 q, .int .u64 r, .int .u64 d]⟩] => some (.bool (vldB ph q r d), [])
  | _ => none
def s_quotient : List Value → Option (Value × List Bool)
  | [.agg ⟨[.int .u64 h, .int .u64 l]⟩, .int .u64 d] => some (.int .u64 (qtI h l d), [inU h, inU l, inU d, ine d 0])
  | _ => none

def o_square : Oracle := orc [(61, s_mul), (51, s_mulsmall)]
set_option maxRecDepth 100000 in
theorem square_vc (ph pl q r d : Int) (V : Value → Prop) : evalBody Tryd.prog (o_square) (noLoops) (Tryd.f63.body.getD .skip) Tryd.f63.results.toList Tryd.f63.ntmps [.agg #[.int .u64 ph, .int .u64 pl, .int .u64 q, .int .u64 r, .int .u64 d]] V = ((inU (wmH q q) = true ∧ inU (wmL q q) = true ∧ inU r = true ∧ inU q = true ∧ inU q = true ∧ True) ∧ V (Value.agg #[Value.int .u64 (wkH (wmH q q) (wmL q q) r), Value.int .u64 (wkL (wmH q q) (wmL q q) r)])) := by
  try delta o_square
  try delta s_mul
  try delta s_mulsmall
  generalize @inU = inU
  generalize @wkH = wkH
  generalize @wkL = wkL
  generalize @wkOk = wkOk
  generalize @wmH = wmH
  generalize @wmL = wmL
  kernel_rfl
def o_order : Oracle := orc [(61, s_mul), (62, s_cmp), (63, s_square), (64, s_of), (65, s_sub)]
set_option maxRecDepth 100000 in
theorem order_vc (ph pl q r d n : Int) (V : Value → Prop) : evalBody Tryd.prog (o_order) (noLoops) (Tryd.f52.body.getD .skip) Tryd.f52.results.toList Tryd.f52.ntmps [.agg #[.int .u64 ph, .int .u64 pl, .int .u64 q, .int .u64 r, .int .u64 d], .int .u64 n] V = (bcond (ieq (wcmp ph pl (wmH n d) (wmL n d)) 1) ((inU ph = true ∧ inU pl = true ∧ inU (wmH n d) = true ∧ inU (wmL n d) = true ∧ inU n = true ∧ inU d = true ∧ True) ∧ V (Value.int .i64 1)) (bcond (ieq (wcmp ph pl (wmH n d) (wmL n d)) 0) ((inU (sqH q r) = true ∧ inU (sqL q r) = true ∧ inU 0 = true ∧ inU 0 = true ∧ inU 0 = true ∧ ordOk q r = true ∧ inU ph = true ∧ inU pl = true ∧ inU (wmH n d) = true ∧ inU (wmL n d) = true ∧ inU n = true ∧ inU d = true ∧ True) ∧ V (Value.int .i64 (wcmp (sqH q r) (sqL q r) 0 0))) (bcond (ine (wsH (wmH n d) (wmL n d) ph pl) 0) ((inU (wmH n d) = true ∧ inU (wmL n d) = true ∧ inU ph = true ∧ inU pl = true ∧ inU ph = true ∧ inU pl = true ∧ inU (wmH n d) = true ∧ inU (wmL n d) = true ∧ inU n = true ∧ inU d = true ∧ True) ∧ V (Value.int .i64 (-1))) ((inU (sqH q r) = true ∧ inU (sqL q r) = true ∧ inU (wmH (wsL (wmH n d) (wmL n d) ph pl) (wsL (wmH n d) (wmL n d) ph pl)) = true ∧ inU (wmL (wsL (wmH n d) (wmL n d) ph pl) (wsL (wmH n d) (wmL n d) ph pl)) = true ∧ inU (wsL (wmH n d) (wmL n d) ph pl) = true ∧ inU (wsL (wmH n d) (wmL n d) ph pl) = true ∧ ordOk q r = true ∧ inU (wmH n d) = true ∧ inU (wmL n d) = true ∧ inU ph = true ∧ inU pl = true ∧ inU ph = true ∧ inU pl = true ∧ inU (wmH n d) = true ∧ inU (wmL n d) = true ∧ inU n = true ∧ inU d = true ∧ True) ∧ V (Value.int .i64 (wcmp (sqH q r) (sqL q r) (wmH (wsL (wmH n d) (wmL n d) ph pl) (wsL (wmH n d) (wmL n d) ph pl)) (wmL (wsL (wmH n d) (wmL n d) ph pl) (wsL (wmH n d) (wmL n d) ph pl)))))))) := by
  try delta o_order
  try delta s_mul
  try delta s_cmp
  try delta s_square
  try delta s_of
  try delta s_sub
  generalize @inU = inU
  generalize @ordOk = ordOk
  generalize @sqH = sqH
  generalize @sqL = sqL
  generalize @wcmp = wcmp
  generalize @wmH = wmH
  generalize @wmL = wmL
  generalize @wsH = wsH
  generalize @wsL = wsL
  generalize @wsOk = wsOk
  kernel_rfl
def o_root : Oracle := orc [(46, s_mul), (45, s_mulsmall), (47, s_cmp)]
set_option maxRecDepth 100000 in
theorem root_vc (ph pl q r d h l : Int) (V : Value → Prop) : evalBody Tryd.prog (o_root) (noLoops) (Tryd.f54.body.getD .skip) Tryd.f54.results.toList Tryd.f54.ntmps [.agg #[.int .u64 ph, .int .u64 pl, .int .u64 q, .int .u64 r, .int .u64 d], .agg #[.int .u64 h, .int .u64 l]] V = (bcond (igt h 0) (True ∧ V (Value.int .i64 (-1))) ((inU (wkH (wmH q q) (wmL q q) r) = true ∧ inU (wkL (wmH q q) (wmL q q) r) = true ∧ inU (wmH l l) = true ∧ inU (wmL l l) = true ∧ inU l = true ∧ inU l = true ∧ inU (wmH q q) = true ∧ inU (wmL q q) = true ∧ inU r = true ∧ inU q = true ∧ inU q = true ∧ True) ∧ V (Value.int .i64 (wcmp (wkH (wmH q q) (wmL q q) r) (wkL (wmH q q) (wmL q q) r) (wmH l l) (wmL l l))))) := by
  try delta o_root
  try delta s_mul
  try delta s_mulsmall
  try delta s_cmp
  generalize @inU = inU
  generalize @wcmp = wcmp
  generalize @wkH = wkH
  generalize @wkL = wkL
  generalize @wkOk = wkOk
  generalize @wmH = wmH
  generalize @wmL = wmL
  kernel_rfl
def o_times : Oracle := orc [(46, s_mul), (49, s_add), (35, s_sub), (54, s_root)]
set_option maxRecDepth 100000 in
theorem times_vc (ph pl q r d n : Int) (t : Bool) (V : Value → Prop) : evalBody Tryd.prog (o_times) (noLoops) (Tryd.f38.body.getD .skip) Tryd.f38.results.toList Tryd.f38.ntmps [.agg #[.int .u64 ph, .int .u64 pl, .int .u64 q, .int .u64 r, .int .u64 d], .bool t, .int .u64 n] V = (bcond t (bcond (bnot (wsOk (wmH n d) (wmL n d) (waH ph pl ph pl) (waL ph pl ph pl))) ((inU (wmH n d) = true ∧ inU (wmL n d) = true ∧ inU (waH ph pl ph pl) = true ∧ inU (waL ph pl ph pl) = true ∧ inU ph = true ∧ inU pl = true ∧ inU ph = true ∧ inU pl = true ∧ inU n = true ∧ inU d = true ∧ True) ∧ V (Value.int .i64 1)) ((ordOk (imul IntKind.u64 2 q) r = true ∧ inU (wsH (wmH n d) (wmL n d) (waH ph pl ph pl) (waL ph pl ph pl)) = true ∧ inU (wsL (wmH n d) (wmL n d) (waH ph pl ph pl) (waL ph pl ph pl)) = true ∧ inU (wmH n d) = true ∧ inU (wmL n d) = true ∧ inU (waH ph pl ph pl) = true ∧ inU (waL ph pl ph pl) = true ∧ inU ph = true ∧ inU pl = true ∧ inU ph = true ∧ inU pl = true ∧ inU n = true ∧ inU d = true ∧ True) ∧ V (Value.int .i64 (rtI (imul IntKind.u64 2 q) r (wsH (wmH n d) (wmL n d) (waH ph pl ph pl) (waL ph pl ph pl)) (wsL (wmH n d) (wmL n d) (waH ph pl ph pl) (waL ph pl ph pl)))))) (bcond (bnot (wsOk (wmH n d) (wmL n d) ph pl)) ((inU (wmH n d) = true ∧ inU (wmL n d) = true ∧ inU ph = true ∧ inU pl = true ∧ inU n = true ∧ inU d = true ∧ True) ∧ V (Value.int .i64 1)) ((ordOk q r = true ∧ inU (wsH (wmH n d) (wmL n d) ph pl) = true ∧ inU (wsL (wmH n d) (wmL n d) ph pl) = true ∧ inU (wmH n d) = true ∧ inU (wmL n d) = true ∧ inU ph = true ∧ inU pl = true ∧ inU n = true ∧ inU d = true ∧ True) ∧ V (Value.int .i64 (rtI q r (wsH (wmH n d) (wmL n d) ph pl) (wsL (wmH n d) (wmL n d) ph pl)))))) := by
  try delta o_times
  try delta s_mul
  try delta s_add
  try delta s_sub
  try delta s_root
  generalize @inU = inU
  generalize @ordOk = ordOk
  generalize @rtI = rtI
  generalize @waH = waH
  generalize @waL = waL
  generalize @waOk = waOk
  generalize @wmH = wmH
  generalize @wmL = wmL
  generalize @wsH = wsH
  generalize @wsL = wsL
  generalize @wsOk = wsOk
  kernel_rfl
set_option maxRecDepth 100000 in
theorem valid_vc (ph pl q r d : Int) (V : Value → Prop) : evalBody Tryd.prog (orc []) (noLoops) (Tryd.f59.body.getD .skip) Tryd.f59.results.toList Tryd.f59.ntmps [.agg #[.int .u64 ph, .int .u64 pl, .int .u64 q, .int .u64 r, .int .u64 d]] V = (bcond (ilt ph 4294967296) (bcond (ilt q 70368744177664) (bcond (ilt r 8589934592) (True ∧ V (Value.bool (ige d 1))) (True ∧ V (Value.bool false))) (True ∧ V (Value.bool false))) (True ∧ V (Value.bool false))) := by
  kernel_rfl
set_option maxRecDepth 100000 in
theorem rvalid_vc (ph pl q r d : Int) (V : Value → Prop) : evalBody Tryd.prog (orc []) (noLoops) (Tryd.f24.body.getD .skip) Tryd.f24.results.toList Tryd.f24.ntmps [.agg #[.int .u64 ph, .int .u64 pl, .int .u64 q, .int .u64 r, .int .u64 d]] V = (bcond (ilt ph 4294967296) (bcond (ilt q 70368744177664) (bcond (ilt r 8589934592) (True ∧ V (Value.bool (ige d 1))) (True ∧ V (Value.bool false))) (True ∧ V (Value.bool false))) (True ∧ V (Value.bool false))) := by
  kernel_rfl
def o_quotient : Oracle := orc [(70, s_divmod)]
set_option maxRecDepth 100000 in
theorem quotient_vc (h l d : Int) (V : Value → Prop) : evalBody Tryd.prog (o_quotient) (noLoops) (Tryd.f68.body.getD .skip) Tryd.f68.results.toList Tryd.f68.ntmps [.agg #[.int .u64 h, .int .u64 l], .int .u64 d] V = (bcond (ine (wqH h l d) 0) ((inU h = true ∧ inU l = true ∧ inU d = true ∧ ine d 0 = true ∧ True) ∧ V (Value.int .u64 9223372036854775808)) ((inU h = true ∧ inU l = true ∧ inU d = true ∧ ine d 0 = true ∧ True) ∧ V (Value.int .u64 (iimin (wqL h l d) 9223372036854775808)))) := by
  try delta o_quotient
  try delta s_divmod
  generalize @inU = inU
  generalize @wqH = wqH
  generalize @wqL = wqL
  generalize @wqR = wqR
  kernel_rfl
def o_enclose : Oracle := orc [(66, s_len64), (64, s_of), (67, s_add), (68, s_quotient)]
set_option maxRecDepth 100000 in
theorem enclose_vc (ph pl q r d : Int) (V : Value → Prop) : evalBody Tryd.prog (o_enclose) (noLoops) (Tryd.f60.body.getD .skip) Tryd.f60.results.toList Tryd.f60.ntmps [.agg #[.int .u64 ph, .int .u64 pl, .int .u64 q, .int .u64 r, .int .u64 d]] V = ((inU (waH ph pl 0 (imul IntKind.u64 q (ishl IntKind.u64 1 (iquo IntKind.i64 (iadd IntKind.i64 (ilen r) 1) 2)))) = true ∧ inU (waL ph pl 0 (imul IntKind.u64 q (ishl IntKind.u64 1 (iquo IntKind.i64 (iadd IntKind.i64 (ilen r) 1) 2)))) = true ∧ inU d = true ∧ ine d 0 = true ∧ inU ph = true ∧ inU pl = true ∧ inU d = true ∧ ine d 0 = true ∧ inU ph = true ∧ inU pl = true ∧ inU 0 = true ∧ inU (imul IntKind.u64 q (ishl IntKind.u64 1 (iquo IntKind.i64 (iadd IntKind.i64 (ilen r) 1) 2))) = true ∧ inU (imul IntKind.u64 q (ishl IntKind.u64 1 (iquo IntKind.i64 (iadd IntKind.i64 (ilen r) 1) 2))) = true ∧ ige (iquo IntKind.i64 (iadd IntKind.i64 (ilen r) 1) 2) 0 = true ∧ true = true ∧ inU r = true ∧ True) ∧ V (Value.tuple #[Value.int .u64 (qtI ph pl d), Value.int .u64 (qtI (waH ph pl 0 (imul IntKind.u64 q (ishl IntKind.u64 1 (iquo IntKind.i64 (iadd IntKind.i64 (ilen r) 1) 2)))) (waL ph pl 0 (imul IntKind.u64 q (ishl IntKind.u64 1 (iquo IntKind.i64 (iadd IntKind.i64 (ilen r) 1) 2)))) d)])) := by
  try delta o_enclose
  try delta s_len64
  try delta s_of
  try delta s_add
  try delta s_quotient
  generalize @ilen = ilen
  generalize @inU = inU
  generalize @qtI = qtI
  generalize @waH = waH
  generalize @waL = waL
  generalize @waOk = waOk
  kernel_rfl
set_option maxRecDepth 100000 in
theorem below_vc (n : Int) (V : Value → Prop) : evalBody Tryd.prog (orc []) (noLoops) (Tryd.f53.body.getD .skip) Tryd.f53.results.toList Tryd.f53.ntmps [.int .u64 n] V = (bcond (ige n 9223372036854775808) (True ∧ V (Value.tuple #[Value.int .u64 0, Value.bool false])) (True ∧ V (Value.tuple #[Value.int .u64 n, Value.bool true]))) := by
  kernel_rfl

theorem ordOk_iff {q r : Int} : ordOk q r = true ↔ 0 ≤ q ∧ q < 140737488355328 ∧ 0 ≤ r ∧ r < 8589934592 := by simp [ordOk]
theorem sq_range {q r : Int} (h : ordOk q r = true) : inU q = true ∧ inU r = true ∧ 0 ≤ q * q * r ∧ q * q * r < 170141183460469231731687303715884105728 := by
  obtain ⟨h1, h2, h3, h4⟩ := ordOk_iff.1 h
  have a1 := Int.mul_nonneg h1 h1
  have a2 := Int.mul_nonneg a1 h3
  have b1 := Int.mul_le_mul (by omega : q ≤ 140737488355327) (by omega : q ≤ 140737488355327) h1 (by decide)
  have b2 := Int.mul_le_mul b1 (by omega : r ≤ 8589934591) h3 (by decide)
  rw [inU_iff, inU_iff]
  omega
theorem sq_words {q r : Int} (h : ordOk q r = true) : inU (sqH q r) = true ∧ inU (sqL q r) = true ∧ w2 (sqH q r) (sqL q r) = q * q * r := by
  obtain ⟨_, _, h3, h4⟩ := sq_range h
  exact hilo_range _ h3 (by omega)

theorem a_square : Answers 63 s_square := by
  intro args v bs h hok
  unfold s_square at h
  split at h <;> try (simp at h; done)
  rename_i ph pl q r d
  simp only [Option.some.injEq, Prod.mk.injEq] at h
  obtain ⟨rfl, rfl⟩ := h
  refine does_of_eval (O := o_square) (orc_cons a_mul (orc_cons a_mulsmall orc_nil)) mixed (noLoops) Tryd.func63 (by kernel_rfl) (by kernel_rfl) rfl ?_
  rw [square_vc]
  obtain ⟨o1, _⟩ := hok
  obtain ⟨i1, i2, r1, r2⟩ := sq_range o1
  obtain ⟨m1, m2, m3⟩ := wm_spec i1 i1
  have k := wk_spec m1 m2 i2
  have ok : wkOk (wmH q q) (wmL q q) r = true := by unfold wkOk; rw [m3]; exact decide_eq_true (by omega)
  simp only [i1, i2, m1, m2, true_and]
  unfold wkH wkL
  rw [ok, m3]
  rfl

theorem a_order : Answers 52 s_order := by
  intro args v bs h hok
  unfold s_order at h
  split at h <;> try (simp at h; done)
  rename_i ph pl q r d n
  simp only [Option.some.injEq, Prod.mk.injEq] at h
  obtain ⟨rfl, rfl⟩ := h
  refine does_of_eval (O := o_order) (orc_cons a_mul (orc_cons a_cmp (orc_cons a_square (orc_cons a_of (orc_cons a_sub orc_nil))))) mixed (noLoops) Tryd.func52 (by kernel_rfl) (by kernel_rfl) rfl ?_
  rw [order_vc]
  obtain ⟨p1, p2, o1, d1, n1, _⟩ := hok
  obtain ⟨i1, i2, r1, r2⟩ := sq_range o1
  obtain ⟨s1, s2, s3⟩ := sq_words o1
  obtain ⟨m1, m2, m3⟩ := wm_spec n1 d1
  obtain ⟨t1, t2, t3⟩ := ws_spec m1 m2 p1 p2
  have P := w2_range p1 p2
  have M := w2_range m1 m2
  obtain ⟨u1, u2, u3⟩ := wm_spec t2 t2
  have z : inU 0 = true := rfl
  simp only [bcond_iff, p1, p2, m1, m2, s1, s2, z, o1, d1, n1, t2, u1, u2, true_and, Value.int.injEq, ieq, ine, beq_iff_eq, beq_eq_false_iff_ne, bne_iff_ne, bne_eq_false_iff_eq, ne_eq]
  unfold ordI ordZ
  rw [← m3]
  refine ⟨fun h => ?_, fun h => ⟨fun h' => ?_, fun h' => ⟨fun h'' => ?_, fun h'' => ?_⟩⟩⟩
  · unfold wcmp at h
    rw [if_pos (by split at h <;> (try split at h) <;> omega)]
  · unfold wcmp at h'
    have e : w2 (wmH n d) (wmL n d) = w2 ph pl := by split at h' <;> (try split at h') <;> omega
    rw [if_neg (by omega), e, Int.sub_self]
    unfold wcmp cmpZ
    rw [s3]; rfl
  · have lt : w2 ph pl < w2 (wmH n d) (wmL n d) := by
      unfold wcmp at h h'; split at h <;> (try split at h) <;> (try split at h') <;> (try split at h') <;> omega
    have ok : wsOk (wmH n d) (wmL n d) ph pl = true := decide_eq_true (by omega)
    have t3 := t3 ok
    have big : 18446744073709551616 ≤ w2 (wmH n d) (wmL n d) - w2 ph pl := by
      rw [← t3]; unfold w2; rw [inU_iff] at t1 t2; omega
    have := Int.mul_le_mul big big (by decide) (by omega)
    rw [if_neg (by omega)]
    unfold cmpZ
    rw [if_pos (by omega)]
  · have lt : w2 ph pl < w2 (wmH n d) (wmL n d) := by
      unfold wcmp at h h'; split at h <;> (try split at h) <;> (try split at h') <;> (try split at h') <;> omega
    have ok : wsOk (wmH n d) (wmL n d) ph pl = true := decide_eq_true (by omega)
    have t3 := t3 ok
    have e : wsL (wmH n d) (wmL n d) ph pl = w2 (wmH n d) (wmL n d) - w2 ph pl := by
      rw [← t3, h'']; unfold w2; omega
    rw [if_neg (by omega)]
    unfold wcmp
    rw [u3, s3, e]
    rfl

theorem rt_spec {q r h l : Int} (ho : ordOk q r = true) (h1 : inU h = true) (h2 : inU l = true) (hh : h ≠ 0) : rtI q r h l = -1 := by
  obtain ⟨_, _, r1, r2⟩ := sq_range ho
  have big : 18446744073709551616 ≤ w2 h l := by unfold w2; rw [inU_iff] at h1 h2; omega
  have := Int.mul_le_mul big big (by decide) (by omega)
  unfold rtI cmpZ
  rw [if_pos (by omega)]

theorem a_root : Answers 54 s_root := by
  intro args v bs h hok
  unfold s_root at h
  split at h <;> try (simp at h; done)
  rename_i ph pl q r d h l
  simp only [Option.some.injEq, Prod.mk.injEq] at h
  obtain ⟨rfl, rfl⟩ := h
  refine does_of_eval (O := o_root) (orc_cons a_rmul (orc_cons a_rmulsmall (orc_cons a_rcmp orc_nil))) mixed (noLoops) Tryd.func54 (by kernel_rfl) (by kernel_rfl) rfl ?_
  rw [root_vc]
  obtain ⟨o1, h1, h2, _⟩ := hok
  obtain ⟨i1, i2, r1, r2⟩ := sq_range o1
  obtain ⟨m1, m2, m3⟩ := wm_spec i1 i1
  obtain ⟨k1, k2, k3⟩ := wk_spec m1 m2 i2
  have ok : wkOk (wmH q q) (wmL q q) r = true := by unfold wkOk; rw [m3]; exact decide_eq_true (by omega)
  have k3 := k3 ok
  obtain ⟨u1, u2, u3⟩ := wm_spec h2 h2
  simp only [bcond_iff, i1, i2, m1, m2, k1, k2, u1, u2, h2, true_and, Value.int.injEq, igt, gt_iff_lt, decide_eq_true_eq, decide_eq_false_iff_not]
  refine ⟨fun hz => (rt_spec o1 h1 h2 (by omega)).symm, fun hz => ?_⟩
  have : w2 h l = l := by rw [inU_iff] at h1; unfold w2; omega
  unfold rtI wcmp
  rw [k3, m3, u3, this]
  rfl

theorem a_times : Answers 38 s_times := by
  intro args v bs h hok
  unfold s_times at h
  split at h <;> try (simp at h; done)
  rename_i ph pl q r d t n
  simp only [Option.some.injEq, Prod.mk.injEq] at h
  obtain ⟨rfl, rfl⟩ := h
  refine does_of_eval (O := o_times) (orc_cons a_rmul (orc_cons a_radd (orc_cons a_rsub (orc_cons a_root orc_nil)))) mixed (noLoops) Tryd.func38 (by kernel_rfl) (by kernel_rfl) rfl ?_
  rw [times_vc]
  obtain ⟨p1, p2, v1, q1, r1, d1, n1, _⟩ := hok
  simp only [vldB, Bool.and_eq_true, decide_eq_true_eq] at v1
  obtain ⟨⟨⟨v1, v2⟩, v3⟩, v4⟩ := v1
  have Q := inU_iff.1 q1
  have Rr := inU_iff.1 r1
  have PP := inU_iff.1 p1
  have PL := inU_iff.1 p2
  have o1 : ordOk q r = true := ordOk_iff.2 (by omega)
  have e2 : imul .u64 2 q = 2 * q := by unfold imul; rw [IntKind.wrap_u64]; omega
  have o2 : ordOk (2 * q) r = true := ordOk_iff.2 (by omega)
  obtain ⟨m1, m2, m3⟩ := wm_spec n1 d1
  obtain ⟨t1, t2, t3⟩ := ws_spec m1 m2 p1 p2
  obtain ⟨a1, a2, a3⟩ := wa_spec p1 p2 p1 p2
  have aok : waOk ph pl ph pl = true := by unfold waOk w2; exact decide_eq_true (by omega)
  have a3 := a3 aok
  obtain ⟨b1, b2, b3⟩ := ws_spec m1 m2 a1 a2
  simp only [bcond_iff, bnot, e2, p1, p2, m1, m2, o1, o2, d1, n1, t1, t2, a1, a2, b1, b2, true_and, Value.int.injEq, Bool.not_eq_true', Bool.not_eq_false']
  have fin : ∀ (P q r h l : Int), inU h = true → inU l = true → ((wsOk (wmH n d) (wmL n d) h l = false → (1 : Int) = ordZ (w2 h l) q r (n * d)) ∧ (wsOk (wmH n d) (wmL n d) h l = true → rtI q r (wsH (wmH n d) (wmL n d) h l) (wsL (wmH n d) (wmL n d) h l) = ordZ (w2 h l) q r (n * d))) := by
    intro P q r h l h1 h2
    obtain ⟨_, _, s3⟩ := ws_spec m1 m2 h1 h2
    rw [← m3]
    refine ⟨fun k => ?_, fun k => ?_⟩
    · have := of_decide_eq_false k
      unfold ordZ; rw [if_pos (by omega)]
    · have := of_decide_eq_true k
      unfold ordZ rtI; rw [if_neg (by omega), s3 k]
  refine ⟨fun h => ?_, fun h => ?_⟩
  · subst h
    have := fin 0 (2 * q) r _ _ a1 a2
    rw [a3, show w2 ph pl + w2 ph pl = 2 * w2 ph pl by omega] at this
    exact this
  · subst h
    exact fin 0 q r _ _ p1 p2

theorem valid_way {ph q r d : Int} : bcond (ilt ph 4294967296) (bcond (ilt q 70368744177664) (bcond (ilt r 8589934592) (True ∧ Value.bool (ige d 1) = Value.bool (vldB ph q r d)) (True ∧ Value.bool false = Value.bool (vldB ph q r d))) (True ∧ Value.bool false = Value.bool (vldB ph q r d))) (True ∧ Value.bool false = Value.bool (vldB ph q r d)) := by
  unfold vldB ilt ige
  simp only [ge_iff_le, bcond_iff, true_and, Value.bool.injEq]
  refine ⟨fun h1 => ⟨fun h2 => ⟨fun h3 => ?_, fun h3 => ?_⟩, fun h2 => ?_⟩, fun h1 => ?_⟩ <;> simp_all <;> omega
theorem a_valid : Answers 59 s_valid := by
  intro args v bs h hok
  unfold s_valid at h
  split at h <;> try (simp at h; done)
  rename_i ph pl q r d
  simp only [Option.some.injEq, Prod.mk.injEq] at h
  obtain ⟨rfl, rfl⟩ := h
  refine does_of_eval (O := (orc [])) orc_nil mixed (noLoops) Tryd.func59 (by kernel_rfl) (by kernel_rfl) rfl ?_
  rw [valid_vc]
  exact valid_way
theorem a_rvalid : Answers 24 s_valid := by
  intro args v bs h hok
  unfold s_valid at h
  split at h <;> try (simp at h; done)
  rename_i ph pl q r d
  simp only [Option.some.injEq, Prod.mk.injEq] at h
  obtain ⟨rfl, rfl⟩ := h
  refine does_of_eval (O := (orc [])) orc_nil mixed (noLoops) Tryd.func24 (by kernel_rfl) (by kernel_rfl) rfl ?_
  rw [rvalid_vc]
  exact valid_way

theorem a_quotient : Answers 68 s_quotient := by
  intro args v bs h hok
  unfold s_quotient at h
  split at h <;> try (simp at h; done)
  rename_i h l d
  simp only [Option.some.injEq, Prod.mk.injEq] at h
  obtain ⟨rfl, rfl⟩ := h
  refine does_of_eval (O := o_quotient) (orc_cons a_divmod orc_nil) mixed (noLoops) Tryd.func68 (by kernel_rfl) (by kernel_rfl) rfl ?_
  rw [quotient_vc]
  obtain ⟨h1, h2, d1, d0, _⟩ := hok
  simp only [ine, bne_iff_ne, ne_eq] at d0
  have D := inU_iff.1 d1
  obtain ⟨k1, k2, k3, _⟩ := wq_spec h1 h2 d1 (by omega)
  rw [inU_iff] at k1 k2
  simp only [bcond_iff, h1, h2, d1, ine, bne_iff_ne, ne_eq, d0, not_false_eq_true, bne_eq_false_iff_eq, true_and, Value.int.injEq]
  unfold qtI
  rw [← k3]
  unfold w2 iimin
  refine ⟨fun e => ?_, fun e => ?_⟩
  · rw [if_neg (by omega)]
  · rw [e]
    split <;> split <;> omega
end Go.Proofs.YtafaadnjkkkafaaDoor
