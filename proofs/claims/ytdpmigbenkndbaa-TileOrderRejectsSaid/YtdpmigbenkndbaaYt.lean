import Derived.Test.YtdpmigbenkndbaaYs
import Derived.Test.YtdpmigbenkndbaaYq
import Derived.Test.YtdpmigbenkndbaaYe
namespace Go.Proofs.Ytdpmigbenkndbaa
open Go.RowKit PR QR
set_option linter.unusedVariables false
set_option linter.unusedSimpArgs false
set_option maxRecDepth 20000
theorem orI_0 (l : Int → Nat → Int) {n : Int} (h0 : 0 ≤ n) : orI 0 l n n :=
  ⟨⟨h0, Int.le_refl n⟩, fun j j0 j1 => ⟨by rw [orW_0]; omega, fun k _ hk => by rw [orW_0, orW_0]; omega⟩⟩
theorem or_perm (m : Int) (l : Int → Nat → Int) {n : Int} (h0 : 0 ≤ n) (h1 : n ≤ 64) : orB (pmN m n) (fun i _ => pmO m l n n i) n = true := by
  refine orB_iff.2 ⟨⟨h0, by omega⟩, ?_⟩
  unfold pmN
  by_cases c : pmB m n = true
  · rw [if_pos c]
    by_cases z : n = 0
    · subst z; exact ⟨Or.inl rfl, orI_0 _ (Int.le_refl 0)⟩
    · exact ⟨Or.inr rfl, pm_order m l (by omega)⟩
  · rw [if_neg c]
    exact ⟨Or.inl rfl, orI_0 _ h0⟩
theorem orN_in (m : Int) (l : Int → Nat → Int) (n : Int) : 0 ≤ orN m l n ∧ orN m l n ≤ 16777216 := by
  unfold orN
  split
  · rename_i h; exact (orB_iff.1 h).1
  · omega
theorem same_rfl (z : Nat) (n : Int) (r : QR.Row) : sameR z n n r r = true := sameR_iff.2 ⟨rfl, fun _ _ _ _ => rfl⟩
theorem pmN_in (m : Int) {n : Int} (h : 0 ≤ n) : 0 ≤ pmN m n ∧ pmN m n ≤ n := by unfold pmN; split <;> omega
theorem flat_fn17 (k : IntKind) (z : Nat) (n : Int) (f : Int → Nat → Int) : flatRow z n (.fn fun i j => .v (.int k (f i j))) := fun i j _ _ => rfl
theorem irow_a (n : Int) (f : Int → Nat → Int) : intRow .i64 1 n (((QR.Row.zer [.int .i64 0]).upd 0 0 (.v (.int .i64 1))).app 1 (.fn fun i j => .v (.int .i64 (f i j)))) := fun a j _ hj => by
  obtain rfl : j = 0 := by omega
  show csel (ilt a 1) (csel (ieq a 0) (.v (.int .i64 1)) (.v (.int .i64 0))) (.v (.int .i64 (f (subZ a 1) 0))) = .v (.int .i64 (intC (csel (ilt a 1) (csel (ieq a 0) (.v (.int .i64 1)) (.v (.int .i64 0))) (.v (.int .i64 (f (subZ a 1) 0))))))
  cases ilt a 1 <;> cases ieq a 0 <;> rfl
theorem irow_u (n i v : Int) (f : Int → Int) : intRow .i64 1 n ((QR.Row.fn fun a _ => .v (.int .i64 (f a))).upd i 0 (.v (.int .i64 v))) := fun a j _ hj => by
  obtain rfl : j = 0 := by omega
  show csel (ieq a i) (.v (.int .i64 v)) (.v (.int .i64 (f a))) = .v (.int .i64 (intC (csel (ieq a i) (.v (.int .i64 v)) (.v (.int .i64 (f a))))))
  cases ieq a i <;> rfl
theorem irow_ua (n c i v : Int) (f : Int → Int) : intRow .i64 1 n (((QR.Row.fn fun a _ => .v (.int .i64 (f a))).upd i 0 (.v (.int .i64 v))).app c ((QR.Row.zer [.int .i64 0]).upd 0 0 (.v (.int .i64 0)))) := fun a j _ hj => by
  obtain rfl : j = 0 := by omega
  show csel (ilt a c) (csel (ieq a i) (.v (.int .i64 v)) (.v (.int .i64 (f a)))) (csel (ieq (subZ a c) 0) (.v (.int .i64 0)) (.v (.int .i64 0))) = .v (.int .i64 (intC (csel (ilt a c) (csel (ieq a i) (.v (.int .i64 v)) (.v (.int .i64 (f a)))) (csel (ieq (subZ a c) 0) (.v (.int .i64 0)) (.v (.int .i64 0))))))
  cases ilt a c <;> cases ieq a i <;> cases ieq (subZ a c) 0 <;> rfl
theorem irow_0 (k : IntKind) (z : Nat) (r : QR.Row) : intRow k z 0 r := fun i j hi _ => by omega
theorem orN_f {m : Int} {l : Int → Nat → Int} {n : Int} (h : orB m l n = false) : orN m l n = 0 := by unfold orN; rw [h]; rfl
set_option linter.unusedVariables false in
theorem TileOrderAgrees_core (ln : Nat) (l : Int → Nat → Int) (n size : Int) (bn : Nat) (bl : Int → Nat → Int) (z0 : ln ≤ maxLen) (w0 : ∀ i j : Nat, i < ln → j < 1 → (Lit.int .i64 (l i j)).wf = true) (w1 : (Lit.int .i64 n).wf = true) (w2 : (Lit.int .i64 size).wf = true) (z1 : bn ≤ maxLen) (w3 : ∀ i j : Nat, i < bn → j < 1 → (Lit.int .i64 (bl i j)).wf = true) (w : World) {F : Nat → Prop} (hG : QR.Laid F w) (hF : ∀ k, F k → k < w.heap.size) (x0 : Value) (r0 : QR.Rep F w (.slc 1 ((ln : Nat) : Int) (.fn fun i j => .v (.int .i64 (l i j)))) x0) (x1 : Value) (r1 : QR.Rep F w (.slc 1 ((bn : Nat) : Int) (.fn fun i j => .v (.int .i64 (bl i j)))) x1) :
    Calls Try.prog 6 #[x0, .int .i64 n, .int .i64 size, x1] w fun e w' => e = .returned (.bool true) ∧ Below w.heap.size w w' := by
  refine law_of_conc (O := o_law17o) (QR.orc_cons (up a_mod) (QR.orc_cons a_tperm (QR.orc_cons a_torder (QR.orc_cons a_forder (QR.orc_cons a_sints (QR.orc_cons a_awake17 QR.orc_nil)))))) mixed (QR.noLoops) Try.func6 (by kernel_rfl) (vs := [x0, .int .i64 n, .int .i64 size, x1]) (args := [.x (.c (.slc 1 ((ln : Nat) : Int) (.fn fun i j => .v (.int .i64 (l i j))))), .x (.c (.v (.int .i64 n))), .x (.c (.v (.int .i64 size))), .x (.c (.slc 1 ((bn : Nat) : Int) (.fn fun i j => .v (.int .i64 (bl i j)))))]) (by simp) ?_ w hG hF ⟨r0, .v rfl, .v rfl, r1, rfl⟩
  rw [TileOrderAgrees_vc]
  have k30 : modOk 30 = true := rfl
  have k40 : modOk 40 = true := rfl
  have gr := gmod_range size (k := 30) (by decide)
  have P := or_perm (bn : Int) (fun i _ => bl i 0) gr.1 (by omega)
  have c0 : ile 0 (gmod size 30) = true := ile_t gr.1
  have n1 : ile 0 (bn : Int) = true := ile_t (Int.natCast_nonneg bn)
  have n2 : ile 0 (ln : Int) = true := ile_t (Int.natCast_nonneg ln)
  have p0 : ile 0 (pmN (bn : Int) (gmod size 30)) = true := ile_t (pmN_in _ gr.1).1
  have o0 : ∀ m l n, ile 0 (orN m l n) = true := fun m l n => ile_t (orN_in m l n).1
  have o1 : ∀ m l n, ile (orN m l n) 1099511627776 = true := fun m l n => ile_t (by have := (orN_in m l n).2; omega)
  simp only [forall_eq, k30, k40, P, c0, n1, n2, p0, o0, o1, same_rfl, beq_rfl', intRow_fn, bcond_iff, okAns, eqXs, eqX, eqo, eqLo, eqL, eqc, veq, eqUs, true_and, and_true, and_self, true_implies, reduceCtorEq, false_implies]
set_option linter.unusedVariables false in
theorem TileOrderRejects_core (size : Int) (bn : Nat) (bl : Int → Nat → Int) (at' v : Int) (tb : bn * 8 ≤ 140737488351232) (w0 : (Lit.int .i64 size).wf = true) (z0 : bn ≤ maxLen) (w1 : ∀ i j : Nat, i < bn → j < 1 → (Lit.int .i64 (bl i j)).wf = true) (w2 : (Lit.int .i64 at').wf = true) (w3 : (Lit.int .i64 v).wf = true) (w : World) {F : Nat → Prop} (hG : QR.Laid F w) (hF : ∀ k, F k → k < w.heap.size) (x0 : Value) (r0 : QR.Rep F w (.slc 1 ((bn : Nat) : Int) (.fn fun i j => .v (.int .i64 (bl i j)))) x0) :
    Calls Try.prog 7 #[.int .i64 size, x0, .int .i64 at', .int .i64 v] w fun e w' => e = .returned (.bool true) ∧ Below w.heap.size w w' := by
  refine law_of_conc (O := o_law17f) (QR.orc_cons QR.a_flat (QR.orc_cons (up a_mod) (QR.orc_cons a_tperm (QR.orc_cons a_torder (QR.orc_cons a_awake17 QR.orc_nil))))) mixed (QR.noLoops) Try.func7 (by kernel_rfl) (vs := [.int .i64 size, x0, .int .i64 at', .int .i64 v]) (args := [.x (.c (.v (.int .i64 size))), .x (.c (.slc 1 ((bn : Nat) : Int) (.fn fun i j => .v (.int .i64 (bl i j))))), .x (.c (.v (.int .i64 at'))), .x (.c (.v (.int .i64 v)))]) (by simp) ?_ w hG hF ⟨.v rfl, r0, .v rfl, .v rfl, rfl⟩
  rw [TileOrderRejects_vc]
  have k20 : modOk 20 = true := rfl
  have k1000 : modOk 1000 = true := rfl
  have gr := gmod_range size (k := 20) (by decide)
  have gv := gmod_range v (k := 1000) (by decide)
  have er : iadd .i64 1 (gmod size 20) = 1 + gmod size 20 := IntWalk.i64_in _ (by omega)
  have e1 : isub .i64 (-1) (gmod v 1000) = -1 - gmod v 1000 := IntWalk.i64_in _ (by omega)
  have e2 : iadd .i64 16777217 (gmod v 1000) = 16777217 + gmod v 1000 := IntWalk.i64_in _ (by omega)
  simp only [forall_eq, er, e1, e2]
  generalize hc : 1 + gmod size 20 = c
  have hc1 : 1 ≤ c ∧ c ≤ 20 := by omega
  have pn : pmN (addZ 1 (bn : Int)) c = c := by unfold pmN pmB addZ; simp; omega
  rw [pn]
  have hp := pm_order (addZ 1 (bn : Int)) (fun i _ => isel (ilt i 1) (isel (ieq i 0) 1 0) (bl (subZ i 1) 0)) hc1.1
  have on := fun v v0 v1 => pm_onto (addZ 1 (bn : Int)) (fun i _ => isel (ilt i 1) (isel (ieq i 0) 1 0) (bl (subZ i 1) 0)) (n := c) (v := v) v0 v1
  have fl := flat_fn17
  generalize hP : (fun a => pmO (addZ 1 (bn : Int)) (fun i _ => isel (ilt i 1) (isel (ieq i 0) 1 0) (bl (subZ i 1) 0)) c c a) = p at hp on
  have ep : ∀ a, pmO (addZ 1 (bn : Int)) (fun i _ => isel (ilt i 1) (isel (ieq i 0) 1 0) (bl (subZ i 1) 0)) c c a = p a := fun a => by rw [← hP]
  simp only [ep] at hp on ⊢
  have gi := gmod_range at' (k := c) (by omega)
  have kc : modOk c = true := decide_eq_true (by omega)
  generalize gmod at' c = i at *
  have U : orB c (fun a _ => isel (ieq a i) v (p a)) c = ieq v (p i) := by
    rw [Bool.eq_iff_iff, orB_iff, or_upd hp on gi.1 gi.2]
    unfold ieq
    rw [beq_iff_eq]
    exact ⟨fun h => h.2.2, fun h => ⟨⟨by omega, by omega⟩, Or.inr rfl, h⟩⟩
  have W : ∀ l, orB (addZ c 1) l c = false := fun l => orB_f fun h => by have := h.2.1; unfold addZ at this; omega
  have W2 : ∀ l, orN (addZ c 1) l c = 0 := fun l => orN_f (W l)
  have N1 : ∀ l, orB 0 l (-1 - gmod v 1000) = false := fun l => orB_f fun h => by have := h.1; omega
  have N2 : ∀ l, orB 0 l (16777217 + gmod v 1000) = false := fun l => orB_f fun h => by have := h.1; omega
  have a1 : ile 0 (addZ 1 (bn : Int)) = true := ile_t (by unfold addZ; omega)
  have a2 : ile 0 c = true := ile_t (by omega)
  have a3 : ile (imulZ (addZ 1 (bn : Int)) 8) 140737488355328 = true := ile_t (by unfold imulZ addZ; omega)
  have a4 : ile 0 i = true := ile_t gi.1
  have a5 : ilt i c = true := ilt_t gi.2
  have a6 : ile 0 (addZ c 1) = true := ile_t (by unfold addZ; omega)
  have a7 : ile (imulZ (addZ c 1) 8) 140737488355328 = true := ile_t (by unfold imulZ addZ; omega)
  cases hv : ieq v (p i) with
  | false =>
    have U2 := orN_f (U.trans hv)
    simp only [k20, k1000, kc, U, U2, hv, W, W2, N1, N2, a1, a2, a3, a4, a5, a6, a7, flat_fn17, irow_a, irow_u, irow_ua, irow_0, bnot, beq_rfl', ieq_rfl', bcond_iff, okAns, eqXs, eqX, eqo, eqLo, eqL, eqc, veq, eqUs, forall_eq, true_and, and_true, and_self, true_implies, reduceCtorEq, false_implies, Bool.not_false, Bool.not_true]
  | true =>
    simp only [k20, k1000, kc, U, hv, W, W2, N1, N2, a1, a2, a3, a4, a5, a6, a7, flat_fn17, irow_a, irow_u, irow_ua, irow_0, bnot, beq_rfl', ieq_rfl', bcond_iff, okAns, eqXs, eqX, eqo, eqLo, eqL, eqc, veq, eqUs, forall_eq, true_and, and_true, and_self, true_implies, reduceCtorEq, false_implies, Bool.not_false, Bool.not_true]
end Go.Proofs.Ytdpmigbenkndbaa
