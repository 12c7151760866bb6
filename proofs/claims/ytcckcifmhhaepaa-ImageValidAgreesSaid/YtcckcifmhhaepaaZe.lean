import Derived.Test.YtcckcifmhhaepaaZaa
import Derived.Test.YtcckcifmhhaepaaZd
import Derived.Test.YtcckcifmhhaepaaZc
namespace Go.Proofs.Ytcckcifmhhaepaa
open Go.RowKit PR QR
set_option linter.unusedVariables false
set_option linter.unusedSimpArgs false
set_option maxRecDepth 20000
theorem eq_zim : eqLo [.v (.int .i64 0), .v (.int .i64 0), .v (.bool false), .v (.int .u16 0), .v (.int .u16 0), .v (.int .u16 0), .v (.int .u16 0), .v (.int .u16 0), .v (.int .i64 0), .v (.int .i64 0), .v (.int .i64 0), .v (.slice none 0 0), .v (.int .i64 0), .v (.int .i64 0), .v (.int .i64 0), .v (.slice none 0 0), .v (.int .i64 0), .v (.int .i64 0), .v (.int .i64 0), .v (.slice none 0 0), .v (.int .i64 0), .v (.int .i64 0), .v (.int .i64 0), .v (.slice none 0 0), .v (.int .i64 0), .v (.int .i64 0), .v (.int .i64 0), .v (.slice none 0 0)] (imC imZero) := by
  have z1 : Nat.blt 0 1 = true := rfl
  simp [imC, imZero, plZero, eqLo, eqo, eqc, veq, nilC, z1]
theorem eq_sol (w h c0 c1 c2 a f : Int) : eqLo (imC (imSol w h c0 c1 c2 a f)) (imC (imSol w h c0 c1 c2 a f)) := by
  have z : ∀ r : QR.Row, EqC (.slc 1 0 r) (.slc 1 0 r) := fun r => .slc fun i j hi _ => by omega
  simp [imC, imSol, plZero, eqLo, eqo, eqc, veq, z]
theorem imof_t {w h n : Int} {q : Int → Nat → Int} (ok : imofOk w h n = true) : imofV w h n q = ⟨w, h, false, 0, 0, 0, 0, 0, plLaid w h n q 0, plLaid w h n q 1, plLaid w h n q 2, plLaid w h n q 3, plLaid w h n q 4⟩ := by unfold imofV; rw [ok]; rfl
theorem imof_f {w h n : Int} {q : Int → Nat → Int} (ok : imofOk w h n = false) : imofV w h n q = imZero := by unfold imofV; rw [ok]; rfl
theorem imof_congr {w h n : Int} {q q' : Int → Nat → Int} (H : ∀ (i k : Nat), (i : Int) < n → k < 5 → q i k = q' i k) : eqLo (imC (imofV w h n q)) (imC (imofV w h n q')) := by
  cases ok : imofOk w h n
  · rw [imof_f ok, imof_f ok]
    have z : ∀ r : QR.Row, EqC (.slc 1 0 r) (.slc 1 0 r) := fun r => .slc fun i j hi _ => by omega
    simp [imC, imZero, plZero, eqLo, eqo, eqc, veq, z]
  · rw [imof_t ok, imof_t ok]
    have K : ∀ k : Nat, k < 5 → EqC (.slc 1 n (.fn fun t _ => .v (.int .u16 (q t k)))) (.slc 1 n (.fn fun t _ => .v (.int .u16 (q' t k)))) := fun k hk => by
      refine .slc fun t j ht hj => ?_
      show EqC (.v (.int .u16 (q t k))) (.v (.int .u16 (q' t k)))
      rw [H t k ht hk]; exact .v _
    simp only [imC, plLaid, eqLo, eqo, eqc, veq, true_and, and_true, and_self]
    exact ⟨K 0 (by decide), K 1 (by decide), K 2 (by decide), K 3 (by decide), K 4 (by decide)⟩
theorem ix_in {m : Im} (ok : imOk m = true) {i : Int} (h0 : 0 ≤ i) (h1 : i < imN m) : imIn m (i % m.w) (i / m.w) = true := by
  have f4 := fit_iff.1 (ok_iff.1 ok).1
  have e : imN m = m.w * m.h := by unfold imN; rw [ok]; rfl
  rw [e] at h1
  have a := Int.emod_nonneg i (show m.w ≠ 0 by omega)
  have b := Int.emod_lt_of_pos i (show 0 < m.w by omega)
  have c := Int.ediv_nonneg h0 (show 0 ≤ m.w by omega)
  have d : i / m.w < m.h := Int.ediv_lt_of_lt_mul (by omega) (by rw [Int.mul_comm]; exact h1)
  exact imIn_iff.2 ⟨ok, ⟨a, b⟩, c, d⟩
theorem imCol16 {m : Im} (hG : imG m) (k : Nat) : in16 (imCol m k) = true := by
  obtain ⟨_, ⟨a, b, c, d, e⟩, _⟩ := hG
  match k with
  | 0 => exact a
  | 1 => exact b
  | 2 => exact c
  | 3 => exact d
  | _ + 4 => exact e
theorem imPlG {m : Im} (hG : imG m) (k : Nat) : plG (imPl m k) := by
  obtain ⟨_, _, a, b, c, d, e⟩ := hG
  match k with
  | 0 => exact a
  | 1 => exact b
  | 2 => exact c
  | 3 => exact d
  | _ + 4 => exact e
theorem px16 {m : Im} (hG : imG m) {x y : Int} (h : imIn m x y = true) {k : Nat} (hk : k < 5) : in16 (pxV m k x y) = true := by
  unfold pxV
  cases hs : m.sol
  · have := im_at h hs hk
    obtain ⟨p1, p2, _⟩ := at_lt this
    have g := (imPlG hG k).2.2.2.2 (patI (imPl m k).s x y).toNat (by omega)
    rw [Int.toNat_of_nonneg p1] at g
    exact g
  · exact imCol16 hG k
theorem ime_ok {m : Im} {t : Int} (h : imE m t = 0) : imOk m = true ∧ imAll m t = true := by
  unfold imE at h
  unfold imOk
  cases a : fitB m.w m.h <;> cases b : imF m <;> cases c : imAll m t <;> rw [a, b, c] at h <;> simp at h ⊢
theorem divmod_eq {w x y : Int} (x0 : 0 ≤ x) (x1 : x < w) : (y * w + x) / w = y ∧ (y * w + x) % w = x := by
  rw [Int.add_comm, Int.add_mul_ediv_right _ _ (by omega), Int.ediv_eq_zero_of_lt x0 x1, Int.zero_add, Int.add_mul_emod_self_right, Int.emod_eq_of_lt x0 x1]
  exact ⟨rfl, rfl⟩
theorem cov_in {w h a b c d : Int} (hw : 1 ≤ w) (hh : 1 ≤ h) (k : reB a b c d = false) (v : rcovB 0 0 w h a b c d = true) : 0 ≤ a ∧ 0 ≤ b ∧ c ≤ w ∧ d ≤ h ∧ a < c ∧ b < d := by
  have k' := re_f.1 k
  have v := of_decide_eq_true v
  rcases v with v | v
  · rw [k] at v; simp at v
  · unfold r4I r4T r4E at v
    by_cases e1 : reB 0 0 w h = true ∨ reB a b c d = true
    · rw [if_pos e1] at v
      have := congrArg R4.a v; have := congrArg R4.c v
      simp only [r4z] at *
      omega
    · rw [if_neg e1] at v
      generalize hX : (R4.mk (if 0 ≤ a then a else 0) (if 0 ≤ b then b else 0) (if w ≤ c then w else c) (if h ≤ d then h else d)) = X at v
      by_cases e2 : reB X.a X.b X.c X.d = true
      · rw [if_pos e2] at v
        have h1 := congrArg R4.a v; have h2 := congrArg R4.c v
        simp only [r4z] at h1 h2
        omega
      · rw [if_neg e2] at v
        subst v
        simp only [R4.mk.injEq] at hX
        obtain ⟨h1, h2, h3, h4⟩ := hX
        split at h1 <;> split at h2 <;> split at h3 <;> split at h4 <;> omega
theorem re_area {a b c d : Int} (k : reB a b c d = false) : raV a b c d = (c - a) * (d - b) := by unfold raV; rw [k]; rfl
end Go.Proofs.Ytcckcifmhhaepaa
