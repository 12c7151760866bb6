import Derived.Test.YtcckcifmhhaepaaZaa
import Derived.Test.YtcckcifmhhaepaaZh
namespace Go.Proofs.Ytcckcifmhhaepaa
open Go.RowKit PR QR
set_option linter.unusedVariables false
set_option linter.unusedSimpArgs false
set_option maxRecDepth 20000
theorem gim_size {W H x0 y0 x1 y1 : Int} (hg : gcv x0 y0 x1 y1 = true) :
    isub .i64 x1 x0 = x1 - x0 ∧ isub .i64 y1 y0 = y1 - y0 ∧ imul .i64 (x1 - x0) (y1 - y0) = (x1 - x0) * (y1 - y0) ∧ iadd .i64 1 (gmod W 5) = 1 + gmod W 5 ∧ iadd .i64 1 (gmod H 4) = 1 + gmod H 4 ∧ imul .i64 (1 + gmod W 5) (1 + gmod H 4) = (1 + gmod W 5) * (1 + gmod H 4) ∧
    (1 ≤ gimW W x0 x1 ∧ gimW W x0 x1 ≤ 1024) ∧ (1 ≤ gimH W H y0 y1 ∧ gimH W H y0 y1 ≤ 1024) ∧ 1 ≤ gimW W x0 x1 * gimH W H y0 y1 ∧ gimW W x0 x1 * gimH W H y0 y1 ≤ 1048576 := by
  have g := of_decide_eq_true hg
  have e5 := gmod_range W (show (0 : Int) < 5 by decide)
  have e4 := gmod_range H (show (0 : Int) < 4 by decide)
  have mulb : ∀ a b : Int, 1 ≤ a → a ≤ 1024 → 1 ≤ b → b ≤ 1024 → 1 ≤ a * b ∧ a * b ≤ 1048576 := fun a b a1 a2 b1 b2 => by
    have := Int.mul_le_mul a2 b2 (by omega) (by omega)
    have : 1 * 1 ≤ a * b := Int.mul_le_mul a1 b1 (by omega) (by omega)
    omega
  have w1 : 1 ≤ gimW W x0 x1 ∧ gimW W x0 x1 ≤ 1024 := by unfold gimW; split <;> omega
  have h1 : 1 ≤ gimH W H y0 y1 ∧ gimH W H y0 y1 ≤ 1024 := by unfold gimH; split <;> omega
  have m1 := mulb _ _ g.1.1 g.1.2 g.2.1 g.2.2
  have m2 := mulb (1 + gmod W 5) (1 + gmod H 4) (by omega) (by omega) (by omega) (by omega)
  have m3 := mulb _ _ w1.1 w1.2 h1.1 h1.2
  refine ⟨?_, ?_, ?_, ?_, ?_, ?_, w1, h1, m3⟩
  · unfold isub; rw [IntKind.wrap_i64]; omega
  · unfold isub; rw [IntKind.wrap_i64]; omega
  · unfold imul; rw [IntKind.wrap_i64]; omega
  · unfold iadd; rw [IntKind.wrap_i64]; omega
  · unfold iadd; rw [IntKind.wrap_i64]; omega
  · unfold imul; rw [IntKind.wrap_i64]; omega
theorem a_gim : Answers2 13 s_gimg := by
  intro al ans hh hq
  unfold s_gimg at hh
  split at hh <;> try (simp at hh; done)
  rename_i W H S md c x0 y0 x1 y1 t
  cases en : slcOf 5 c with
  | none => simp [en] at hh
  | some pn =>
  obtain ⟨n, rn⟩ := pn
  simp only [en] at hh
  simp only [Option.some.injEq] at hh
  subst hh
  obtain ⟨q, hdn⟩ : ∃ q : Int → Nat → Int, q = fun i j => intC (den rn i j) := ⟨_, rfl⟩
  try rw [← hdn]
  refine does_args2 (al' := [.x (.agg [.v (.int .i64 W), .v (.int .i64 H), .v (.int .i64 S), .v (.int .i64 md), .slc 5 n (.fn fun i j => .v (.int .i64 (q i j)))]), .x (.agg [.v (.int .i64 x0), .v (.int .i64 y0), .v (.int .i64 x1), .v (.int .i64 y1)]), .x (.c (.v (.int .u16 t)))]) ⟨⟨.v _, .v _, .v _, .v _, (hdn ▸ slcOf_ints en (by decide) (hq _ (by simp))), trivial⟩, ⟨.v _, .v _, .v _, .v _, trivial⟩, .v _, trivial⟩ ?_
  have hq := asked hq
  refine QR.does_of_eval (O := o_gim) (QR.orc_cons (up a_mod) (QR.orc_cons a_gps (QR.orc_cons a_risol (QR.orc_cons a_rio QR.orc_nil)))) mixed (QR.noLoops) Try.func13 (by kernel_rfl) (by kernel_rfl) (by simp) ?_
  rw [gim_vc]
  delta zz14 zz15 zz142 zz143
  obtain ⟨_, hn, ht, hg, _⟩ := hq
  simp only [forall_eq, true_and, and_true]
  have hn := ile_tt hn
  obtain ⟨z1, z2, z3, z4, z5, z6, w1, h1, m1, m2⟩ := gim_size (W := W) (H := H) hg
  have ri : intRow .i64 5 n (.fn fun i j => .v (.int .i64 (q i j))) := fun i j _ _ => rfl
  have ru : ∀ k : Int, intRow .u16 5 k (.fn fun i j => .v (.int .u16 (gpxV md n (fun i j => q i j) t i j))) := fun k i j _ _ => rfl
  have i64 : ∀ x : Int, 1 ≤ x ∧ x ≤ 1024 → in64 x = true := fun x h => in64_iff.2 (by omega)
  have b2 : modOk 2 = true := rfl
  have sol : ieq (gmod S 2) 0 = true → gimV W H S md n q x0 y0 x1 y1 t = imSol (gimW W x0 x1) (gimH W H y0 y1) (gpxV md n q t 0 0) (gpxV md n q t 0 1) (gpxV md n q t 0 2) (gpxV md n q t 0 3) (gpxV md n q t 0 4) := fun h => by
    unfold gimV; rw [show (gmod S 2 == 0) = true from h]; rfl
  have pln : ieq (gmod S 2) 0 = false → gimV W H S md n q x0 y0 x1 y1 t = imofV (gimW W x0 x1) (gimH W H y0 y1) (gimW W x0 x1 * gimH W H y0 y1) (gpxV md n q t) := fun h => by
    unfold gimV; rw [show (gmod S 2 == 0) = false from h]; rfl
  have mx : ∀ x : Int, 1 ≤ x → iimax x 0 = x := fun x h => by unfold iimax; split <;> omega
  have fin : ∀ w h : Int, w = gimW W x0 x1 → h = gimH W H y0 y1 → ile (w * h) 1099511627776 = true ∧ modOk 2 = true ∧ ilt 0 (iimax (w * h) 0) = true ∧ in64 w = true ∧ in64 h = true ∧ ile 0 (iimax (w * h) 0) = true ∧ iimax (w * h) 0 = gimW W x0 x1 * gimH W H y0 y1 := fun w h e1 e2 => by
    subst e1 e2
    rw [mx _ m1]
    exact ⟨ile_t (by omega), rfl, ilt_t (by omega), i64 _ w1, i64 _ h1, ile_t (by omega), rfl⟩
  have key : ∀ w h : Int, w = gimW W x0 x1 → h = gimH W H y0 y1 → (intRow .i64 5 n (.fn fun i j => .v (.int .i64 (q i j))) ∧ ile 0 n = true ∧ in16 t = true ∧ ile (w * h) 1099511627776 = true) ∧ modOk 2 = true ∧
      bcond (ieq (gmod S 2) 0) (ilt 0 (iimax (w * h) 0) = true ∧ okAns ⟨[.agg (imC (gimV W H S md n q x0 y0 x1 y1 t))], [], [intRow .i64 5 n rn, ile 0 n = true, in16 t = true, gcv x0 y0 x1 y1 = true]⟩ [.agg (imC (imSol w h (gpxV md n q t 0 0) (gpxV md n q t 0 1) (gpxV md n q t 0 2) (gpxV md n q t 0 3) (gpxV md n q t 0 4)))] [])
        ((intRow .u16 5 (iimax (w * h) 0) (.fn fun i j => .v (.int .u16 (gpxV md n (fun i j => q i j) t i j))) ∧ in64 w = true ∧ in64 h = true ∧ ile 0 (iimax (w * h) 0) = true) ∧
          okAns ⟨[.agg (imC (gimV W H S md n q x0 y0 x1 y1 t))], [], [intRow .i64 5 n rn, ile 0 n = true, in16 t = true, gcv x0 y0 x1 y1 = true]⟩ [.agg (imC (imofV w h (iimax (w * h) 0) fun i j => gpxV md n (fun i j => q i j) t i j))] []) := fun w h e1 e2 => by
    obtain ⟨f1, f2, f3, f4, f5, f6, f7⟩ := fin w h e1 e2
    refine ⟨⟨ri, ile_t hn, ht, f1⟩, b2, bcond_iff.2 ⟨fun c => ⟨f3, ⟨?_, trivial⟩, trivial⟩, fun c => ⟨⟨ru _, f4, f5, f6⟩, ⟨?_, trivial⟩, trivial⟩⟩⟩
    · rw [sol c, e1, e2]; exact eq_sol _ _ _ _ _ _ _
    · rw [pln c, f7, e1, e2]; exact imof_congr fun _ _ _ _ => rfl
  refine ⟨⟨rfl, rfl⟩, rfl, bcond_iff.2 ⟨fun c => ?_, fun c => ?_⟩⟩
  · rw [z1, z2, z3]
    have c := ieq_t2 c
    exact key (x1 - x0) (y1 - y0) (by unfold gimW; rw [if_pos c]) (by unfold gimH; rw [if_pos c])
  · rw [z4, z5, z6]
    have c := ieq_ff c
    exact key (1 + gmod W 5) (1 + gmod H 4) (by unfold gimW; rw [if_neg c]) (by unfold gimH; rw [if_neg c])
end Go.Proofs.Ytcckcifmhhaepaa
