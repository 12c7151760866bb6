import Derived.Test.YtcckcifmhhaepaaZaa
import Derived.Test.YtcckcifmhhaepaaZy
namespace Go.Proofs.Ytcckcifmhhaepaa
open Go.RowKit PR QR
set_option linter.unusedVariables false
set_option linter.unusedSimpArgs false
set_option maxRecDepth 20000
theorem a_cover15 : Answers2 14 s_cover15 := by
  intro al ans h hq
  unfold s_cover15 at h
  split at h <;> try (simp at h; done)
  skip
  simp only [Option.some.injEq] at h
  subst h
  have hq := asked hq
  refine QR.does_of_eval (O := (QR.orc [])) QR.orc_nil mixed (QR.noLoops) Try.func14 (by kernel_rfl) (by kernel_rfl) (by simp) ?_
  rw [cover15_vc]
  simp [okAns, eqXs, eqX, eqo, eqLo, eqL, eqc, veq, eqUs]
theorem a_iofA : Answers2 20 s_imofA := a_iof
def row15 : QR.Row := (QR.Row.upd (QR.Row.upd (QR.Row.upd (QR.Row.upd (QR.Row.upd (QR.Row.upd (QR.Row.upd (QR.Row.upd (QR.Row.upd (QR.Row.upd (QR.Row.zer [Value.int .u16 0, Value.int .u16 0, Value.int .u16 0, Value.int .u16 0, Value.int .u16 0]) 0 0 (CV.v (Value.int .u16 1))) 0 1 (CV.v (Value.int .u16 2))) 0 2 (CV.v (Value.int .u16 3))) 0 3 (CV.v (Value.int .u16 4))) 0 4 (CV.v (Value.int .u16 5))) 1 0 (CV.v (Value.int .u16 1))) 1 1 (CV.v (Value.int .u16 2))) 1 2 (CV.v (Value.int .u16 3))) 1 3 (CV.v (Value.int .u16 4))) 1 4 (CV.v (Value.int .u16 5)))
theorem row15_k {i : Int} {k : Nat} (h0 : 0 ≤ i) (h1 : i < 2) (hk : k < 5) : den row15 i k = .v (.int .u16 (k + 1)) := by
  have hi : i = 0 ∨ i = 1 := by omega
  have hk' : k = 0 ∨ k = 1 ∨ k = 2 ∨ k = 3 ∨ k = 4 := by omega
  rcases hi with rfl | rfl <;> rcases hk' with rfl | rfl | rfl | rfl | rfl <;> rfl
theorem rowQ_k {i : Int} {k : Nat} (h0 : 0 ≤ i) (h1 : i < 2) (hk : k < 5) : rowQ row15 i k = k + 1 := by unfold rowQ; rw [row15_k h0 h1 hk]; rfl
def im15 : Im := imofV 1 2 2 (rowQ row15)
def s15 (w h : Int) : Im := { w := w, h := h, sol := true, c0 := 1, c1 := 2, c2 := 3, a := 4, f := 5, p0 := { w := 0, h := 0, s := 0, n := 0, l := fun (i : Int) => 0 }, p1 := { w := 0, h := 0, s := 0, n := 0, l := fun (i : Int) => 0 }, p2 := { w := 0, h := 0, s := 0, n := 0, l := fun (i : Int) => 0 }, p3 := { w := 0, h := 0, s := 0, n := 0, l := fun (i : Int) => 0 }, p4 := { w := 0, h := 0, s := 0, n := 0, l := fun (i : Int) => 0 } }
theorem ok15 : imofOk 1 2 2 = true := by decide
theorem good15 : imR im15 := imof_good ok15 fun i k h0 h1 hk => by rw [rowQ_k h0 h1 hk]; exact in16_iff.2 (by omega)
theorem px15 {k : Nat} (hk : k < 5) {x y : Int} (hx : 0 ≤ x ∧ x < 1) (hy : 0 ≤ y ∧ y < 2) : pxV im15 k x y = k + 1 := by
  unfold im15; rw [imof_px ok15 hk]; exact rowQ_k (by omega) (by omega) hk
theorem s15_good {w h : Int} (f : fitB w h = true) : imR (s15 w h) := sol_good f rfl rfl rfl rfl rfl
theorem s15_px {w h : Int} {k : Nat} (hk : k < 5) (x y : Int) : pxV (s15 w h) k x y = k + 1 := by
  have hk' : k = 0 ∨ k = 1 ∨ k = 2 ∨ k = 3 ∨ k = 4 := by omega
  rcases hk' with rfl | rfl | rfl | rfl | rfl <;> rfl
theorem eq15 : imEq (s15 1 2) im15 = true := px_eq ⟨rfl, rfl, fun k x y hk x0 x1 y0 y1 => by rw [s15_px hk, px15 hk ⟨x0, x1⟩ ⟨y0, y1⟩]⟩ (s15_good rfl).2.1 good15.2.1
theorem ime15 : imE im15 255 = 0 := ime_good good15.2.1 ((imAll_iff (ok_iff.1 good15.2.1).1).2 fun x y x0 x1 y0 y1 => by
  have hx : x < 1 := x1
  have hy : y < 2 := y1
  unfold pxB; rw [px15 (by decide) ⟨x0, hx⟩ ⟨y0, hy⟩, px15 (by decide) ⟨x0, hx⟩ ⟨y0, hy⟩, px15 (by decide) ⟨x0, hx⟩ ⟨y0, hy⟩, px15 (by decide) ⟨x0, hx⟩ ⟨y0, hy⟩, px15 (by decide) ⟨x0, hx⟩ ⟨y0, hy⟩]; rfl)
theorem pxA_s15 {k : Nat} (hk : k < 5) : pxA (s15 2 2) k 1 1 = k + 1 := by
  have i : imIn (s15 2 2) 1 1 = true := imIn_iff.2 ⟨(s15_good rfl).2.1, ⟨by decide, by decide⟩, by decide, by decide⟩
  unfold pxA; rw [i, cond_true, s15_px hk]
theorem pxA_15 (k : Nat) : pxA im15 k 2 0 = 0 := by
  have i : imIn im15 2 0 = false := by
    cases c : imIn im15 2 0 with
    | false => rfl
    | true => have := (imIn_iff.1 c).2.1.2; exact absurd this (by decide)
  unfold pxA; rw [i, cond_false]
theorem a_awake15 : Answers2 15 s_yes15 := by
  intro al ans h hq
  unfold s_yes15 at h
  split at h <;> try (simp at h; done)
  skip
  simp only [Option.some.injEq] at h
  subst h
  have hq := asked hq
  refine QR.does_of_eval (O := o_aw15) (QR.orc_cons a_iv (QR.orc_cons a_isol (QR.orc_cons a_iofA (QR.orc_cons a_iat (QR.orc_cons a_ipxs (QR.orc_cons a_ieq (QR.orc_cons a_icv (QR.orc_cons a_irp QR.orc_nil)))))))) mixed (QR.noLoops) Try.func15 (by kernel_rfl) (by kernel_rfl) (by simp) ?_
  rw [awake15_vc]
  delta zz114
  refine share_in fun mA e => ?_
  obtain rfl : mA = im15 := e
  have r5 : intRow .u16 5 2 row15 := fun i j hi hj => by
    have := row15_k (i := i) (k := j) (by omega) (by omega) hj
    rw [this]; rfl
  have g := good15.1
  have s2 : imG (s15 2 2) := (s15_good rfl).1
  have s1 : imG (s15 1 2) := (s15_good rfl).1
  have p0 := pxA_s15 (k := 0) (by decide)
  have p1 := pxA_s15 (k := 1) (by decide)
  have p2 := pxA_s15 (k := 2) (by decide)
  have p3 := pxA_s15 (k := 3) (by decide)
  have p4 := pxA_s15 (k := 4) (by decide)
  have q := eq15
  unfold s15 at p0 p1 p2 p3 p4 s1 s2 q
  unfold row15 at r5
  have i1 : in64 1 = true := rfl
  have i2 : in64 2 = true := rfl
  simp only [forall_eq, true_and, and_true, irow1, irow5, iR_t, iQ_t, r5, i1, i2, ok15, g, s1, s2, p0, p1, p2, p3, p4, q, ime15, pxA_15]
  simp [bcond_iff, okAns, eqXs, eqX, eqo, eqLo, eqc, veq, eqUs, band, ieq, bcond]
end Go.Proofs.Ytcckcifmhhaepaa
