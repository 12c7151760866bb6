/-
  'PlaneEqualAgrees': the law returns true at every input, and its arguments read as before. No condition.
-/
import Derived.Test.YtjieldpnnopljaaRows
import Derived.WalkKit
import Derived.ProofKit
import Derived.OpenShut
import Derived.Laws.Cover2
import Derived.SizedLaws
import Derived.Test.YtjieldpnnopljaaBb
import Derived.Test.YtjieldpnnopljaaBf
import Derived.Test.YtjieldpnnopljaaRs
import Derived.Test.YtjieldpnnopljaaNe
namespace Go.Proofs.Ytjieldpnnopljaa.planeEqualAgrees
open Go.ChangeShapes Go.WideShapes Go.ChangeAt Go.RowKit
set_option linter.unusedVariables false

theorem own : ownKnob Try.prog.godebug = none := by kernel_rfl
theorem laidOut : laidOutB Try.prog = true := by kernel_rfl

theorem slice_size {H : Type} {enc : TypeId × Value → H} {W : World} {sp : Nat → Bool} {hd : Bool} {t e : TypeId} {a : Option Addr} {l c : Nat} {d : DataW H} {ps : List MemPlace} (ht : Try.prog.underlying t = some (.slice e)) (h : DataW.Trod enc Try.prog W 0 sp hd t (.slice a l c) d ps) : l = 0 ∨ ∃ el sp, d = .slice el sp ∧ l ≤ el.length := by
  obtain ⟨fuel, hf⟩ := h
  rcases Go.Deep.open_slice ht hf with ⟨h1, h2⟩ | ⟨a', len, cap, m, k, D, Pl, h1, hb, hl, hm, hmm, h2, hx⟩
  · have h1 : [Value.slice a l c] = [Value.slice none 0 0] := h1
    obtain ⟨rfl, rfl, rfl⟩ : a = none ∧ l = 0 ∧ c = 0 := by simpa using h1
    exact Or.inl rfl
  · have h1 : [Value.slice a l c] = [Value.slice (some a') len cap] := h1
    obtain ⟨rfl, rfl, rfl⟩ : a = some a' ∧ l = len ∧ c = cap := by simpa using h1
    obtain ⟨rfl, rfl⟩ := Prod.mk.inj h2
    exact Or.inr ⟨_, _, rfl, by simp⟩
set_option maxRecDepth 100000 in
theorem lifted (os : Os) (started : os.Started) (H : Type) (enc : TypeId × Value → H) :
    ReturnsInHanded {} Try.checked os 7 .any (Rows.planeEqualAgreesSpec.pre6 enc Try.prog Try.f7 Rows.planeEqualAgreesRow.domain false) (Rows.planeEqualAgreesSpec.post enc Try.prog Try.f7 false true false false) := by
  refine returnsInHanded_of_change_sized (C := Try.checked) own started (by kernel_rfl) Try.func7
    (ChangeSpec.witness6 (enc := enc) (C := Try.checked) false ⟨#[], #[.agg #[.int .i64 0, .int .i64 0, .int .i64 0, .int .i64 0, .slice none 0 0], .agg #[.int .i64 0, .int .i64 0, .int .i64 0, .int .i64 0, .slice none 0 0], .int .i64 0, .int .i64 0, .int .u16 0, .slice none 0 0], []⟩ 8 (by kernel_rfl) (by kernel_rfl) (by kernel_rfl) (by kernel_rfl)) ?_
  intro W base args ds gs before hval0 hW hcnd hsz _
  have hval : ∀ (j : Nat) t v, Try.f7.params[j]? = some t → args[j]? = some v → Value.okWide Try.prog W .any base t v := hval0
  have hW' := hW
  have hlt : ∀ x ∈ before, x.block < W.heap.size := fun x hx => by simpa using hW'.lt x hx
  obtain ⟨p, q, hA0, hV, rfl, hfz, hnd⟩ := hW
  have hA : DataW.TrodAll enc Try.prog W 0 (fun _ => true) true Try.f7.params.toList args.toList ds p := hA0
  rw [Try.params7] at hA hval
  obtain ⟨rfl, rfl⟩ := trodVars_none hV
  obtain ⟨v0, vs0, d0, ds0, p0, q0, hargs, rfl, rfl, h0, r0⟩ := trodAll_cons hA
  obtain ⟨v1, vs1, d1, ds1, p1, q1, rfl, rfl, rfl, h1, r1⟩ := trodAll_cons r0
  obtain ⟨v2, vs2, d2, ds2, p2, q2, rfl, rfl, rfl, h2, r2⟩ := trodAll_cons r1
  obtain ⟨v3, vs3, d3, ds3, p3, q3, rfl, rfl, rfl, h3, r3⟩ := trodAll_cons r2
  obtain ⟨v4, vs4, d4, ds4, p4, q4, rfl, rfl, rfl, h4, r4⟩ := trodAll_cons r3
  obtain ⟨v5, vs5, d5, ds5, p5, q5, rfl, rfl, rfl, h5, r5⟩ := trodAll_cons r4
  obtain ⟨rfl, rfl, rfl⟩ := trodAll_nil r5
  obtain rfl : args = #[v0, v1, v2, v3, v4, v5] := by cases args; simp_all
  obtain ⟨l0, rfl, F0⟩ := open_flat (P := Try.prog) [3, 3, 3, 3, 22] (by kernel_rfl) (Or.inl ⟨_, Try.underlying26⟩) (hval 0 26 v0 rfl rfl) h0
  obtain ⟨c0_0, m0_0, rfl, L0_0, F0⟩ := All2.cons F0
  obtain ⟨c0_1, m0_1, rfl, L0_1, F0⟩ := All2.cons F0
  obtain ⟨c0_2, m0_2, rfl, L0_2, F0⟩ := All2.cons F0
  obtain ⟨c0_3, m0_3, rfl, L0_3, F0⟩ := All2.cons F0
  obtain ⟨c0_4, m0_4, rfl, L0_4, F0⟩ := All2.cons F0
  obtain rfl := All2.nil F0
  obtain ⟨a0_0, rfl, w0_0⟩ := Leaf.int L0_0 Try.underlying3
  obtain ⟨a0_1, rfl, w0_1⟩ := Leaf.int L0_1 Try.underlying3
  obtain ⟨a0_2, rfl, w0_2⟩ := Leaf.int L0_2 Try.underlying3
  obtain ⟨a0_3, rfl, w0_3⟩ := Leaf.int L0_3 Try.underlying3
  obtain ⟨n0_4, l0_4, z0_4, w0_4, r0_4'⟩ := open_slc_ints [36] Try.underlying22 (by kernel_rfl) (by kernel_rfl) (by decide) (fun u hu => by rw [show u = 36 from by simpa using hu]; exact Try.underlying36) (L0_4)
  obtain ⟨l1, rfl, F1⟩ := open_flat (P := Try.prog) [3, 3, 3, 3, 22] (by kernel_rfl) (Or.inl ⟨_, Try.underlying26⟩) (hval 1 26 v1 rfl rfl) h1
  obtain ⟨c1_0, m1_0, rfl, L1_0, F1⟩ := All2.cons F1
  obtain ⟨c1_1, m1_1, rfl, L1_1, F1⟩ := All2.cons F1
  obtain ⟨c1_2, m1_2, rfl, L1_2, F1⟩ := All2.cons F1
  obtain ⟨c1_3, m1_3, rfl, L1_3, F1⟩ := All2.cons F1
  obtain ⟨c1_4, m1_4, rfl, L1_4, F1⟩ := All2.cons F1
  obtain rfl := All2.nil F1
  obtain ⟨a1_0, rfl, w1_0⟩ := Leaf.int L1_0 Try.underlying3
  obtain ⟨a1_1, rfl, w1_1⟩ := Leaf.int L1_1 Try.underlying3
  obtain ⟨a1_2, rfl, w1_2⟩ := Leaf.int L1_2 Try.underlying3
  obtain ⟨a1_3, rfl, w1_3⟩ := Leaf.int L1_3 Try.underlying3
  obtain ⟨n1_4, l1_4, z1_4, w1_4, r1_4'⟩ := open_slc_ints [36] Try.underlying22 (by kernel_rfl) (by kernel_rfl) (by decide) (fun u hu => by rw [show u = 36 from by simpa using hu]; exact Try.underlying36) (L1_4)
  obtain ⟨a2, rfl, rfl, rfl, w2⟩ := open_int Try.underlying3 (hval 2 3 v2 rfl rfl) h2
  obtain ⟨a3, rfl, rfl, rfl, w3⟩ := open_int Try.underlying3 (hval 3 3 v3 rfl rfl) h3
  obtain ⟨a4, rfl, rfl, rfl, w4⟩ := open_int Try.underlying36 (hval 4 36 v4 rfl rfl) h4
  obtain ⟨n5, l5, z5, w5, r5'⟩ := open_slc_ints [36] Try.underlying22 (by kernel_rfl) (by kernel_rfl) (by decide) (fun u hu => by rw [show u = 36 from by simpa using hu]; exact Try.underlying36) (leaf_slice Try.underlying22 (hval 5 22 v5 rfl rfl) h5)
  have tb5 : n5 * 2 ≤ 140737488351232 := by
    obtain ⟨a, l, c, hv⟩ := okWide_slice Try.underlying22 (hval 5 22 v5 rfl rfl)
    have r := r5' (fun _ => True) (fun _ _ => trivial)
    have h5 := h5
    rw [hv] at r h5
    have e := slc_len r
    rcases slice_size Try.underlying22 h5 with h0 | ⟨el, sp, hd, hl⟩
    · omega
    · have : (el.length + sp.length) * Try.prog.bytesOf 36 ≤ reachBytes := sized_slice hsz (j := 5) (t := 22) (e := 36) (by rw [Try.params7]; rfl) (by rw [hd]; rfl) Try.underlying22
      rw [show Try.prog.bytesOf 36 = 2 by kernel_rfl, show reachBytes = 140737488351232 by decide] at this
      omega
  obtain ⟨F, hG, hF, hFp⟩ := more_laid (w := W) (⟨_, no_tables (fun _ => rfl) W, fun _ h => h.elim⟩) hlt
  refine (PlaneEqualAgrees_core a0_0 a0_1 a0_2 a0_3 n0_4 l0_4 a1_0 a1_1 a1_2 a1_3 n1_4 l1_4 a2 a3 a4 n5 l5 tb5 w0_0 w0_1 w0_2 w0_3 z0_4 w0_4 w1_0 w1_1 w1_2 w1_3 z1_4 w1_4 w2 w3 w4 z5 w5 W hG hF c0_4 (r0_4' F (fun x hx => hFp x (by simp [hx]))) c1_4 (r1_4' F (fun x hx => hFp x (by simp [hx]))) v5 (r5' F (fun x hx => hFp x (by simp [hx])))).mono fun e W' ⟨he, hg⟩ => ?_
  subst he
  exact ⟨_, rfl, Law.keep laidOut (by rw [Try.params7]; exact of_decide_eq_true (by kernel_rfl)) rfl hW' hlt hg rfl rfl (fun _ _ _ => (trodAll_cons_mk (shut_bool Try.underlying4 _) trodAll_mk0))⟩

theorem over : Rows.planeEqualAgreesRow.holds Try.pinned (OpenSpec.ofChange Rows.planeEqualAgreesSpec) :=
  OpenClaim.holds_of_wide 7 Try.f7 rfl rfl rfl rfl rfl rfl rfl ⟨rfl, rfl, rfl, rfl, rfl⟩ rfl rfl rfl rfl rfl (by kernel_rfl) Try.func7 (by kernel_rfl)
    (of_decide_eq_true (by kernel_rfl)) (by unfold Func.isWrapper; first | (rw [if_pos (by decide +kernel)]; kernel_rfl) | (rw [if_neg (by decide +kernel)]; exact ⟨rfl, rfl⟩))
    (fun os started H enc _ => lifted os started H enc)

theorem proved : Rows.PlaneEqualAgreesSaid :=
  over
#print axioms proved
end Go.Proofs.Ytjieldpnnopljaa.planeEqualAgrees
