/-
  'TileOrderRejects': the law returns true at every input, and its arguments read as before. No condition.
-/
import Derived.Test.YtdpmigbenkndbaaRows
import Derived.WalkKit
import Derived.ProofKit
import Derived.OpenShut
import Derived.Laws.Cover2
import Derived.SizedLaws
import Derived.Test.YtdpmigbenkndbaaBb
import Derived.Test.YtdpmigbenkndbaaBf
import Derived.Test.YtdpmigbenkndbaaRs
import Derived.Test.YtdpmigbenkndbaaYt
namespace Go.Proofs.Ytdpmigbenkndbaa.tileOrderRejects
open Go.ChangeShapes Go.WideShapes Go.ChangeAt Go.RowKit
set_option linter.unusedVariables false
theorem own : ownKnob Try.prog.godebug = none := by kernel_rfl
theorem laidOut : laidOutB Try.prog = true := by kernel_rfl
theorem slice_size {H : Type} {enc : TypeId × Value → H} {W : World} {sp : Nat → Bool} {hd : Bool} {t e : TypeId} {a : Option Addr} {l c : Nat} {d : DataW H} {ps : List MemPlace} (ht : Try.prog.underlying t = some (.slice e)) (h : DataW.Trod enc Try.prog W 0 sp hd t (.slice a l c) d ps) : l = 0 ∨ ∃ el sp, d = .slice el sp ∧ l ≤ el.length := by
  obtain ⟨fuel, hf⟩ := h
  rcases Go.Deep.open_slice ht hf with ⟨h1, h2⟩ | ⟨a', len, cap, m, k, D, Pl, h1, hb, hl, hm, hmm, h2, hx⟩
  · have h1 : [Value.slice a l c] = [Value.slice none 0 0] := h1
    obtain ⟨rfl, rfl, rfl⟩ : a = none ∧ l = 0 ∧ c = 0 := by simpa using h1
    exact Or.inl rfl
  · have h1 : [Value.slice a l c] = [Value.slice (some a') len cap] := h1
    obtain ⟨rfl, rfl, rfl⟩ : a = some a' ∧ l = len ∧ c = cap := by simpa using h1
    obtain ⟨rfl, rfl⟩ := Prod.mk.inj h2
    exact Or.inr ⟨_, _, rfl, by simp⟩
set_option maxRecDepth 100000 in
theorem lifted (os : Os) (started : os.Started) (H : Type) (enc : TypeId × Value → H) :
    ReturnsInHanded {} Try.checked os 7 .any (Rows.tileOrderRejectsSpec.pre6 enc Try.prog Try.f7 Rows.tileOrderRejectsRow.domain false) (Rows.tileOrderRejectsSpec.post enc Try.prog Try.f7 false true false false) := by
  refine returnsInHanded_of_change_sized (C := Try.checked) own started (by kernel_rfl) Try.func7
    (ChangeSpec.witness6 (enc := enc) (C := Try.checked) false ⟨#[], #[.int .i64 0, .slice none 0 0, .int .i64 0, .int .i64 0], []⟩ 8 (by kernel_rfl) (by kernel_rfl) (by kernel_rfl) (by kernel_rfl)) ?_
  intro W base args ds gs before hval0 hW hcnd hsz _
  have hval : ∀ (j : Nat) t v, Try.f7.params[j]? = some t → args[j]? = some v → Value.okWide Try.prog W .any base t v := hval0
  have hW' := hW
  have hlt : ∀ x ∈ before, x.block < W.heap.size := fun x hx => by simpa using hW'.lt x hx
  obtain ⟨p, q, hA0, hV, rfl, hfz, hnd⟩ := hW
  have hA : DataW.TrodAll enc Try.prog W 0 (fun _ => true) true Try.f7.params.toList args.toList ds p := hA0
  rw [Try.params7] at hA hval
  obtain ⟨rfl, rfl⟩ := trodVars_none hV
  obtain ⟨v0, vs0, d0, ds0, p0, q0, hargs, rfl, rfl, h0, r0⟩ := trodAll_cons hA
  obtain ⟨v1, vs1, d1, ds1, p1, q1, rfl, rfl, rfl, h1, r1⟩ := trodAll_cons r0
  obtain ⟨v2, vs2, d2, ds2, p2, q2, rfl, rfl, rfl, h2, r2⟩ := trodAll_cons r1
  obtain ⟨v3, vs3, d3, ds3, p3, q3, rfl, rfl, rfl, h3, r3⟩ := trodAll_cons r2
  obtain ⟨rfl, rfl, rfl⟩ := trodAll_nil r3
  obtain rfl : args = #[v0, v1, v2, v3] := by cases args; simp_all
  obtain ⟨a0, rfl, rfl, rfl, w0⟩ := open_int Try.underlying3 (hval 0 3 v0 rfl rfl) h0
  obtain ⟨n1, l1, z1, w1, r1'⟩ := open_slc_ints [3] Try.underlying43 (by kernel_rfl) (by kernel_rfl) (by decide) (fun u hu => by rw [show u = 3 from by simpa using hu]; exact Try.underlying3) (leaf_slice Try.underlying43 (hval 1 43 v1 rfl rfl) h1)
  have tb1 : n1 * 8 ≤ 140737488351232 := by
    obtain ⟨a, l, c, hv⟩ := okWide_slice Try.underlying43 (hval 1 43 v1 rfl rfl)
    have r := r1' (fun _ => True) (fun _ _ => trivial)
    have h5 := h1
    rw [hv] at r h5
    have e := slc_len r
    rcases slice_size Try.underlying43 h5 with h0 | ⟨el, sp, hd, hl⟩
    · omega
    · have : (el.length + sp.length) * Try.prog.bytesOf 3 ≤ reachBytes := sized_slice hsz (j := 1) (t := 43) (e := 3) (by rw [Try.params7]; rfl) (by rw [hd]; rfl) Try.underlying43
      rw [show Try.prog.bytesOf 3 = 8 by kernel_rfl, show reachBytes = 140737488351232 by decide] at this
      omega
  obtain ⟨a2, rfl, rfl, rfl, w2⟩ := open_int Try.underlying3 (hval 2 3 v2 rfl rfl) h2
  obtain ⟨a3, rfl, rfl, rfl, w3⟩ := open_int Try.underlying3 (hval 3 3 v3 rfl rfl) h3
  obtain ⟨F, hG, hF, hFp⟩ := more_laid (w := W) (⟨_, no_tables (fun _ => rfl) W, fun _ h => h.elim⟩) hlt
  refine (TileOrderRejects_core a0 n1 l1 a2 a3 tb1 w0 z1 w1 w2 w3 W hG hF v1 (r1' F (fun x hx => hFp x (by simp [hx])))).mono fun e W' ⟨he, hg⟩ => ?_
  subst he
  exact ⟨_, rfl, Law.keep laidOut (by rw [Try.params7]; exact of_decide_eq_true (by kernel_rfl)) rfl hW' hlt hg rfl rfl (fun _ _ _ => (trodAll_cons_mk (shut_bool Try.underlying4 _) trodAll_mk0))⟩
theorem over : Rows.tileOrderRejectsRow.holds Try.pinned (OpenSpec.ofChange Rows.tileOrderRejectsSpec) :=
  OpenClaim.holds_of_wide 7 Try.f7 rfl rfl rfl rfl rfl rfl rfl ⟨rfl, rfl, rfl, rfl, rfl⟩ rfl rfl rfl rfl rfl (by kernel_rfl) Try.func7 (by kernel_rfl)
    (of_decide_eq_true (by kernel_rfl)) (by unfold Func.isWrapper; first | (rw [if_pos (by decide +kernel)]; kernel_rfl) | (rw [if_neg (by decide +kernel)]; exact ⟨rfl, rfl⟩))
    (fun os started H enc _ => lifted os started H enc)
theorem proved : Rows.TileOrderRejectsSaid :=
  over
#print axioms proved
end Go.Proofs.Ytdpmigbenkndbaa.tileOrderRejects
