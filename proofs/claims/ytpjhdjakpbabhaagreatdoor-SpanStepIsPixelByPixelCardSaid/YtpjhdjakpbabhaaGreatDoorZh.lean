import Derived.Test.YtpjhdjakpbabhaaGreatDoorZaa
import Derived.Test.YtpjhdjakpbabhaaGreatDoorZg
import Derived.Test.YtpjhdjakpbabhaaGreatDoorZb
import Derived.Test.YtpjhdjakpbabhaaGreatDoorZc
namespace Go.Proofs.YtpjhdjakpbabhaaGreatDoor
open Go.RowKit PR QR
set_option linter.unusedVariables false
set_option linter.unusedSimpArgs false
set_option maxRecDepth 20000
theorem isel_t' (x y : Int) : isel true x y = x := rfl
theorem isel_f' (x y : Int) : isel false x y = y := rfl
section
variable {md n k t i : Int} {q : Int → Nat → Int}
theorem row_app {g : Int → Int} {v : Int} (hi : 0 ≤ i) (h : v = g i) (p : Nat) (hp : ilt (Int.ofNat p) (addZ i 1) = true) : isel (ilt (Int.ofNat p) i) (g (Int.ofNat p)) (isel (ieq (subZ (Int.ofNat p) i) 0) v 0) = g (Int.ofNat p) := by
  have hp := ilt_tt hp
  unfold addZ at hp
  cases e : ilt (Int.ofNat p) i
  · have e := ilt_ff e
    have e2 : Int.ofNat p = i := by omega
    rw [isel_f', e2, show subZ i i = 0 by unfold subZ; omega, ieq_rfl', isel_t', h]
  · rfl
theorem gps_step (hk : k ≤ 1099511627776) (hi : gpsGood k i) (lt : ilt i k = true) : ile (imulZ (addZ i 1) 10) 140737488355328 = true ∧ addZ i 1 = i + 1 ∧ iadd .i64 i 1 = i + 1 ∧ gpsGood k (i + 1) ∧ (gpsMu k (i + 1)).succ.le (gpsMu k i) ∧ 0 ≤ i := by
  have lt := ilt_tt lt
  have h0 := hi.1
  refine ⟨ile_t (by unfold imulZ addZ; omega), rfl, ?_, ⟨by omega, Or.inr (by omega)⟩, ?_, h0⟩
  · unfold iadd; rw [IntKind.wrap_i64]; omega
  · unfold gpsMu; show (k - (i + 1)).toNat + 1 ≤ (k - i).toNat; omega
theorem grQ_t {j : Nat} (h : 0 < n) : grQ n q i j = q (i % n) j := if_pos h
theorem grQ_f {j : Nat} (h : ¬ 0 < n) : grQ n q i j = 0 := if_neg h
theorem gpx_z (h : gmod md 6 = 0) (j : Nat) : 0 = gpxV md n q t i j := by unfold gpxV; rw [if_pos h]
theorem gpx_1 (h : gmod md 6 = 1) {j : Nat} (hj : ¬ (j = 3 ∨ j = 4)) : grPx n q t i j = gpxV md n q t i j := by
  unfold gpxV; rw [if_neg (by omega), if_pos h, if_neg hj]
theorem gpx_1t (h : gmod md 6 = 1) {j : Nat} (hj : j = 3 ∨ j = 4) : t = gpxV md n q t i j := by
  unfold gpxV; rw [if_neg (by omega), if_pos h, if_pos hj]
theorem rem_nn' {a b : Int} (h : 0 ≤ a) : irem a b = a % b := by unfold irem; exact Int.tmod_eq_emod_of_nonneg h
theorem gpx_2 (h : gmod md 6 = 2) (j : Nat) : gpxV md n q t 0 j = gpxV md n q t i j := by
  unfold gpxV; rw [if_neg (by omega), if_neg (by omega), if_pos h, if_neg (by omega), if_neg (by omega), if_pos h]
theorem gpx_20 (h : gmod md 6 = 2) (h0 : i = 0) (j : Nat) : grPx n q t i j = gpxV md n q t i j := by
  unfold gpxV; rw [if_neg (by omega), if_neg (by omega), if_pos h, h0]
theorem gpx_3 (h : gmod md 6 ≠ 0) (h1 : gmod md 6 ≠ 1) (h2 : gmod md 6 ≠ 2) (j : Nat) : grPx n q t i j = gpxV md n q t i j := by
  unfold gpxV; rw [if_neg h, if_neg h1, if_neg h2]
theorem gps_round (hk : k ≤ 1099511627776) (hi : gpsGood k i) (lt : ilt i k = true) {v0 v1 v2 v3 v4 : Int} (h0 : v0 = gpxV md n q t i 0) (h1 : v1 = gpxV md n q t i 1) (h2 : v2 = gpxV md n q t i 2) (h3 : v3 = gpxV md n q t i 3) (h4 : v4 = gpxV md n q t i 4) :
    ile (imulZ (addZ i 1) 10) 140737488355328 = true ∧ ∃ s, gpsGood k s ∧ ((addZ i 1 = s ∧ iadd IntKind.i64 i 1 = s) ∧ addZ i 1 = s ∧
      (((((∀ p : Nat, ilt (Int.ofNat p) (addZ i 1) = true → isel (ilt (Int.ofNat p) i) (gpxV md n q t (Int.ofNat p) 0) (isel (ieq (subZ (Int.ofNat p) i) 0) v0 0) = gpxV md n q t (Int.ofNat p) 0) ∧
      ∀ p : Nat, ilt (Int.ofNat p) (addZ i 1) = true → isel (ilt (Int.ofNat p) i) (gpxV md n q t (Int.ofNat p) 1) (isel (ieq (subZ (Int.ofNat p) i) 0) v1 0) = gpxV md n q t (Int.ofNat p) 1) ∧
      ∀ p : Nat, ilt (Int.ofNat p) (addZ i 1) = true → isel (ilt (Int.ofNat p) i) (gpxV md n q t (Int.ofNat p) 2) (isel (ieq (subZ (Int.ofNat p) i) 0) v2 0) = gpxV md n q t (Int.ofNat p) 2) ∧
      ∀ p : Nat, ilt (Int.ofNat p) (addZ i 1) = true → isel (ilt (Int.ofNat p) i) (gpxV md n q t (Int.ofNat p) 3) (isel (ieq (subZ (Int.ofNat p) i) 0) v3 0) = gpxV md n q t (Int.ofNat p) 3) ∧
      ∀ p : Nat, ilt (Int.ofNat p) (addZ i 1) = true → isel (ilt (Int.ofNat p) i) (gpxV md n q t (Int.ofNat p) 4) (isel (ieq (subZ (Int.ofNat p) i) 0) v4 0) = gpxV md n q t (Int.ofNat p) 4)) ∧ (gpsMu k s).succ.le (gpsMu k i) := by
  obtain ⟨b, a1, a2, g, mu, n0⟩ := gps_step hk hi lt
  exact ⟨b, i + 1, g, ⟨⟨a1, a2⟩, a1, ⟨⟨⟨row_app (g := fun p => gpxV md n q t p 0) n0 h0, row_app (g := fun p => gpxV md n q t p 1) n0 h1⟩, row_app (g := fun p => gpxV md n q t p 2) n0 h2⟩, row_app (g := fun p => gpxV md n q t p 3) n0 h3⟩, row_app (g := fun p => gpxV md n q t p 4) n0 h4⟩, mu⟩
end
theorem a_gps : Answers2 9 s_gpxs := by
  intro al ans hh hq
  unfold s_gpxs at hh
  split at hh <;> try (simp at hh; done)
  rename_i md c k t
  cases en : slcOf 5 c with
  | none => simp [en] at hh
  | some pn =>
  obtain ⟨n, rn⟩ := pn
  simp only [en] at hh
  simp only [Option.some.injEq] at hh
  subst hh
  obtain ⟨q, hdn⟩ : ∃ q : Int → Nat → Int, q = fun i j => intC (den rn i j) := ⟨_, rfl⟩
  try rw [← hdn]
  refine does_args2 (al' := [.x (.agg [.v (.int .i64 md), .slc 5 n (.fn fun i j => .v (.int .i64 (q i j)))]), .x (.c (.v (.int .i64 k))), .x (.c (.v (.int .u16 t)))]) ⟨⟨.v _, (hdn ▸ slcOf_ints en (by decide) (hq _ (by simp))), trivial⟩, .v _, .v _, trivial⟩ ?_
  have hq := asked hq
  refine QR.does_of_eval (O := o_gps) (QR.orc_cons (up a_mod) (QR.orc_cons a_gpixel2 QR.orc_nil)) mixed ((fun n_ => bif Nat.beq n_ 3 then some (.ownF [(7, none, 5)] fun _ => [o_inv_gps1 md n k t q]) else bif Nat.beq n_ 700011 then some (.cutF fun g => [o_inv_gpb1 md n k t q (g 8)]) else none)) Tryz.func9 (by kernel_rfl) (by kernel_rfl) (by simp) ?_
  rw [gps_vc]
  delta zz8 zz38 zz41 zz43 zz74 zz126
  obtain ⟨_, hn, ht, hb, _⟩ := hq
  simp only [okAns, eqXs, eqX, eqo, eqLo, eqc, veq, eqUs, bcond_iff, bnot, nilC, true_and, and_true, and_self, implies_true, true_implies, reduceCtorEq, false_implies, Bool.not_true, Bool.not_false, forall_eq, or_false, false_or, and_false, false_and, exists_false, exists_eq_right, exists_eq_right']
  have hn := ile_tt hn
  have hb := ile_tt hb
  have m6 : modOk 6 = true := rfl
  refine ⟨⟨0, ⟨Int.le_refl _, Or.inl rfl⟩, rfl, rfl, fun p h => by have := ilt_tt h; simp at this; omega⟩, fun i hi => ⟨fun lt => ⟨fun n0 => ⟨?a, ⟨?b, ?c⟩, ?r⟩, fun n0 => ⟨⟨?d, ?e⟩, ?r2⟩⟩, ?f⟩⟩
  case a => have n1 : 0 < n := of_decide_eq_true n0; unfold ine; simp; omega
  case b =>
    intro h
    have n1 : 0 < n := of_decide_eq_true n0
    have l := ilt_tt lt
    rw [rem_nn' hi.1] at h ⊢
    exact ⟨⟨ile_t (Int.emod_nonneg _ (by omega)), h⟩, 0, ⟨hi, l⟩, (grQ_t n1).symm, (grQ_t n1).symm, (grQ_t n1).symm, (grQ_t n1).symm, (grQ_t n1).symm⟩
  case c =>
    intro h
    have n1 : 0 < n := of_decide_eq_true n0
    have h := ilt_ff h
    rw [rem_nn' hi.1] at h
    have := Int.emod_lt_of_pos i n1
    omega
  case d =>
    intro h
    have n1 : ¬ 0 < n := of_decide_eq_false n0
    have h := ilt_tt h
    have := hi.1
    omega
  case e =>
    intro h
    have n1 : ¬ 0 < n := of_decide_eq_false n0
    exact ⟨0, ⟨hi, ilt_tt lt⟩, (grQ_f n1).symm, (grQ_f n1).symm, (grQ_f n1).symm, (grQ_f n1).symm, (grQ_f n1).symm⟩
  case f =>
    intro h
    have h := ilt_ff h
    have g := hi.1
    have e : iimax k 0 = i := by
      unfold iimax
      rcases hi.2 with h | h <;> split <;> omega
    rw [e]
    exact .slc fun i j _ _ => .v _
  case r => exact fun _ _ => ⟨ht, m6, fun e0 => gps_round hb hi lt (gpx_z (ieq_t2 e0) 0) (gpx_z (ieq_t2 e0) 1) (gpx_z (ieq_t2 e0) 2) (gpx_z (ieq_t2 e0) 3) (gpx_z (ieq_t2 e0) 4), fun e0 =>
      ⟨fun e1 => gps_round hb hi lt (gpx_1 (j := 0) (ieq_t2 e1) (by decide)) (gpx_1 (j := 1) (ieq_t2 e1) (by decide)) (gpx_1 (j := 2) (ieq_t2 e1) (by decide)) (gpx_1t (j := 3) (ieq_t2 e1) (by decide)) (gpx_1t (j := 4) (ieq_t2 e1) (by decide)), fun e1 =>
      ⟨fun e2 => ⟨fun i0 => ⟨ilt_t (of_decide_eq_true i0), gps_round hb hi lt (gpx_2 (ieq_t2 e2) 0) (gpx_2 (ieq_t2 e2) 1) (gpx_2 (ieq_t2 e2) 2) (gpx_2 (ieq_t2 e2) 3) (gpx_2 (ieq_t2 e2) 4)⟩, fun i0 =>
        have z : i = 0 := by have := of_decide_eq_false i0; have := hi.1; omega
        gps_round hb hi lt (gpx_20 (ieq_t2 e2) z 0) (gpx_20 (ieq_t2 e2) z 1) (gpx_20 (ieq_t2 e2) z 2) (gpx_20 (ieq_t2 e2) z 3) (gpx_20 (ieq_t2 e2) z 4)⟩,
      fun e2 => gps_round hb hi lt (gpx_3 (ieq_ff e0) (ieq_ff e1) (ieq_ff e2) 0) (gpx_3 (ieq_ff e0) (ieq_ff e1) (ieq_ff e2) 1) (gpx_3 (ieq_ff e0) (ieq_ff e1) (ieq_ff e2) 2) (gpx_3 (ieq_ff e0) (ieq_ff e1) (ieq_ff e2) 3) (gpx_3 (ieq_ff e0) (ieq_ff e1) (ieq_ff e2) 4)⟩⟩⟩
  case r2 => exact fun _ _ => ⟨ht, m6, fun e0 => gps_round hb hi lt (gpx_z (ieq_t2 e0) 0) (gpx_z (ieq_t2 e0) 1) (gpx_z (ieq_t2 e0) 2) (gpx_z (ieq_t2 e0) 3) (gpx_z (ieq_t2 e0) 4), fun e0 =>
      ⟨fun e1 => gps_round hb hi lt (gpx_1 (j := 0) (ieq_t2 e1) (by decide)) (gpx_1 (j := 1) (ieq_t2 e1) (by decide)) (gpx_1 (j := 2) (ieq_t2 e1) (by decide)) (gpx_1t (j := 3) (ieq_t2 e1) (by decide)) (gpx_1t (j := 4) (ieq_t2 e1) (by decide)), fun e1 =>
      ⟨fun e2 => ⟨fun i0 => ⟨ilt_t (of_decide_eq_true i0), gps_round hb hi lt (gpx_2 (ieq_t2 e2) 0) (gpx_2 (ieq_t2 e2) 1) (gpx_2 (ieq_t2 e2) 2) (gpx_2 (ieq_t2 e2) 3) (gpx_2 (ieq_t2 e2) 4)⟩, fun i0 =>
        have z : i = 0 := by have := of_decide_eq_false i0; have := hi.1; omega
        gps_round hb hi lt (gpx_20 (ieq_t2 e2) z 0) (gpx_20 (ieq_t2 e2) z 1) (gpx_20 (ieq_t2 e2) z 2) (gpx_20 (ieq_t2 e2) z 3) (gpx_20 (ieq_t2 e2) z 4)⟩,
      fun e2 => gps_round hb hi lt (gpx_3 (ieq_ff e0) (ieq_ff e1) (ieq_ff e2) 0) (gpx_3 (ieq_ff e0) (ieq_ff e1) (ieq_ff e2) 1) (gpx_3 (ieq_ff e0) (ieq_ff e1) (ieq_ff e2) 2) (gpx_3 (ieq_ff e0) (ieq_ff e1) (ieq_ff e2) 3) (gpx_3 (ieq_ff e0) (ieq_ff e1) (ieq_ff e2) 4)⟩⟩⟩
end Go.Proofs.YtpjhdjakpbabhaaGreatDoor
