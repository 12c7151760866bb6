import Derived.Test.YtpjhdjakpbabhaaGreatDoorZaa
import Derived.Test.YtpjhdjakpbabhaaGreatDoorZ0
import Derived.Test.YtpjhdjakpbabhaaGreatDoorXb
import Derived.Test.YtpjhdjakpbabhaaGreatDoorLc
namespace Go.Proofs.YtpjhdjakpbabhaaGreatDoor
open Go.RowKit PR QR
set_option linter.unusedVariables false
set_option linter.unusedSimpArgs false
set_option maxRecDepth 20000
theorem sc_go' {n i : Int} (hb : n ≤ 9223372036854775807) (h : scGood n i) (lt : i < n) : iadd .i64 i 1 = i + 1 ∧ scGood n (i + 1) ∧ (scMu n (i + 1)).succ.le (scMu n i) := by
  have h0 := h.1
  refine ⟨IntWalk.i64_in _ (by omega), ⟨by omega, by omega⟩, ?_⟩
  show (n - (i + 1)).toNat + 1 ≤ (n - i).toNat
  omega
theorem row_app16 {i : Int} {g : Int → Int} {v : Int} (hi : 0 ≤ i) (h : v = g i) (p : Nat) (hp : ilt (Int.ofNat p) (addZ i 1) = true) : isel (ilt (Int.ofNat p) i) (g (Int.ofNat p)) (isel (ieq (subZ (Int.ofNat p) i) 0) v 0) = g (Int.ofNat p) := by
  have hp := ilt_tt hp
  have hp : (p : Int) < i + 1 := hp
  by_cases c : (p : Int) < i
  · have e : ilt (Int.ofNat p) i = true := ilt_t c
    rw [e, isel_t]
  · have e : ilt (Int.ofNat p) i = false := decide_eq_false c
    have e1 : (Int.ofNat p) = i := by show (p : Int) = i; omega
    rw [e, isel_f, e1]
    have e2 : ieq (subZ i i) 0 = true := by unfold subZ; rw [Int.sub_self]; rfl
    rw [e2, isel_t, h]
end Go.Proofs.YtpjhdjakpbabhaaGreatDoor
