import Derived.Test.YtpjhdjakpbabhaaGreatDoorBf
import Derived.Test.YtpjhdjakpbabhaaGreatDoorRk
import Derived.RangeFuncWrites
import Derived.OrdersIn
import Derived.TacticsIn
import Derived.BigFrameIn
namespace Go.Proofs.YtpjhdjakpbabhaaGreatDoor.QR
open Go.RowKit PR
set_option linter.unusedVariables false
set_option linter.unusedSimpArgs false
section
variable {P : Program} {rl dp : Nat} {Q : Exit → Act → World → Prop}
theorem least {p : Nat → Prop} (h : ∃ n, p n) : ∃ n, p n ∧ ∀ m, p m → n ≤ m := by
  obtain ⟨n, hn⟩ := h
  induction n using Nat.strongRecOn with
  | _ n ih =>
    by_cases e : ∃ m, m < n ∧ p m
    · obtain ⟨m, hm, hp⟩ := e; exact ih m hm hp
    · refine ⟨n, hn, fun m hp => ?_⟩
      by_cases hm : m < n
      · exact absurd ⟨m, hm, hp⟩ e
      · omega
end
section
variable {P : Program} {O : Oracle} {base : Nat} {X F0 : Nat → Prop} {B : Nat → (Nat × Value) × Bool}
end
structure IterW where
  it : FuncId → List (List Value) → (List Int → Prop) → (List (List Int) → Prop) → Nat → Prop
  nth : List Int → Nat → Int
  ln : List (List Int) → Int
  snoc : List (List Int) → List Int → List (List Int)
  len : (List Int → Prop) → Nat → Prop
structure RAnn where
  ok : List Int → Prop
  S : List (List Int) → Prop
  N : Nat
  good : List (List Int) → Prop
  slots : List GV
  blocks : List (List Int) → List (Nat × Blk)
def RAnn.inv (r : RAnn) (slots : List GV) : Inv := ⟨List (List Int), r.good, fun _ => slots, r.blocks, fun _ => 0⟩
section
variable {P : Program} {O : Oracle} {base : Nat} {X F0 : Nat → Prop} {B : Nat → (Nat × Value) × Bool} {E : Env} {s : PSt} {a : Act} {w : World}
end
section
variable {P : Program} {O : Oracle} {base : Nat} {X F0 : Nat → Prop} {B : Nat → (Nat × Value) × Bool} {s : PSt} {a : Act} {w : World}
end
structure Cfg where
  L : Nat → Option Ann
  LR : Nat → Option RAnn
  J : Nat → Option Inl
  JT : Nat → Option Inl
  JP : Nat → Option Inv
  U : Nat
section
variable {P : Program} {O : Oracle} {base : Nat} {X F0 : Nat → Prop} {B : Nat → (Nat × Value) × Bool}
structure CfgOK (P : Program) (C : Cfg) (T : Nat) : Prop where
  J : ∀ n c, C.J n = some c → InlOK P c ∧ GB ≤ c.T
  JT : ∀ n c, C.JT n = some c → InlOK P c ∧ T ≤ c.T
  JP : (∀ n, C.JP n = none) ∨ T ≤ C.U
end
section
variable {P : Program} {O : Oracle}
end
end Go.Proofs.YtpjhdjakpbabhaaGreatDoor.QR
