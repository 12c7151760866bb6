import Derived.Test.YtpjhdjakpbabhaaGreatDoorRs
namespace Go.Proofs.YtpjhdjakpbabhaaGreatDoor
open Go.RowKit PR QR
set_option linter.unusedVariables false
set_option linter.unusedSimpArgs false
def avEq3 : AV → AV → Prop
  | .x (.c a), .x (.c b) => EqC a b
  | .x (.agg l), .x (.agg m) => eqCs l m
  | .ref o l, .ref o' m => o = o' ∧ eqCs l m
  | _, _ => False
def avsEq3 : List AV → List AV → Prop
  | [], [] => True
  | a :: l, b :: m => avEq3 a b ∧ avsEq3 l m
  | _, _ => False
theorem conc_args_eq3 {F : Nat → Prop} {w : World} : ∀ {al al' : List AV} {ys : List Value} {bs : List Nat}, avsEq3 al al' → ConcArgs F w al ys bs → ConcArgs F w al' ys bs
  | [], [], ys, bs, _, h => h
  | [], _ :: _, ys, bs, e, _ => e.elim
  | _ :: _, [], ys, bs, e, _ => e.elim
  | a :: al, b :: al', ys, bs, e, h => by
    obtain ⟨e1, e2⟩ := e
    unfold avEq3 at e1
    split at e1
    · rename_i c c'
      cases ys with
      | nil => exact h.elim
      | cons y ys => exact ⟨Rep.eq e1 h.1, conc_args_eq3 e2 h.2⟩
    · rename_i l m
      cases ys with
      | nil => exact h.elim
      | cons y ys =>
        obtain ⟨zs, hz, h1⟩ := h.1
        exact ⟨⟨zs, hz, eqCs_rep e1 h1⟩, conc_args_eq3 e2 h.2⟩
    · rename_i o l o' m
      obtain ⟨rfl, e1⟩ := e1
      match ys, bs, h with
      | y :: ys, b :: bs, h =>
        obtain ⟨h1, h2, h3, ⟨arr, t, h4, h5⟩, h6⟩ := h
        exact ⟨h1, h2, h3, ⟨arr, t, h4, eqCs_rep e1 h5⟩, conc_args_eq3 e2 h6⟩
    · exact e1.elim
def avBk : List AV → List AV → Prop
  | [], [] => True
  | .ref _ l :: a, .ref _ m :: b => eqCs m l ∧ avBk a b
  | .x _ :: a, .x _ :: b => avBk a b
  | _, _ => False
theorem refs_back {F : Nat → Prop} {w : World} : ∀ {al al' : List AV} {bs : List Nat}, avBk al al' → Refs F w bs (refCells al') → Refs F w bs (refCells al)
  | [], [], _, _, h => h
  | .ref _ l :: a, .ref _ m :: b, [], _, h => h.elim
  | .ref _ l :: a, .ref _ m :: b, k :: bs, e, h => by
    obtain ⟨⟨arr, t, h1, h2⟩, h3⟩ := h
    exact ⟨⟨arr, t, h1, eqCs_rep e.1 h2⟩, refs_back e.2 h3⟩
  | .x _ :: a, .x _ :: b, bs, e, h => refs_back (al := a) (al' := b) e h
  | [], .x _ :: _, _, e, _ => e.elim
  | [], .ref _ _ :: _, _, e, _ => e.elim
  | .x _ :: _, [], _, e, _ => e.elim
  | .ref _ _ :: _, [], _, e, _ => e.elim
  | .x _ :: _, .ref _ _ :: _, _, e, _ => e.elim
  | .ref _ _ :: _, .x _ :: _, _, e, _ => e.elim
theorem post_back {F : Nat → Prop} {w w' : World} {bs : List Nat} {al al' : List AV} {res : List XV} {ask ask' : List Prop} {v : Value} (b : avBk al al') (h : Post F w bs ⟨res, refCells al', ask'⟩ v w') : Post F w bs ⟨res, refCells al, ask⟩ v w' := by
  obtain ⟨hk, F', f, h1, h2, h3, h4⟩ := h
  exact ⟨hk, F', f, h1, h2, h3, refs_back b h4⟩
theorem does_reads {P : Program} {f : FuncId} {al al' : List AV} {res : List XV} {ask ask' : List Prop} (e : avsEq3 al al') (b : avBk al al') (h : DoesX P f al' ⟨res, refCells al', ask'⟩) : DoesX P f al ⟨res, refCells al, ask⟩ := fun w F ys bs hG hF hA => by
  rcases h w F ys bs hG hF (conc_args_eq3 e hA) with ⟨v, w', r, hp⟩ | ⟨r, C⟩
  · exact Or.inl ⟨v, w', r, post_back b hp⟩
  · refine Or.inr ⟨r, C.mono ?_⟩
    rintro e' w' ⟨v, rfl, hp⟩
    exact ⟨v, rfl, post_back b hp⟩
theorem intRow_back {k : IntKind} {z : Nat} {n : Int} {r : QR.Row} (h : intRow k z n r) : EqC (.slc z n (ints k r)) (.slc z n r) := by
  refine .slc fun i j hi hj => ?_
  have := h i j hi hj
  show EqC (.v (.int k (intC (den r i j)))) (den r i j)
  rw [← this]
  rw [this]
  exact .v _
end Go.Proofs.YtpjhdjakpbabhaaGreatDoor
