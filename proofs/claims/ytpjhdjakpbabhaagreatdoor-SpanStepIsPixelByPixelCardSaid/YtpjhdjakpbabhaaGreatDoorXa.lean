import Derived.Test.YtpjhdjakpbabhaaGreatDoorZa
import Derived.Test.YtpjhdjakpbabhaaGreatDoorLb
namespace Go.Proofs.YtpjhdjakpbabhaaGreatDoor
open Go.RowKit PR QR
set_option linter.unusedVariables false
set_option linter.unusedSimpArgs false
def allR (n : Int) (f : Int → Bool) : Bool := (List.range n.toNat).all fun i => f i
theorem allR_iff {n : Int} {f : Int → Bool} : allR n f = true ↔ ∀ i : Int, 0 ≤ i → i < n → f i = true := by
  unfold allR
  rw [List.all_eq_true]
  constructor
  · intro h i h0 h1
    have := h i.toNat (List.mem_range.2 (by omega))
    rw [Int.toNat_of_nonneg h0] at this
    exact this
  · intro h i hi
    have := List.mem_range.1 hi
    exact h i (by omega) (by omega)
theorem allR_zero (f : Int → Bool) : allR 0 f = true := allR_iff.2 fun i h0 h1 => by omega
theorem allR_succ {i : Int} (h : 0 ≤ i) (f : Int → Bool) : allR (i + 1) f = (allR i f && f i) := by
  rw [Bool.eq_iff_iff, Bool.and_eq_true, allR_iff, allR_iff]
  exact ⟨fun H => ⟨fun j h0 h1 => H j h0 (by omega), H i h (by omega)⟩, fun H j h0 h1 => by
    by_cases e : j = i
    · rw [e]; exact H.2
    · exact H.1 j h0 (by omega)⟩
theorem allR_no {n i : Int} {f : Int → Bool} (h0 : 0 ≤ i) (h1 : i < n) (h : f i = false) : allR n f = false := by
  cases e : allR n f with
  | false => rfl
  | true => rw [allR_iff.1 e i h0 h1] at h; simp at h
def pxT (q : Int → Nat → Int) (i : Int) : Bool := tpB (q i 0) (q i 1) (q i 2) (q i 3) (q i 4)
def pxE (q : Int → Nat → Int) (i : Int) : Bool := decide (q i 0 = q 0 0 ∧ q i 1 = q 0 1 ∧ q i 2 = q 0 2 ∧ q i 3 = q 0 3 ∧ q i 4 = q 0 4)
def pxO (t : Int) (q : Int → Nat → Int) (i : Int) : Bool := oqB (q i 0) (q i 1) (q i 2) (q i 3) (q i 4) t
def clsV (n : Int) (q : Int → Nat → Int) (t : Int) : Int := bif allR n (pxT q) then 1 else bif allR n (pxE q) then 2 else bif allR n (pxO t q) then 3 else 4
def rcI (o k m : Int) (s d : Int → Nat → Int) (i : Int) : Bool := pcOk o k m (s i 0) (s i 1) (s i 2) (s i 3) (s i 4) (d i 0) (d i 1) (d i 2) (d i 3) (d i 4)
def rcV (o k m : Int) (s d : Int → Nat → Int) (i : Int) : Nat → Int
  | 0 => mcV o k m (s i 0) (s i 3) (d i 0) (d i 3)
  | 1 => mcV o k m (s i 1) (s i 3) (d i 1) (d i 3)
  | 2 => mcV o k m (s i 2) (s i 3) (d i 2) (d i 3)
  | 3 => alV o (s i 3) (d i 3) m
  | _ => shV o (s i 4) (d i 4) m
def rcOk (o k m n n' : Int) (s d : Int → Nat → Int) : Bool := decide (n = n') && allR n (rcI o k m s d)
def rcN (o k m n n' : Int) (s d : Int → Nat → Int) : Int := bif rcOk o k m n n' s d then n else 0
def rgI (kn : Bool) (o k m : Int) (s a b : Int → Nat → Int) (i : Int) : Bool := gsOk kn o k m (s i 0) (s i 1) (s i 2) (s i 3) (s i 4) (a i 0) (a i 1) (a i 2) (a i 3) (a i 4) (a i 5) (b i 0) (b i 1) (b i 2) (b i 3) (b i 4)
def rgV (kn : Bool) (o k m : Int) (s a b : Int → Nat → Int) (i : Int) : Nat → Int
  | 0 => gsC kn o k m (s i 0) (s i 3) (s i 4) (a i 0) (a i 3) (b i 0) (b i 3)
  | 1 => gsC kn o k m (s i 1) (s i 3) (s i 4) (a i 1) (a i 3) (b i 1) (b i 3)
  | 2 => gsC kn o k m (s i 2) (s i 3) (s i 4) (a i 2) (a i 3) (b i 2) (b i 3)
  | 3 => gsA kn o m (s i 3) (s i 4) (a i 3) (b i 3)
  | 4 => gsO kn o m (s i 3) (s i 4) (a i 4)
  | _ => gsF o m (s i 4) (a i 5)
def rgOk (kn : Bool) (o k m n na nb : Int) (s a b : Int → Nat → Int) : Bool := decide (n = na ∧ n = nb) && allR n (rgI kn o k m s a b)
def rgN (kn : Bool) (o k m n na nb : Int) (s a b : Int → Nat → Int) : Int := bif rgOk kn o k m n na nb s a b then n else 0
def rrI (m : Int) (a b : Int → Nat → Int) (i : Int) : Bool := vaB (a i 0) (a i 1) (a i 2) (a i 3) (a i 4) (a i 5) (b i 0) (b i 1) (b i 2) (b i 3) (b i 4) m
def rrV (m : Int) (a b : Int → Nat → Int) (i : Int) : Nat → Int
  | 0 => grV true (a i 0) (b i 0) (a i 4) m
  | 1 => grV true (a i 1) (b i 1) (a i 4) m
  | 2 => grV true (a i 2) (b i 2) (a i 4) m
  | 3 => a i 4
  | _ => a i 5
def rrOk (m n nb : Int) (a b : Int → Nat → Int) : Bool := decide (n = nb) && allR n (rrI m a b)
def rrN (m n nb : Int) (a b : Int → Nat → Int) : Int := bif rrOk m n nb a b then n else 0
end Go.Proofs.YtpjhdjakpbabhaaGreatDoor
