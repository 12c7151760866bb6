/-
  The second edition of the pure way, at a seat: contracts of its functions, and laws.
-/
import Derived.Test.YtafaadnjkkkafaaDoorSb
import Derived.Test.YtafaadnjkkkafaaDoorRc
namespace Go.Proofs.YtafaadnjkkkafaaDoor
open Go.RowKit PR QR
set_option linter.unusedVariables false

/-- f answers what s says -/
def Answers2 (f : Nat) (s : List AV → Option QR.Ans) : Prop := QR.AnswersX Tryd.prog f s
theorem up {f : Nat} {s : List Value → Option (Value × List Bool)} (h : Answers f s) : Answers2 f (lift1 s) := lift1_sound h

def Asked : List Prop → Prop
  | [] => True
  | p :: l => p ∧ Asked l
theorem asked : ∀ {l : List Prop}, (∀ q ∈ l, q) → Asked l
  | [], _ => trivial
  | p :: l, h => ⟨h p (by simp), asked fun q hq => h q (by simp [hq])⟩
theorem args_of_vals {F : Nat → Prop} {w : World} : ∀ {vs : List Value} {xs : List XV}, ofVs vs = some xs → ConcArgs F w (xs.map AV.x) vs []
  | [], xs, h => by simp only [ofVs, Option.some.injEq] at h; subst h; rfl
  | v :: vs, xs, h => by
    unfold ofVs at h
    split at h <;> try (simp at h; done)
    rename_i x m h1 h2
    simp only [Option.some.injEq] at h
    subst h
    exact ⟨ofV_conc h1, args_of_vals h2⟩

/-- a law of plain values that returns true, in a world where the tables are laid -/
theorem law_of_eval {O : QR.Oracle} (hO : QR.OSound Tryd.prog O) (hm : Tryd.prog.follows .mixedOrders = true) (L : Nat → Option QR.Ann) {f : FuncId} {fn : Func} (hf : Tryd.prog.funcs[f]? = some fn) (hb : fn.body = some (fn.body.getD .skip)) {vs : List Value} {xs : List XV} {args : List AV} (hv : ofVs vs = some xs) (ha : args = xs.map AV.x) (hl : args.length ≤ 1000)
    (h : QR.evalBody Tryd.prog O L (fn.body.getD .skip) fn.results.toList fn.ntmps args (okAns ⟨[.c (.v (.bool true))], [], []⟩)) (w : World) {F : Nat → Prop} (hG : Laid F w) (hF : ∀ k, F k → k < w.heap.size) :
    Calls Tryd.prog f vs.toArray w fun e w' => e = .returned (.bool true) ∧ Below w.heap.size w w' := by
  subst ha
  refine (QR.evalBody_sound hO hm hf hb hl h hG hF (args_of_vals hv)).mono ?_
  rintro e w' ⟨v, rfl, res, upd, ⟨h1, h2⟩, hk, F', f1, f2, f3, f4⟩
  have := eqXs_res h1 f3
  have : Rep F' w' (.v (.bool true)) v := this
  cases this
  exact ⟨rfl, ⟨hk.os, hk.tape, hk.output, hk.size, fun k hk' => hk.block k hk' (by simp)⟩⟩
/-- .. without tables -/
theorem no_tables (hg : ∀ m, gtab m = none) (w : World) : Laid (fun _ => False) w := fun m l h => by rw [hg m] at h; simp at h
end Go.Proofs.YtafaadnjkkkafaaDoor
