import Derived.WalkKit
import Derived.Lib.BitFns
import Derived.Lib.Hide
import Derived.Test.YtdpmigbenkndbaaRows
import Derived.BigQuiet
import Derived.Deep.QuietTactic
import Derived.Deep.DeepFit
import Derived.Test.YtdpmigbenkndbaaShelf
import Derived.Deep.DeepCutAuto
import Derived.Deep.CutBlock
import Derived.Laws.Externs
import Derived.Deep.RegionWith
import Derived.ProofKit
import Derived.OpenShut
namespace Go.Proofs.Ytdpmigbenkndbaa
namespace Num
theorem up {hi lo y s Y A L : Nat} (hs : s ≤ 63) (hlt : hi < y) (hlo : lo < 18446744073709551616) (hY : Y = y * 2 ^ s) (hA : A = hi * 2 ^ s + lo / 2 ^ (64 - s)) (hL : L = lo * 2 ^ s % 18446744073709551616) :
    (hi * 18446744073709551616 + lo) * 2 ^ s = A * 18446744073709551616 + L ∧ A < Y := by
  have e : 2 ^ (64 - s) * 2 ^ s = 18446744073709551616 := by rw [← Nat.pow_add, (by omega : 64 - s + s = 64)]
  have e1 : lo / 2 ^ (64 - s) = lo * 2 ^ s / 18446744073709551616 := by rw [← e, Nat.mul_div_mul_right _ _ (Nat.two_pow_pos s)]
  have h1 : (hi * 18446744073709551616 + lo) * 2 ^ s = hi * 2 ^ s * 18446744073709551616 + lo * 2 ^ s := by rw [Nat.add_mul, Nat.mul_right_comm]
  have h2 : (hi + 1) * 2 ^ s ≤ y * 2 ^ s := Nat.mul_le_mul_right _ hlt
  have h3 : (hi + 1) * 2 ^ s = hi * 2 ^ s + 2 ^ s := by rw [Nat.add_mul, Nat.one_mul]
  have h4 : lo * 2 ^ s < 18446744073709551616 * 2 ^ s := Nat.mul_lt_mul_of_pos_right hlo (Nat.two_pow_pos s)
  generalize 2 ^ s = p at *
  generalize hi * p = a at *
  generalize lo * p = b at *
  subst hA hL hY
  rw [h1, e1]
  constructor
  · omega
  · have : b / 18446744073709551616 < p := by rw [Nat.div_lt_iff_lt_mul (by omega)]; omega
    omega
end Num
end Go.Proofs.Ytdpmigbenkndbaa
namespace Go.Proofs.Ytdpmigbenkndbaa.Num
end Go.Proofs.Ytdpmigbenkndbaa.Num
namespace Go.Proofs.Ytdpmigbenkndbaa
open Go.RowKit
def half (n d : Nat) : Nat := if d = 0 then 0 else if d - n % d ≤ n % d then n / d + 1 else n / d
end Go.Proofs.Ytdpmigbenkndbaa
namespace Go.Proofs.Ytdpmigbenkndbaa
open Go.RowKit
set_option linter.unusedVariables false
end Go.Proofs.Ytdpmigbenkndbaa
namespace Go.Proofs.Ytdpmigbenkndbaa
open Go.RowKit
set_option linter.unusedVariables false
def Word2 (n : Nat) (hi lo : Nat) : Prop := hi * 18446744073709551616 + lo = n ∧ lo < 18446744073709551616 ∧ hi < 18446744073709551616
end Go.Proofs.Ytdpmigbenkndbaa
namespace Go.Proofs.Ytdpmigbenkndbaa
open Go.RowKit
set_option linter.unusedVariables false
theorem bcell {W w1 : World} (hb : Below W.heap.size W w1) : (∀ b o, b < W.heap.size → w1.cell? ⟨b, o, none⟩ = W.cell? ⟨b, o, none⟩) ∧ (∀ b o, b < W.heap.size → w1.frozen? ⟨b, o, none⟩ = W.frozen? ⟨b, o, none⟩) :=
  ⟨fun b o h => hb.cell (p := ⟨b, o, none⟩) h, fun b o h => hb.frozen (p := ⟨b, o, none⟩) h⟩
end Go.Proofs.Ytdpmigbenkndbaa
namespace Go.Proofs.Ytdpmigbenkndbaa
open Go.RowKit
set_option linter.unusedVariables false
theorem mod_arith (n k : Int) (hk : 1 ≤ k) (hk' : k ≤ 4611686018427387904) : (wrap64 (n.tmod k + k)).tmod k = n % k := by
  have h1 : -k < n.tmod k := by
    by_cases h : 0 ≤ n
    · have := Int.tmod_nonneg k h; omega
    · have h1 := Int.tmod_lt_of_pos (-n) (by omega : 0 < k)
      rw [Int.neg_tmod] at h1
      omega
  have h2 : n.tmod k < k := Int.tmod_lt_of_pos n (by omega)
  rw [IntWalk.wrap64_in _ ⟨by omega, by omega⟩, Int.tmod_eq_emod_of_nonneg (by omega), Int.add_emod_right]
  have h3 := Int.mul_tdiv_add_tmod n k
  have h4 : n % k = (k * n.tdiv k + n.tmod k) % k := by rw [h3]
  rw [h4, Int.mul_add_emod_self_left]
theorem mod_any (n k : Int) (hk : 1 ≤ k) (hk' : k ≤ 4611686018427387904) (w : World) :
    Calls Try.prog 9 #[.int .i64 n, .int .i64 k] w fun e w' => e = .returned (.int .i64 (n % k)) ∧ w = w' := by
  have h := Lib.hid (mod_arith n k hk hk')
  go_enter Try.func9, Try.ntmps9
  go_wp2
  go_ret
  refine ⟨?_, rfl⟩
  rw [← h.out]
  rfl
end Go.Proofs.Ytdpmigbenkndbaa
namespace Go.Proofs.Ytdpmigbenkndbaa
open Go.RowKit
set_option linter.unusedVariables false
end Go.Proofs.Ytdpmigbenkndbaa
namespace Go.Proofs.Ytdpmigbenkndbaa
open Go.ChangeShapes Go.WideShapes Go.ChangeAt Go.RowKit
set_option linter.unusedVariables false
theorem Law.post {H : Type} {enc : TypeId × Value → H} {P : Program} {f : Func} {s : ChangeSpec} {apart fresh handsOn again : Bool} {W W' : World} {args : Array Value} {v : Value} {ds gs : List (DataW H)}
    (hW : DataW.Whole enc P f.params.toList s.vars apart W args.toList ds gs [])
    (hres : ∀ (b : Nat) (sp : Nat → Bool) (hd : Bool), DataW.TrodAll enc P W' b sp hd f.resultTypes.toList (v.resultList f.resultTypes.size) (s.fn H (ds ++ gs)).results [])
    (hargs : ∀ sp : Nat → Bool, DataW.TrodAll enc P W' 0 sp true f.params.toList args.toList (s.fn H (ds ++ gs)).args [])
    (hvars : ∀ sp : Nat → Bool, DataW.TrodVars enc P W' sp s.vars (s.fn H (ds ++ gs)).vars [])
    (hb : Below W.heap.size W W')
    (hok : ∀ (j : Nat) (t : TypeId) (r : Value), f.resultTypes[j]? = some t → (v.resultList f.resultTypes.size)[j]? = some r → Value.okWide P W' .any 0 t r) :
    s.post enc P f apart fresh handsOn again W args v W' :=
  ⟨ds, gs, [], [], [], [], hW, hres _ _ _, hargs _, hvars _, World.keptBut_mono (fun _ h => absurd h (by simp)) (hb.frame (fun _ => False)), fun _ =>
    ⟨hok, _, _, [], ⟨[], [], trodAll_append (hargs _) (hres _ _ _), hvars _, rfl, fun _ _ h => absurd h (by simp), fun _ => by simp⟩, fun _ h => absurd h (by simp)⟩⟩
end Go.Proofs.Ytdpmigbenkndbaa
namespace Go.Proofs.Ytdpmigbenkndbaa
open Go.RowKit
set_option linter.unusedVariables false
end Go.Proofs.Ytdpmigbenkndbaa
namespace Go.Proofs.Ytdpmigbenkndbaa
open Go.RowKit
set_option linter.unusedVariables false
end Go.Proofs.Ytdpmigbenkndbaa
