import Derived.Test.YtdpmigbenkndbaaMc
import Derived.Test.YtdpmigbenkndbaaYk
import Derived.Test.YtdpmigbenkndbaaYl
namespace Go.Proofs.Ytdpmigbenkndbaa
open Go.RowKit PR QR
set_option linter.unusedVariables false
set_option linter.unusedSimpArgs false
set_option maxRecDepth 20000
theorem a_sints : Answers2 25 s_sints := by
  intro al ans h hq
  unfold s_sints at h
  split at h <;> try (simp at h; done)
  rename_i z n r z2 m s
  cases hz : Nat.beq z 1 && Nat.beq z2 1
  · rw [hz] at h; simp at h
  rw [hz, cond_true] at h
  obtain ⟨hz1, hz2⟩ := Bool.and_eq_true_iff.1 hz
  obtain rfl := Nat.eq_of_beq_eq_true hz1
  obtain rfl := Nat.eq_of_beq_eq_true hz2
  simp only [Option.some.injEq] at h
  subst h
  obtain ⟨hr, hs, hn, hB, _⟩ := asked hq
  have hn := ile_tt hn
  have hB := ile_tt hB
  refine does_args (al' := [.x (.c (.slc 1 n (ints .i64 r))), .x (.c (.slc 1 m (ints .i64 s)))]) ⟨intRow_eq hr, intRow_eq hs, trivial⟩ ?_
  have iff : sameR 1 n m r s = true ↔ n = m ∧ ∀ i j : Nat, (i : Int) < n → j < 1 → intC (den r i j) = intC (den s i j) := sameR_iff
  unfold ints
  generalize sameR 1 n m r s = b at *
  suffices H : ∀ (l k : Int → Nat → Int) (A : List Prop), (b = true ↔ n = m ∧ ∀ i j : Nat, (i : Int) < n → j < 1 → l i j = k i j) → DoesX Try.prog 25 [.x (.c (.slc 1 n (.fn fun i j => .v (.int .i64 (l i j))))), .x (.c (.slc 1 m (.fn fun i j => .v (.int .i64 (k i j)))))] ⟨[.c (.v (.bool b))], [], A⟩ from H _ _ _ iff
  intro l k A iff
  refine QR.does_of_eval (O := QR.orc []) QR.orc_nil mixed (fun q => bif Nat.beq q 4 then some (.inv (o_inv_sints n m l k)) else none) Try.func25 (by kernel_rfl) (by kernel_rfl) (by simp) ?_
  rw [sints_vc]
  simp only [forall_eq, true_and]
  rw [bcond_iff]
  refine ⟨fun c => ?_, fun c => ?_⟩
  · have ne : n ≠ m := by simpa [ine] using c
    have : b = false := by cases b with | false => rfl | true => exact absurd (iff.1 rfl).1 ne
    simp [okAns, eqXs, eqX, eqo, eqLo, eqc, veq, eqUs, this]
  have nm : n = m := by simpa [ine] using c
  subst nm
  refine ⟨⟨0, ⟨⟨Int.le_refl 0, hn⟩, fun p j hp => by omega⟩, by simp⟩, fun i hi => ?_⟩
  obtain ⟨⟨i0, i1⟩, e⟩ := hi
  have le : ile 0 i = true := ile_t i0
  have ti : ((i.toNat : Nat) : Int) = i := Int.toNat_of_nonneg i0
  rw [bcond_iff]
  refine ⟨fun c1 => ?_, fun c1 => ?_⟩
  · have lt := of_decide_eq_true c1
    have ia : iadd .i64 i 1 = i + 1 := IntWalk.i64_in _ (by omega)
    have mu : Nat.le (Nat.succ (siMu n (i + 1))) (siMu n i) := by show siMu n (i + 1) < siMu n i; unfold siMu; omega
    cases hc : ine (l i 0) (k i 0)
    · have hc' : l i 0 = k i 0 := Classical.byContradiction fun q => by rw [ine_t q] at hc; simp at hc
      have lm : ilt i n = true := ilt_t lt
      simp only [bcond_iff, bnot, le, lm, c1, ia, true_and, and_true, implies_true, Bool.not_true, Bool.false_eq_true, false_implies, true_implies]
      refine ⟨i + 1, ⟨⟨by omega, by omega⟩, fun p j hp hj => ?_⟩, by simp, mu⟩
      by_cases h : (p : Int) < i
      · exact e p j h hj
      · obtain rfl : i = (p : Int) := by omega
        obtain rfl : j = 0 := by omega
        exact hc'
    · have : b = false := by
        cases b with
        | false => rfl
        | true =>
          have q := (iff.1 rfl).2 i.toNat 0
          rw [ti] at q
          rw [q lt (by decide), ine_f] at hc
          simp at hc
      simp [bcond_iff, bnot, okAns, eqXs, eqX, eqo, eqLo, eqc, veq, eqUs, this, le, c1]
  · have := of_decide_eq_false c1
    obtain rfl : i = n := by omega
    have : b = true := iff.2 ⟨rfl, e⟩
    simp [okAns, eqXs, eqX, eqo, eqLo, eqc, veq, eqUs, this]
end Go.Proofs.Ytdpmigbenkndbaa
