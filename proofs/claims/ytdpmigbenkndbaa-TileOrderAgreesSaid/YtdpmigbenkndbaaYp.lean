import Derived.Test.YtdpmigbenkndbaaYn
import Derived.Test.YtdpmigbenkndbaaYk
namespace Go.Proofs.Ytdpmigbenkndbaa
open Go.RowKit PR QR
set_option linter.unusedVariables false
set_option linter.unusedSimpArgs false
set_option maxRecDepth 20000
theorem cons_erase_perm : ∀ (l : List Int) (k : Nat) (h : k < l.length), (l[k] :: l.eraseIdx k).Perm l
  | x :: l, 0, _ => List.Perm.refl _
  | x :: l, k + 1, h => by
    have ih := cons_erase_perm l k (by simpa using h)
    exact (List.Perm.swap _ _ _).trans (ih.cons x)
def pmK (g : Nat → Int) (n i : Nat) : Nat := (gmod (g i) (pmS g n i).2.length).toNat
theorem pm_len (g : Nat → Int) (n : Nat) : ∀ i, i ≤ n → (pmS g n i).1.length = i ∧ (pmS g n i).2.length = n - i
  | 0, _ => by simp [pmS]
  | i + 1, h => by
    obtain ⟨h1, h2⟩ := pm_len g n i (by omega)
    have r := gmod_range (g i) (k := ((pmS g n i).2.length : Int)) (by omega)
    have hk : (gmod (g i) (pmS g n i).2.length).toNat < (pmS g n i).2.length := by omega
    refine ⟨by simp [pmS, h1], ?_⟩
    show ((pmS g n i).2.eraseIdx _).length = _
    rw [List.length_eraseIdx_of_lt hk]
    omega
theorem pm_k (g : Nat → Int) {n i : Nat} (h : i < n) : pmK g n i < (pmS g n i).2.length ∧ pmK g n i < n - i := by
  have l := pm_len g n i (by omega)
  have r := gmod_range (g i) (k := ((pmS g n i).2.length : Int)) (by omega)
  unfold pmK
  omega
theorem pm_perm (g : Nat → Int) (n : Nat) : ∀ i, i ≤ n → ((pmS g n i).1 ++ (pmS g n i).2).Perm ((List.range n).map Int.ofNat)
  | 0, _ => by simp [pmS]
  | i + 1, h => by
    have ih := pm_perm g n i (by omega)
    obtain ⟨hk, _⟩ := pm_k g (show i < n by omega)
    refine List.Perm.trans ?_ ih
    show (((pmS g n i).1 ++ [(pmS g n i).2.getD (pmK g n i) 0]) ++ (pmS g n i).2.eraseIdx (pmK g n i)).Perm _
    rw [List.append_assoc]
    refine List.Perm.append_left _ ?_
    have e : (pmS g n i).2.getD (pmK g n i) 0 = (pmS g n i).2[pmK g n i] := by simp [List.getD, hk]
    rw [e]
    exact cons_erase_perm _ _ hk
theorem pm_done (g : Nat → Int) (n : Nat) : (pmS g n n).1.length = n ∧ ((pmS g n n).1).Perm ((List.range n).map Int.ofNat) := by
  obtain ⟨h1, h2⟩ := pm_len g n n (Nat.le_refl n)
  have h := pm_perm g n n (Nat.le_refl n)
  rw [List.eq_nil_of_length_eq_zero (show (pmS g n n).2.length = 0 by omega), List.append_nil] at h
  exact ⟨h1, h⟩
theorem rangeZ_nodup (n : Nat) : ((List.range n).map Int.ofNat).Nodup := by
  rw [List.nodup_iff_pairwise_ne, List.pairwise_map]
  exact (List.nodup_iff_pairwise_ne.1 List.nodup_range).imp fun h e => h (Int.ofNat.inj e)
theorem pm_order (m : Int) (l : Int → Nat → Int) {n : Int} (h0 : 1 ≤ n) : orI n (fun i _ => pmO m l n n i) n n := by
  obtain ⟨hl, hp⟩ := pm_done (pmA m l) n.toNat
  have hw : ∀ i, orW n (fun i _ => pmO m l n n i) i = pmO m l n n i := fun i => by unfold orW; rw [if_neg (by omega)]
  have nd : (pmS (pmA m l) n.toNat n.toNat).1.Nodup := hp.symm.nodup (rangeZ_nodup _)
  have at' : ∀ i : Int, 0 ≤ i → i < n → ∃ h : i.toNat < (pmS (pmA m l) n.toNat n.toNat).1.length, pmO m l n n i = (pmS (pmA m l) n.toNat n.toNat).1[i.toNat] := fun i i0 i1 => ⟨by omega, by unfold pmO; simp [List.getD, hl, show i.toNat < n.toNat by omega]⟩
  refine ⟨⟨by omega, Int.le_refl n⟩, fun j j0 j1 => ⟨?_, fun k k0 k1 => ?_⟩⟩
  · rw [hw]
    obtain ⟨hj, e⟩ := at' j j0 j1
    rw [e]
    have := hp.mem_iff.1 (List.getElem_mem hj)
    simp only [List.mem_map, List.mem_range] at this
    obtain ⟨a, ha, e2⟩ := this
    rw [← e2]
    constructor
    · exact Int.natCast_nonneg a
    · show (a : Int) < n
      omega
  · rw [hw, hw]
    obtain ⟨hj, e⟩ := at' j j0 j1
    obtain ⟨hk, e2⟩ := at' k k0 (by omega)
    rw [e, e2]
    exact fun e3 => List.pairwise_iff_getElem.1 nd k.toNat j.toNat hk hj (by omega) e3
def pmKI (m : Int) (l : Int → Nat → Int) (n i : Int) : Int := gmod (pmA m l i.toNat) (n - i)
theorem pmK_eq (m : Int) (l : Int → Nat → Int) {n i : Int} (h0 : 0 ≤ i) (h1 : i < n) : (pmKI m l n i).toNat = pmK (pmA m l) n.toNat i.toNat ∧ 0 ≤ pmKI m l n i ∧ pmKI m l n i < n - i := by
  have hl := (pm_len (pmA m l) n.toNat i.toNat (by omega)).2
  have r := gmod_range (pmA m l i.toNat) (k := n - i) (by omega)
  refine ⟨?_, r.1, r.2⟩
  unfold pmKI pmK
  rw [hl, show ((n.toNat - i.toNat : Nat) : Int) = n - i by omega]
theorem pmO_next (m : Int) (l : Int → Nat → Int) {n i a : Int} (h0 : 0 ≤ i) (h1 : i < n) (a0 : 0 ≤ a) (a1 : a < i + 1) : (if a < i then pmO m l n i a else pmR m l n i (pmKI m l n i)) = pmO m l n (i + 1) a := by
  have hl := (pm_len (pmA m l) n.toNat i.toNat (by omega)).1
  have e : (pmS (pmA m l) n.toNat (i + 1).toNat).1 = (pmS (pmA m l) n.toNat i.toNat).1 ++ [(pmS (pmA m l) n.toNat i.toNat).2.getD (pmK (pmA m l) n.toNat i.toNat) 0] := by
    rw [show (i + 1).toNat = i.toNat + 1 by omega]; rfl
  unfold pmO
  rw [e]
  simp only [List.getD_eq_getElem?_getD, List.getElem?_append, hl]
  by_cases c : a < i
  · rw [if_pos c, if_pos (by omega)]
  · rw [if_neg c, if_neg (by omega), show a.toNat - i.toNat = 0 by omega]
    unfold pmR
    rw [(pmK_eq m l h0 h1).1]
    simp [List.getD_eq_getElem?_getD]
theorem pmR_next (m : Int) (l : Int → Nat → Int) {n i a : Int} (h0 : 0 ≤ i) (h1 : i < n) (a0 : 0 ≤ a) : (if a < pmKI m l n i then pmR m l n i a else pmR m l n i (a + 1)) = pmR m l n (i + 1) a := by
  have e : (pmS (pmA m l) n.toNat (i + 1).toNat).2 = (pmS (pmA m l) n.toNat i.toNat).2.eraseIdx (pmK (pmA m l) n.toNat i.toNat) := by
    rw [show (i + 1).toNat = i.toNat + 1 by omega]; rfl
  obtain ⟨k1, k2, k3⟩ := pmK_eq m l h0 h1
  unfold pmR
  rw [e]
  simp only [List.getD_eq_getElem?_getD, List.getElem?_eraseIdx, ← k1]
  by_cases c : a < pmKI m l n i
  · rw [if_pos c, if_pos (by omega)]
  · rw [if_neg c, if_neg (by omega), show (a + 1).toNat = a.toNat + 1 by omega]
theorem pmR_0 (m : Int) (l : Int → Nat → Int) {n a : Int} (h0 : 0 ≤ a) (h1 : a < n) : pmR m l n 0 a = a := by
  unfold pmR
  show (((List.range n.toNat).map Int.ofNat).getD a.toNat 0) = a
  simp [List.getD_eq_getElem?_getD, show a.toNat < n.toNat by omega]
  omega
theorem pm_onto (m : Int) (l : Int → Nat → Int) {n v : Int} (v0 : 0 ≤ v) (v1 : v < n) : ∃ j : Int, 0 ≤ j ∧ j < n ∧ pmO m l n n j = v := by
  obtain ⟨hl, hp⟩ := pm_done (pmA m l) n.toNat
  have hv : v ∈ (pmS (pmA m l) n.toNat n.toNat).1 := hp.mem_iff.2 (by
    simp only [List.mem_map, List.mem_range]
    exact ⟨v.toNat, by omega, by show ((v.toNat : Nat) : Int) = v; omega⟩)
  obtain ⟨k, hk, e⟩ := List.getElem_of_mem hv
  refine ⟨k, by omega, by omega, ?_⟩
  unfold pmO
  simp [List.getD_eq_getElem?_getD, hk, e]
theorem or_upd {n i v : Int} {p : Int → Int} (hp : orI n (fun a _ => p a) n n) (on : ∀ v : Int, 0 ≤ v → v < n → ∃ j : Int, 0 ≤ j ∧ j < n ∧ p j = v) (i0 : 0 ≤ i) (i1 : i < n) :
    orI n (fun a _ => isel (ieq a i) v (p a)) n n ↔ v = p i := by
  have hn : ¬ n = 0 := by omega
  have w1 : ∀ a, orW n (fun a _ => p a) a = p a := fun a => by unfold orW; rw [if_neg hn]
  have w2 : ∀ a, orW n (fun a _ => isel (ieq a i) v (p a)) a = isel (ieq a i) v (p a) := fun a => by unfold orW; rw [if_neg hn]
  have si : isel (ieq i i) v (p i) = v := by rw [ieq_rfl', isel_t]
  have sj : ∀ a, a ≠ i → isel (ieq a i) v (p a) = p a := fun a h => by rw [show ieq a i = false from decide_eq_false h, isel_f]
  constructor
  · intro h
    have hi := (h.2 i i0 i1).1
    rw [w2, si] at hi
    obtain ⟨j, j0, j1, e⟩ := on v hi.1 hi.2
    by_cases c : j = i
    · rw [← c, e]
    · exfalso
      by_cases lt : j < i
      · have := (h.2 i i0 i1).2 j j0 lt
        rw [w2, w2, si, sj j c, e] at this
        exact this rfl
      · have := (h.2 j j0 j1).2 i i0 (by omega)
        rw [w2, w2, si, sj j c, e] at this
        exact this rfl
  · intro e
    have same : ∀ a, isel (ieq a i) v (p a) = p a := fun a => by
      by_cases c : a = i
      · rw [c, si, e]
      · exact sj a c
    have : (fun (a : Int) (_ : Nat) => isel (ieq a i) v (p a)) = fun a _ => p a := by funext a _; exact same a
    rw [this]; exact hp
end Go.Proofs.Ytdpmigbenkndbaa
