import Derived.Test.YtpjhdjakpbabhaaDoorXg
namespace Go.Proofs.YtpjhdjakpbabhaaDoor
open Go.RowKit PR QR
set_option linter.unusedVariables false
set_option linter.unusedSimpArgs false
section
variable {o k m n i : Int} {s d q : Int → Nat → Int}
theorem row_pos {z : Nat} (h : row16 z n q) {j : Nat} (h0 : 0 ≤ i) (h1 : i < n) (hj : j < z) : 0 ≤ q i j ∧ q i j ≤ 65535 := by have := in16_iff.1 (h i j h0 h1 hj); omega
theorem pxT_iff : pxT q i = true ↔ q i 0 = 0 ∧ q i 1 = 0 ∧ q i 2 = 0 ∧ q i 3 = 0 ∧ q i 4 = 0 := by unfold pxT tpB; rw [decide_eq_true_eq]
theorem pxE_iff : pxE q i = true ↔ q i 0 = q 0 0 ∧ q i 1 = q 0 1 ∧ q i 2 = q 0 2 ∧ q i 3 = q 0 3 ∧ q i 4 = q 0 4 := by unfold pxE; rw [decide_eq_true_eq]
theorem pxO_iff : pxO m q i = true ↔ (m = 255 ∨ m = 65535) ∧ (q i 0 ≤ q i 3 ∧ q i 1 ≤ q i 3 ∧ q i 2 ≤ q i 3 ∧ q i 3 ≤ q i 4 ∧ q i 4 ≤ m) ∧ q i 3 = m := by
  unfold pxO oqB
  rw [Bool.and_eq_true, Bool.and_eq_true, pv_iff, decide_eq_true_eq]
  unfold fullB
  rw [decide_eq_true_eq]
  exact ⟨fun h => ⟨h.1.1, h.1.2, h.2⟩, fun h => ⟨⟨h.1, h.2.1⟩, h.2.2⟩⟩
theorem cl_one : clsV n q m = 1 ↔ allR n (pxT q) = true := by
  unfold clsV
  cases allR n (pxT q) <;> cases allR n (pxE q) <;> cases allR n (pxO m q) <;> simp
theorem cl_two (h : clsV n q m = 2) : allR n (pxE q) = true ∧ allR n (pxT q) = false := by
  unfold clsV at h
  cases a : allR n (pxT q) <;> cases b : allR n (pxE q) <;> cases c : allR n (pxO m q) <;> simp [a, b, c] at h <;> exact ⟨rfl, rfl⟩
theorem cl_three (h : clsV n q m = 3) : allR n (pxO m q) = true := by
  unfold clsV at h
  cases a : allR n (pxT q) <;> cases b : allR n (pxE q) <;> cases c : allR n (pxO m q) <;> simp [a, b, c] at h <;> rfl
theorem cl_same (h : clsV n q m = 2) (h0 : 0 ≤ i) (h1 : i < n) {c : Nat} (hc : c < 5) : q i c = q 0 c := by
  have := pxE_iff.1 (allR_iff.1 (cl_two h).1 i h0 h1)
  match c, hc with
  | 0, _ => exact this.1
  | 1, _ => exact this.2.1
  | 2, _ => exact this.2.2.1
  | 3, _ => exact this.2.2.2.1
  | 4, _ => exact this.2.2.2.2
theorem cl_nil (h : clsV n q m = 1) (h0 : 0 ≤ i) (h1 : i < n) {c : Nat} (hc : c < 5) : q i c = 0 := by
  have := pxT_iff.1 (allR_iff.1 (cl_one.1 h) i h0 h1)
  match c, hc with
  | 0, _ => exact this.1
  | 1, _ => exact this.2.1
  | 2, _ => exact this.2.2.1
  | 3, _ => exact this.2.2.2.1
  | 4, _ => exact this.2.2.2.2
theorem ef_cases : (efV o k m n q = 1 ∧ clsV n q m = 1 ∧ nuB o = true) ∨ (efV o k m n q = 2 ∧ rplB o k = true ∧ ((clsV n q m = 2 ∧ pxO m q 0 = true) ∨ clsV n q m = 3)) ∨ (efV o k m n q = 3 ∧ (clsV n q m = 1 ∨ clsV n q m = 2)) ∨ efV o k m n q = 0 := by
  unfold efV
  by_cases c1 : clsV n q m = 1
  · rw [decide_eq_true c1, cond_true]
    cases h : nuB o
    · simp [c1]
    · simp [c1]
  rw [decide_eq_false c1, cond_false]
  by_cases c2 : clsV n q m = 2
  · rw [decide_eq_true c2, cond_true]
    cases h : rplB o k && pxO m q 0
    · simp [c2]
    · rw [Bool.and_eq_true] at h; simp [c2, h.1, h.2]
  rw [decide_eq_false c2, cond_false]
  by_cases c3 : clsV n q m = 3
  · rw [decide_eq_true c3]
    cases h : rplB o k
    · simp
    · simp [c3]
  · rw [decide_eq_false c3]; simp
theorem ef_keep (h : efV o k m n q = 1) : neuB o = true ∧ ∀ i c, 0 ≤ i → i < n → (c : Nat) < 5 → q i c = 0 := by
  rcases ef_cases (o := o) (k := k) (m := m) (n := n) (q := q) with ⟨_, h1, h2⟩ | ⟨h1, _⟩ | ⟨h1, _⟩ | h1
  · exact ⟨h2, fun i c h0 h1' hc => cl_nil h1 h0 h1' hc⟩
  all_goals omega
theorem ef_cover (h : efV o k m n q = 2) : (o = 4 ∧ k = 1) ∧ ∀ i, 0 ≤ i → i < n → pxO m q i = true := by
  rcases ef_cases (o := o) (k := k) (m := m) (n := n) (q := q) with ⟨h1, _⟩ | ⟨_, h1, h2⟩ | ⟨h1, _⟩ | h1
  · omega
  · refine ⟨of_decide_eq_true h1, fun i h0 hn => ?_⟩
    rcases h2 with ⟨h2, h3⟩ | h2
    · rw [pxO_iff] at h3 ⊢
      rw [cl_same h2 h0 hn (c := 0) (by decide), cl_same h2 h0 hn (c := 1) (by decide), cl_same h2 h0 hn (c := 2) (by decide), cl_same h2 h0 hn (c := 3) (by decide), cl_same h2 h0 hn (c := 4) (by decide)]
      exact h3
    · exact allR_iff.1 (cl_three h2) i h0 hn
  all_goals omega
theorem ef_rep (h : efV o k m n q = 3) : ∀ i i' c, 0 ≤ i → i < n → 0 ≤ i' → i' < n → (c : Nat) < 5 → q i c = q i' c := by
  rcases ef_cases (o := o) (k := k) (m := m) (n := n) (q := q) with ⟨h1, _⟩ | ⟨h1, _⟩ | ⟨_, h1⟩ | h1
  · omega
  · omega
  · rcases h1 with h1 | h1
    · intro i i' c a b a' b' hc; rw [cl_nil h1 a b hc, cl_nil h1 a' b' hc]
    · intro i i' c a b a' b' hc; rw [cl_same h1 a b hc, cl_same h1 a' b' hc]
  · omega
theorem eqR_iff {z : Nat} {i' : Int} : eqR z d i i' = true ↔ ∀ j : Nat, j < z → d i j = d i' j := by unfold eqR; rw [decide_eq_true_eq]
theorem rci_iff : rcI o k m s d i = true ↔ ((1 ≤ o ∧ o ≤ 12) ∧ (1 ≤ k ∧ k ≤ 12)) ∧ (s i 0 ≤ s i 3 ∧ s i 1 ≤ s i 3 ∧ s i 2 ≤ s i 3 ∧ s i 3 ≤ s i 4 ∧ s i 4 ≤ m) ∧ (d i 0 ≤ d i 3 ∧ d i 1 ≤ d i 3 ∧ d i 2 ≤ d i 3 ∧ d i 3 ≤ d i 4 ∧ d i 4 ≤ m) ∧ (m = 255 ∨ m = 65535) := by
  unfold rcI pcOk
  rw [Bool.and_eq_true, Bool.and_eq_true, Bool.and_eq_true, pv_iff, pv_iff, decide_eq_true_eq]
  unfold fullB
  rw [decide_eq_true_eq]
  exact ⟨fun h => ⟨h.1.1, h.1.2.1, h.1.2.2, h.2⟩, fun h => ⟨⟨h.1, h.2.1, h.2.2.1⟩, h.2.2.2⟩⟩
theorem vp_iff (h0 : 0 ≤ m) : vpR m d i = true ↔ (d i 0 ≤ d i 3 ∧ d i 1 ≤ d i 3 ∧ d i 2 ≤ d i 3 ∧ d i 3 ≤ d i 4 ∧ d i 4 ≤ m) ∧ (m = 255 ∨ m = 65535) := by
  unfold vpR
  rw [va_iff]
  exact ⟨fun h => ⟨by omega, h.2.2⟩, fun h => ⟨by omega, by omega, h.2⟩⟩
theorem bool_eq2 {a b : Bool} (h : a = true ↔ b = true) : a = b := Bool.eq_iff_iff.2 h
theorem rc_keep (hd : row16 5 n d) (e : efV o k m n s = 1) (hn : 0 < n) (ok : rcI o k m s d 0 = true) (h0 : 0 ≤ i) (h1 : i < n) :
    rcI o k m s d i = vpR m d i ∧ (rcI o k m s d i = true → ∀ j : Nat, j < 5 → rcV o k m s d i j = d i j) := by
  obtain ⟨en, ez⟩ := ef_keep e
  obtain ⟨⟨ho, hk⟩, _, _, hm⟩ := rci_iff.1 ok
  have z := fun c hc => ez i c h0 h1 hc
  have z0 := z 0 (by decide); have z1 := z 1 (by decide); have z2 := z 2 (by decide); have z3 := z 3 (by decide); have z4 := z 4 (by decide)
  refine ⟨bool_eq2 ?_, fun h => ?_⟩
  · rw [rci_iff, vp_iff (by omega), z0, z1, z2, z3, z4]
    exact ⟨fun h => ⟨h.2.2.1, h.2.2.2⟩, fun h => ⟨⟨ho, hk⟩, by omega, h.1, hm⟩⟩
  · obtain ⟨_, _, g, _⟩ := rci_iff.1 h
    have p := fun c hc => (row_pos hd h0 h1 (j := c) hc).1
    have m0 : 0 < m := by omega
    have v := fun (c : Nat) (hc : c < 5) (hle : d i c ≤ d i 3) => (mc_neutral (o := o) (k := k) (m := m) (d := d i c) (b := d i 3) en hk hm (p c hc) hle (by omega)).2
    intro j hj
    match j, hj with
    | 0, _ => show mcV o k m (s i 0) (s i 3) (d i 0) (d i 3) = _; rw [z0, z3]; exact v 0 (by decide) g.1
    | 1, _ => show mcV o k m (s i 1) (s i 3) (d i 1) (d i 3) = _; rw [z1, z3]; exact v 1 (by decide) g.2.1
    | 2, _ => show mcV o k m (s i 2) (s i 3) (d i 2) (d i 3) = _; rw [z2, z3]; exact v 2 (by decide) g.2.2.1
    | 3, _ => show alV o (s i 3) (d i 3) m = _; rw [z3]; exact (op_neutral en (p 3 (by decide)) (by omega) m0).1
    | 4, _ => show shV o (s i 4) (d i 4) m = _; rw [z4]; exact (op_neutral en (p 4 (by decide)) (by omega) m0).2
theorem hlf_zz (hm : 0 < m) (d : Int) : hlf ((m - m) * d) m = 0 := by
  rw [Int.sub_self, Int.zero_mul]
  have := hlf_exact (x := 0) (Int.le_refl 0) hm
  rwa [Int.mul_zero] at this
theorem rc_cover (hs : row16 5 n s) (hd : row16 5 n d) (e : efV o k m n s = 2) (hn : 0 < n) (ok : rcI o k m s d 0 = true) (h0 : 0 ≤ i) (h1 : i < n) :
    rcI o k m s d i = vpR m d i ∧ (rcI o k m s d i = true → ∀ j : Nat, j < 5 → rcV o k m s d i j = s i j) := by
  obtain ⟨⟨rfl, rfl⟩, eo⟩ := ef_cover e
  obtain ⟨_, _, _, hm⟩ := rci_iff.1 ok
  obtain ⟨_, so, sm⟩ := pxO_iff.1 (eo i h0 h1)
  refine ⟨bool_eq2 ?_, fun h => ?_⟩
  · rw [rci_iff, vp_iff (by omega)]
    exact ⟨fun h => ⟨h.2.2.1, h.2.2.2⟩, fun h => ⟨by omega, so, h.1, hm⟩⟩
  · obtain ⟨_, _, g, _⟩ := rci_iff.1 h
    have p := fun c hc => (row_pos hd h0 h1 (j := c) hc).1
    have r := fun c hc => (row_pos hs h0 h1 (j := c) hc).1
    have m0 : 0 < m := by omega
    have v := fun (c : Nat) (hc : c < 5) (hle : d i c ≤ d i 3) (hle2 : s i c ≤ s i 3) => (mc_classic (m := m) (s := s i c) (a := m) (d := d i c) (b := d i 3) hm (r c hc) (by omega) (Int.le_refl m) (p c hc) hle (by omega)).2
    have f4 : s i 4 = m := by omega
    intro j hj
    match j, hj with
    | 0, _ => show mcV 4 1 m (s i 0) (s i 3) (d i 0) (d i 3) = _; rw [sm, v 0 (by decide) g.1 so.1, hlf_zz m0]; omega
    | 1, _ => show mcV 4 1 m (s i 1) (s i 3) (d i 1) (d i 3) = _; rw [sm, v 1 (by decide) g.2.1 so.2.1, hlf_zz m0]; omega
    | 2, _ => show mcV 4 1 m (s i 2) (s i 3) (d i 2) (d i 3) = _; rw [sm, v 2 (by decide) g.2.2.1 so.2.2.1, hlf_zz m0]; omega
    | 3, _ => show alV 4 (s i 3) (d i 3) m = _; rw [sm, (al_over (a := m) (b := d i 3) (m := m) (by omega) (by omega) (p 3 (by decide)) (by omega) m0).1, hlf_zz m0]; omega
    | 4, _ => show shV 4 (s i 4) (d i 4) m = _; rw [f4, (al_over (a := m) (b := d i 4) (m := m) (by omega) (by omega) (p 4 (by decide)) (by omega) m0).2, hlf_zz m0]; omega
theorem rc_rep (e : efV o k m n s = 3) {i' : Int} (h : eqR 5 d i i' = true) (h0 : 0 ≤ i) (h1 : i < n) (h0' : 0 ≤ i') (h1' : i' < n) : rcI o k m s d i = rcI o k m s d i' ∧ ∀ j : Nat, j < 5 → rcV o k m s d i j = rcV o k m s d i' j := by
  have hs := fun c hc => ef_rep e i i' c h0 h1 h0' h1' hc
  have hd := eqR_iff.1 h
  have s0 := hs 0 (by decide); have s1 := hs 1 (by decide); have s2 := hs 2 (by decide); have s3 := hs 3 (by decide); have s4 := hs 4 (by decide)
  have d0 := hd 0 (by decide); have d1 := hd 1 (by decide); have d2 := hd 2 (by decide); have d3 := hd 3 (by decide); have d4 := hd 4 (by decide)
  refine ⟨by unfold rcI; rw [s0, s1, s2, s3, s4, d0, d1, d2, d3, d4], fun j hj => ?_⟩
  match j, hj with
  | 0, _ => show mcV o k m (s i 0) (s i 3) (d i 0) (d i 3) = mcV o k m (s i' 0) (s i' 3) (d i' 0) (d i' 3); rw [s0, s3, d0, d3]
  | 1, _ => show mcV o k m (s i 1) (s i 3) (d i 1) (d i 3) = mcV o k m (s i' 1) (s i' 3) (d i' 1) (d i' 3); rw [s1, s3, d1, d3]
  | 2, _ => show mcV o k m (s i 2) (s i 3) (d i 2) (d i 3) = mcV o k m (s i' 2) (s i' 3) (d i' 2) (d i' 3); rw [s2, s3, d2, d3]
  | 3, _ => show alV o (s i 3) (d i 3) m = alV o (s i' 3) (d i' 3) m; rw [s3, d3]
  | 4, _ => show shV o (s i 4) (d i 4) m = shV o (s i' 4) (d i' 4) m; rw [s4, d4]
end
section
variable {kn : Bool} {o k m n i : Int} {s a b : Int → Nat → Int}
end
section
variable {m o n nm i : Int} {q : Int → Nat → Int} {k : Int → Int}
theorem rsi_iff : rsI m o nm q k i = true ↔ (q i 0 ≤ q i 3 ∧ q i 1 ≤ q i 3 ∧ q i 2 ≤ q i 3 ∧ q i 3 ≤ q i 4 ∧ q i 4 ≤ m) ∧ smkV m nm k i ≤ m ∧ (m = 255 ∨ m = 65535) ∧ o ≤ m := sb_iff
theorem rs_nil (e : clsV n q m = 1) (o0 : 0 ≤ o) (hn : 0 < n) (ok : rsI m o nm q k 0 = true) (h0 : 0 ≤ i) (h1 : i < n) (f0 : 0 ≤ smkV m nm k i) :
    rsI m o nm q k i = decide (smkV m nm k i ≤ m) ∧ (rsI m o nm q k i = true → ∀ j : Nat, j < 5 → rsV m o nm q k i j = 0) := by
  obtain ⟨_, _, hm, ho⟩ := rsi_iff.1 ok
  have z := fun c hc => cl_nil e h0 h1 (c := c) hc
  have z0 := z 0 (by decide); have z1 := z 1 (by decide); have z2 := z 2 (by decide); have z3 := z 3 (by decide); have z4 := z 4 (by decide)
  refine ⟨bool_eq2 ?_, fun h j hj => ?_⟩
  · rw [rsi_iff, z0, z1, z2, z3, z4, decide_eq_true_eq]
    exact ⟨fun h => h.2.1, fun h => ⟨by omega, h, hm, ho⟩⟩
  · unfold rsV
    rw [z j hj]
    have t : scN 0 (smkV m nm k i) m = 0 := by have := sc_range (x := 0) (k := smkV m nm k i) (m := m) (Int.le_refl 0) f0 (rsi_iff.1 h).2.1 (by omega); omega
    have t2 : scN 0 o m = 0 := by have := sc_range (x := 0) (k := o) (m := m) (Int.le_refl 0) o0 ho (by omega); omega
    have := (sb_at (x := 0) h (Int.le_refl 0) (by omega) f0 o0).1
    rw [this, t, t2]
theorem rs_full (hq : row16 5 n q) (h0 : 0 ≤ i) (h1 : i < n) (f : smkV m nm k i = m) (m0 : 0 ≤ m) : rsI m m nm q k i = vpR m q i ∧ (rsI m m nm q k i = true → ∀ j : Nat, j < 5 → rsV m m nm q k i j = q i j) := by
  refine ⟨bool_eq2 ?_, fun h j hj => ?_⟩
  · rw [rsi_iff, vp_iff m0, f]
    exact ⟨fun h => ⟨h.1, h.2.2.1⟩, fun h => ⟨h.1, Int.le_refl m, h.2, Int.le_refl m⟩⟩
  · obtain ⟨_, _, hm, _⟩ := rsi_iff.1 h
    obtain ⟨p0, p1⟩ := row_pos hq h0 h1 hj
    unfold rsV
    have := (sb_at (x := q i j) h p0 p1 (by omega) m0).1
    rw [this, f, sc_full p0 (by omega), sc_full p0 (by omega)]
theorem rs_rep (e : clsV n q m = 2) {i' : Int} (h : smkV m nm k i = smkV m nm k i') (h0 : 0 ≤ i) (h1 : i < n) (h0' : 0 ≤ i') (h1' : i' < n) : rsI m o nm q k i = rsI m o nm q k i' ∧ ∀ j : Nat, j < 5 → rsV m o nm q k i j = rsV m o nm q k i' j := by
  have hq := fun c hc => (cl_same e h0 h1 (c := c) hc).trans (cl_same e h0' h1' (c := c) hc).symm
  have q0 := hq 0 (by decide); have q1 := hq 1 (by decide); have q2 := hq 2 (by decide); have q3 := hq 3 (by decide); have q4 := hq 4 (by decide)
  refine ⟨by unfold rsI; rw [q0, q1, q2, q3, q4, h], fun j hj => ?_⟩
  unfold rsV
  rw [q0, q1, q2, q3, q4, hq j hj, h]
end
end Go.Proofs.YtpjhdjakpbabhaaDoor
