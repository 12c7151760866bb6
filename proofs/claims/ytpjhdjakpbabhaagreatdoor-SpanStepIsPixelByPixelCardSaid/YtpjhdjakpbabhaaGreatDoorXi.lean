import Derived.Test.YtpjhdjakpbabhaaGreatDoorXg
namespace Go.Proofs.YtpjhdjakpbabhaaGreatDoor
open Go.RowKit PR QR
set_option linter.unusedVariables false
set_option linter.unusedSimpArgs false
section
variable {o k m n i : Int} {s d q : Int → Nat → Int}
theorem row_pos {z : Nat} (h : row16 z n q) {j : Nat} (h0 : 0 ≤ i) (h1 : i < n) (hj : j < z) : 0 ≤ q i j ∧ q i j ≤ 65535 := by have := in16_iff.1 (h i j h0 h1 hj); omega
theorem pxT_iff : pxT q i = true ↔ q i 0 = 0 ∧ q i 1 = 0 ∧ q i 2 = 0 ∧ q i 3 = 0 ∧ q i 4 = 0 := by unfold pxT tpB; rw [decide_eq_true_eq]
theorem pxE_iff : pxE q i = true ↔ q i 0 = q 0 0 ∧ q i 1 = q 0 1 ∧ q i 2 = q 0 2 ∧ q i 3 = q 0 3 ∧ q i 4 = q 0 4 := by unfold pxE; rw [decide_eq_true_eq]
theorem pxO_iff : pxO m q i = true ↔ (m = 255 ∨ m = 65535) ∧ (q i 0 ≤ q i 3 ∧ q i 1 ≤ q i 3 ∧ q i 2 ≤ q i 3 ∧ q i 3 ≤ q i 4 ∧ q i 4 ≤ m) ∧ q i 3 = m := by
  unfold pxO oqB
  rw [Bool.and_eq_true, Bool.and_eq_true, pv_iff, decide_eq_true_eq]
  unfold fullB
  rw [decide_eq_true_eq]
  exact ⟨fun h => ⟨h.1.1, h.1.2, h.2⟩, fun h => ⟨⟨h.1, h.2.1⟩, h.2.2⟩⟩
theorem cl_one : clsV n q m = 1 ↔ allR n (pxT q) = true := by
  unfold clsV
  cases allR n (pxT q) <;> cases allR n (pxE q) <;> cases allR n (pxO m q) <;> simp
theorem cl_two (h : clsV n q m = 2) : allR n (pxE q) = true ∧ allR n (pxT q) = false := by
  unfold clsV at h
  cases a : allR n (pxT q) <;> cases b : allR n (pxE q) <;> cases c : allR n (pxO m q) <;> simp [a, b, c] at h <;> exact ⟨rfl, rfl⟩
theorem cl_three (h : clsV n q m = 3) : allR n (pxO m q) = true := by
  unfold clsV at h
  cases a : allR n (pxT q) <;> cases b : allR n (pxE q) <;> cases c : allR n (pxO m q) <;> simp [a, b, c] at h <;> rfl
theorem cl_same (h : clsV n q m = 2) (h0 : 0 ≤ i) (h1 : i < n) {c : Nat} (hc : c < 5) : q i c = q 0 c := by
  have := pxE_iff.1 (allR_iff.1 (cl_two h).1 i h0 h1)
  match c, hc with
  | 0, _ => exact this.1
  | 1, _ => exact this.2.1
  | 2, _ => exact this.2.2.1
  | 3, _ => exact this.2.2.2.1
  | 4, _ => exact this.2.2.2.2
theorem cl_nil (h : clsV n q m = 1) (h0 : 0 ≤ i) (h1 : i < n) {c : Nat} (hc : c < 5) : q i c = 0 := by
  have := pxT_iff.1 (allR_iff.1 (cl_one.1 h) i h0 h1)
  match c, hc with
  | 0, _ => exact this.1
  | 1, _ => exact this.2.1
  | 2, _ => exact this.2.2.1
  | 3, _ => exact this.2.2.2.1
  | 4, _ => exact this.2.2.2.2
theorem ef_cases : (efV o k m n q = 1 ∧ clsV n q m = 1 ∧ nuB o = true) ∨ (efV o k m n q = 2 ∧ rplB o k = true ∧ ((clsV n q m = 2 ∧ pxO m q 0 = true) ∨ clsV n q m = 3)) ∨ (efV o k m n q = 3 ∧ (clsV n q m = 1 ∨ clsV n q m = 2)) ∨ efV o k m n q = 0 := by
  unfold efV
  by_cases c1 : clsV n q m = 1
  · rw [decide_eq_true c1, cond_true]
    cases h : nuB o
    · simp [c1]
    · simp [c1]
  rw [decide_eq_false c1, cond_false]
  by_cases c2 : clsV n q m = 2
  · rw [decide_eq_true c2, cond_true]
    cases h : rplB o k && pxO m q 0
    · simp [c2]
    · rw [Bool.and_eq_true] at h; simp [c2, h.1, h.2]
  rw [decide_eq_false c2, cond_false]
  by_cases c3 : clsV n q m = 3
  · rw [decide_eq_true c3]
    cases h : rplB o k
    · simp
    · simp [c3]
  · rw [decide_eq_false c3]; simp
theorem ef_keep (h : efV o k m n q = 1) : neuB o = true ∧ ∀ i c, 0 ≤ i → i < n → (c : Nat) < 5 → q i c = 0 := by
  rcases ef_cases (o := o) (k := k) (m := m) (n := n) (q := q) with ⟨_, h1, h2⟩ | ⟨h1, _⟩ | ⟨h1, _⟩ | h1
  · exact ⟨h2, fun i c h0 h1' hc => cl_nil h1 h0 h1' hc⟩
  all_goals omega
theorem ef_cover (h : efV o k m n q = 2) : (o = 4 ∧ k = 1) ∧ ∀ i, 0 ≤ i → i < n → pxO m q i = true := by
  rcases ef_cases (o := o) (k := k) (m := m) (n := n) (q := q) with ⟨h1, _⟩ | ⟨_, h1, h2⟩ | ⟨h1, _⟩ | h1
  · omega
  · refine ⟨of_decide_eq_true h1, fun i h0 hn => ?_⟩
    rcases h2 with ⟨h2, h3⟩ | h2
    · rw [pxO_iff] at h3 ⊢
      rw [cl_same h2 h0 hn (c := 0) (by decide), cl_same h2 h0 hn (c := 1) (by decide), cl_same h2 h0 hn (c := 2) (by decide), cl_same h2 h0 hn (c := 3) (by decide), cl_same h2 h0 hn (c := 4) (by decide)]
      exact h3
    · exact allR_iff.1 (cl_three h2) i h0 hn
  all_goals omega
theorem ef_rep (h : efV o k m n q = 3) : ∀ i i' c, 0 ≤ i → i < n → 0 ≤ i' → i' < n → (c : Nat) < 5 → q i c = q i' c := by
  rcases ef_cases (o := o) (k := k) (m := m) (n := n) (q := q) with ⟨h1, _⟩ | ⟨h1, _⟩ | ⟨_, h1⟩ | h1
  · omega
  · omega
  · rcases h1 with h1 | h1
    · intro i i' c a b a' b' hc; rw [cl_nil h1 a b hc, cl_nil h1 a' b' hc]
    · intro i i' c a b a' b' hc; rw [cl_same h1 a b hc, cl_same h1 a' b' hc]
  · omega
theorem eqR_iff {z : Nat} {i' : Int} : eqR z d i i' = true ↔ ∀ j : Nat, j < z → d i j = d i' j := by unfold eqR; rw [decide_eq_true_eq]
theorem rci_iff : rcI o k m s d i = true ↔ ((1 ≤ o ∧ o ≤ 12) ∧ (1 ≤ k ∧ k ≤ 12)) ∧ (s i 0 ≤ s i 3 ∧ s i 1 ≤ s i 3 ∧ s i 2 ≤ s i 3 ∧ s i 3 ≤ s i 4 ∧ s i 4 ≤ m) ∧ (d i 0 ≤ d i 3 ∧ d i 1 ≤ d i 3 ∧ d i 2 ≤ d i 3 ∧ d i 3 ≤ d i 4 ∧ d i 4 ≤ m) ∧ (m = 255 ∨ m = 65535) := by
  unfold rcI pcOk
  rw [Bool.and_eq_true, Bool.and_eq_true, Bool.and_eq_true, pv_iff, pv_iff, decide_eq_true_eq]
  unfold fullB
  rw [decide_eq_true_eq]
  exact ⟨fun h => ⟨h.1.1, h.1.2.1, h.1.2.2, h.2⟩, fun h => ⟨⟨h.1, h.2.1, h.2.2.1⟩, h.2.2.2⟩⟩
theorem vp_iff (h0 : 0 ≤ m) : vpR m d i = true ↔ (d i 0 ≤ d i 3 ∧ d i 1 ≤ d i 3 ∧ d i 2 ≤ d i 3 ∧ d i 3 ≤ d i 4 ∧ d i 4 ≤ m) ∧ (m = 255 ∨ m = 65535) := by
  unfold vpR
  rw [va_iff]
  exact ⟨fun h => ⟨by omega, h.2.2⟩, fun h => ⟨by omega, by omega, h.2⟩⟩
theorem bool_eq2 {a b : Bool} (h : a = true ↔ b = true) : a = b := Bool.eq_iff_iff.2 h
theorem rc_keep (hd : row16 5 n d) (e : efV o k m n s = 1) (hn : 0 < n) (ok : rcI o k m s d 0 = true) (h0 : 0 ≤ i) (h1 : i < n) :
    rcI o k m s d i = vpR m d i ∧ (rcI o k m s d i = true → ∀ j : Nat, j < 5 → rcV o k m s d i j = d i j) := by
  obtain ⟨en, ez⟩ := ef_keep e
  obtain ⟨⟨ho, hk⟩, _, _, hm⟩ := rci_iff.1 ok
  have z := fun c hc => ez i c h0 h1 hc
  have z0 := z 0 (by decide); have z1 := z 1 (by decide); have z2 := z 2 (by decide); have z3 := z 3 (by decide); have z4 := z 4 (by decide)
  refine ⟨bool_eq2 ?_, fun h => ?_⟩
  · rw [rci_iff, vp_iff (by omega), z0, z1, z2, z3, z4]
    exact ⟨fun h => ⟨h.2.2.1, h.2.2.2⟩, fun h => ⟨⟨ho, hk⟩, by omega, h.1, hm⟩⟩
  · obtain ⟨_, _, g, _⟩ := rci_iff.1 h
    have p := fun c hc => (row_pos hd h0 h1 (j := c) hc).1
    have m0 : 0 < m := by omega
    have v := fun (c : Nat) (hc : c < 5) (hle : d i c ≤ d i 3) => (mc_neutral (o := o) (k := k) (m := m) (d := d i c) (b := d i 3) en hk hm (p c hc) hle (by omega)).2
    intro j hj
    match j, hj with
    | 0, _ => show mcV o k m (s i 0) (s i 3) (d i 0) (d i 3) = _; rw [z0, z3]; exact v 0 (by decide) g.1
    | 1, _ => show mcV o k m (s i 1) (s i 3) (d i 1) (d i 3) = _; rw [z1, z3]; exact v 1 (by decide) g.2.1
    | 2, _ => show mcV o k m (s i 2) (s i 3) (d i 2) (d i 3) = _; rw [z2, z3]; exact v 2 (by decide) g.2.2.1
    | 3, _ => show alV o (s i 3) (d i 3) m = _; rw [z3]; exact (op_neutral en (p 3 (by decide)) (by omega) m0).1
    | 4, _ => show shV o (s i 4) (d i 4) m = _; rw [z4]; exact (op_neutral en (p 4 (by decide)) (by omega) m0).2
theorem hlf_zz (hm : 0 < m) (d : Int) : hlf ((m - m) * d) m = 0 := by
  rw [Int.sub_self, Int.zero_mul]
  have := hlf_exact (x := 0) (Int.le_refl 0) hm
  rwa [Int.mul_zero] at this
theorem rc_cover (hs : row16 5 n s) (hd : row16 5 n d) (e : efV o k m n s = 2) (hn : 0 < n) (ok : rcI o k m s d 0 = true) (h0 : 0 ≤ i) (h1 : i < n) :
    rcI o k m s d i = vpR m d i ∧ (rcI o k m s d i = true → ∀ j : Nat, j < 5 → rcV o k m s d i j = s i j) := by
  obtain ⟨⟨rfl, rfl⟩, eo⟩ := ef_cover e
  obtain ⟨_, _, _, hm⟩ := rci_iff.1 ok
  obtain ⟨_, so, sm⟩ := pxO_iff.1 (eo i h0 h1)
  refine ⟨bool_eq2 ?_, fun h => ?_⟩
  · rw [rci_iff, vp_iff (by omega)]
    exact ⟨fun h => ⟨h.2.2.1, h.2.2.2⟩, fun h => ⟨by omega, so, h.1, hm⟩⟩
  · obtain ⟨_, _, g, _⟩ := rci_iff.1 h
    have p := fun c hc => (row_pos hd h0 h1 (j := c) hc).1
    have r := fun c hc => (row_pos hs h0 h1 (j := c) hc).1
    have m0 : 0 < m := by omega
    have v := fun (c : Nat) (hc : c < 5) (hle : d i c ≤ d i 3) (hle2 : s i c ≤ s i 3) => (mc_classic (m := m) (s := s i c) (a := m) (d := d i c) (b := d i 3) hm (r c hc) (by omega) (Int.le_refl m) (p c hc) hle (by omega)).2
    have f4 : s i 4 = m := by omega
    intro j hj
    match j, hj with
    | 0, _ => show mcV 4 1 m (s i 0) (s i 3) (d i 0) (d i 3) = _; rw [sm, v 0 (by decide) g.1 so.1, hlf_zz m0]; omega
    | 1, _ => show mcV 4 1 m (s i 1) (s i 3) (d i 1) (d i 3) = _; rw [sm, v 1 (by decide) g.2.1 so.2.1, hlf_zz m0]; omega
    | 2, _ => show mcV 4 1 m (s i 2) (s i 3) (d i 2) (d i 3) = _; rw [sm, v 2 (by decide) g.2.2.1 so.2.2.1, hlf_zz m0]; omega
    | 3, _ => show alV 4 (s i 3) (d i 3) m = _; rw [sm, (al_over (a := m) (b := d i 3) (m := m) (by omega) (by omega) (p 3 (by decide)) (by omega) m0).1, hlf_zz m0]; omega
    | 4, _ => show shV 4 (s i 4) (d i 4) m = _; rw [f4, (al_over (a := m) (b := d i 4) (m := m) (by omega) (by omega) (p 4 (by decide)) (by omega) m0).2, hlf_zz m0]; omega
theorem rc_rep (e : efV o k m n s = 3) {i' : Int} (h : eqR 5 d i i' = true) (h0 : 0 ≤ i) (h1 : i < n) (h0' : 0 ≤ i') (h1' : i' < n) : rcI o k m s d i = rcI o k m s d i' ∧ ∀ j : Nat, j < 5 → rcV o k m s d i j = rcV o k m s d i' j := by
  have hs := fun c hc => ef_rep e i i' c h0 h1 h0' h1' hc
  have hd := eqR_iff.1 h
  have s0 := hs 0 (by decide); have s1 := hs 1 (by decide); have s2 := hs 2 (by decide); have s3 := hs 3 (by decide); have s4 := hs 4 (by decide)
  have d0 := hd 0 (by decide); have d1 := hd 1 (by decide); have d2 := hd 2 (by decide); have d3 := hd 3 (by decide); have d4 := hd 4 (by decide)
  refine ⟨by unfold rcI; rw [s0, s1, s2, s3, s4, d0, d1, d2, d3, d4], fun j hj => ?_⟩
  match j, hj with
  | 0, _ => show mcV o k m (s i 0) (s i 3) (d i 0) (d i 3) = mcV o k m (s i' 0) (s i' 3) (d i' 0) (d i' 3); rw [s0, s3, d0, d3]
  | 1, _ => show mcV o k m (s i 1) (s i 3) (d i 1) (d i 3) = mcV o k m (s i' 1) (s i' 3) (d i' 1) (d i' 3); rw [s1, s3, d1, d3]
  | 2, _ => show mcV o k m (s i 2) (s i 3) (d i 2) (d i 3) = mcV o k m (s i' 2) (s i' 3) (d i' 2) (d i' 3); rw [s2, s3, d2, d3]
  | 3, _ => show alV o (s i 3) (d i 3) m = alV o (s i' 3) (d i' 3) m; rw [s3, d3]
  | 4, _ => show shV o (s i 4) (d i 4) m = shV o (s i' 4) (d i' 4) m; rw [s4, d4]
end
section
variable {kn : Bool} {o k m n i : Int} {s a b : Int → Nat → Int}
theorem rgi_iff : rgI kn o k m s a b i = true ↔ ((1 ≤ o ∧ o ≤ 12) ∧ (1 ≤ k ∧ k ≤ 12) ∧ (kn = true → o = 4)) ∧ (s i 0 ≤ s i 3 ∧ s i 1 ≤ s i 3 ∧ s i 2 ≤ s i 3 ∧ s i 3 ≤ s i 4 ∧ s i 4 ≤ m) ∧ rrI m a b i = true := gs_iff
theorem rri_iff : rrI m a b i = true ↔ (a i 0 ≤ a i 3 ∧ a i 1 ≤ a i 3 ∧ a i 2 ≤ a i 3 ∧ a i 4 ≤ a i 3 ∧ a i 4 ≤ a i 5 ∧ a i 3 ≤ m ∧ a i 5 ≤ m) ∧ (b i 0 ≤ b i 3 ∧ b i 1 ≤ b i 3 ∧ b i 2 ≤ b i 3 ∧ b i 3 = b i 4 ∧ b i 3 ≤ m) ∧ (m = 255 ∨ m = 65535) := va_iff
theorem rg_keep (ha : row16 6 n a) (hb : row16 5 n b) (e : efV o k m n s = 1) (hn : 0 < n) (ok : rgI kn o k m s a b 0 = true) (h0 : 0 ≤ i) (h1 : i < n) :
    rgI kn o k m s a b i = rrI m a b i ∧ (rgI kn o k m s a b i = true → ∀ j : Nat, j < 6 → rgV kn o k m s a b i j = a i j) := by
  obtain ⟨en, ez⟩ := ef_keep e
  obtain ⟨⟨ho, hk, hkn⟩, _, _⟩ := rgi_iff.1 ok
  have z := fun c hc => ez i c h0 h1 hc
  have z0 := z 0 (by decide); have z1 := z 1 (by decide); have z2 := z 2 (by decide); have z3 := z 3 (by decide); have z4 := z 4 (by decide)
  refine ⟨bool_eq2 ?_, fun h => ?_⟩
  · rw [rgi_iff, z0, z1, z2, z3, z4]
    refine ⟨fun h => h.2.2, fun h => ⟨⟨ho, hk, hkn⟩, ?_, h⟩⟩
    have := (rri_iff.1 h).2.2
    omega
  · obtain ⟨_, _, g⟩ := rgi_iff.1 h
    obtain ⟨g, gb, hm⟩ := rri_iff.1 g
    have p := fun c hc => (row_pos ha h0 h1 (j := c) hc).1
    have r := fun c hc => (row_pos hb h0 h1 (j := c) hc).1
    have p3 := p 3 (by decide); have p4 := p 4 (by decide); have p5 := p 5 (by decide); have r3 := r 3 (by decide)
    have m0 : 0 < m := by omega
    have C : ∀ c : Nat, c < 3 → a i c ≤ a i 3 → b i c ≤ b i 3 → gsC kn o k m 0 0 0 (a i c) (a i 3) (b i c) (b i 3) = a i c := fun c hc g1 g2 => by
      have q := p c (by omega)
      cases kn
      · exact (mc_neutral en hk hm q g1 (by omega)).2
      · exact (kc_none (k := k) (m := m) hk hm (r c (by omega)) g2 (by omega) q (by omega)).2
    intro j hj
    match j, hj with
    | 0, _ => show gsC kn o k m (s i 0) (s i 3) (s i 4) (a i 0) (a i 3) (b i 0) (b i 3) = _; rw [z0, z3, z4]; exact C 0 (by decide) g.1 gb.1
    | 1, _ => show gsC kn o k m (s i 1) (s i 3) (s i 4) (a i 1) (a i 3) (b i 1) (b i 3) = _; rw [z1, z3, z4]; exact C 1 (by decide) g.2.1 gb.2.1
    | 2, _ => show gsC kn o k m (s i 2) (s i 3) (s i 4) (a i 2) (a i 3) (b i 2) (b i 3) = _; rw [z2, z3, z4]; exact C 2 (by decide) g.2.2.1 gb.2.2.1
    | 3, _ =>
      show gsA kn o m (s i 3) (s i 4) (a i 3) (b i 3) = _
      rw [z3, z4]
      cases kn
      · exact (op_neutral en p3 (by omega) m0).1
      · exact (ka_none hm r3 (by omega) p3 (by omega)).2
    | 4, _ =>
      show gsO kn o m (s i 3) (s i 4) (a i 4) = _
      rw [z3, z4]
      cases kn
      · exact (op_neutral en p4 (by omega) m0).1
      · exact (ka_none hm (Int.le_refl 0) (by omega) p4 (by omega)).2
    | 5, _ => show gsF o m (s i 4) (a i 5) = _; rw [z4]; exact (op_neutral en p5 (by omega) m0).2
def gcvV (m : Int) (s : Int → Nat → Int) (i : Int) : Nat → Int
  | 0 => s i 0
  | 1 => s i 1
  | 2 => s i 2
  | _ => m
theorem rg_cover (hs : row16 5 n s) (ha : row16 6 n a) (hb : row16 5 n b) (e : efV o k m n s = 2) (hn : 0 < n) (ok : rgI kn o k m s a b 0 = true) (h0 : 0 ≤ i) (h1 : i < n) :
    rgI kn o k m s a b i = rrI m a b i ∧ (rgI kn o k m s a b i = true → ∀ j : Nat, j < 6 → rgV kn o k m s a b i j = gcvV m s i j) := by
  obtain ⟨⟨rfl, rfl⟩, eo⟩ := ef_cover e
  obtain ⟨_, so, sm⟩ := pxO_iff.1 (eo i h0 h1)
  refine ⟨bool_eq2 ?_, fun h => ?_⟩
  · rw [rgi_iff]
    exact ⟨fun h => h.2.2, fun h => ⟨⟨by omega, by omega, fun _ => rfl⟩, so, h⟩⟩
  · obtain ⟨_, _, g⟩ := rgi_iff.1 h
    obtain ⟨g, gb, hm⟩ := rri_iff.1 g
    have p := fun c hc => (row_pos ha h0 h1 (j := c) hc).1
    have r := fun c hc => (row_pos hb h0 h1 (j := c) hc).1
    have t := fun c hc => (row_pos hs h0 h1 (j := c) hc).1
    have p3 := p 3 (by decide); have p4 := p 4 (by decide); have p5 := p 5 (by decide); have r3 := r 3 (by decide)
    have m0 : 0 < m := by omega
    have f4 : s i 4 = m := by omega
    have C : ∀ c : Nat, c < 3 → s i c ≤ s i 3 → a i c ≤ a i 3 → b i c ≤ b i 3 → gsC kn 4 1 m (s i c) m m (a i c) (a i 3) (b i c) (b i 3) = s i c := fun c hc g0 g1 g2 => by
      have q := p c (by omega)
      cases kn
      · show mcV 4 1 m (s i c) m (a i c) (a i 3) = _
        rw [(mc_classic (m := m) (s := s i c) (a := m) (d := a i c) (b := a i 3) hm (t c (by omega)) (by omega) (Int.le_refl m) q g1 (by omega)).2, hlf_zz m0]; omega
      · show kcV 1 m (s i c) m m (a i c) (b i c) (b i 3) = _
        rw [(kc_full (k := 1) (m := m) (s := s i c) (a := m) (d := b i c) (b := b i 3) (p := a i c) (q := b i c) (by omega) hm (by omega) (Int.le_refl m) g2 (by omega) (by omega) (by omega)).2.2,
          (kc_first (k := 1) (by omega) hm (t c (by omega)) (show s i c ≤ m by omega) (Int.le_refl m) (Int.le_refl m) (r c (by omega)) g2 (by omega)).2.2,
          (mc_classic (m := m) (s := s i c) (a := m) (d := b i c) (b := b i 3) hm (t c (by omega)) (by omega) (Int.le_refl m) (r c (by omega)) g2 (by omega)).2, hlf_zz m0]; omega
    have O : ∀ x : Int, 0 ≤ x → x ≤ m → alV 4 m x m = m ∧ shV 4 m x m = m := fun x x0 x1 => by
      have := al_over (a := m) (b := x) (m := m) (by omega) (by omega) x0 x1 m0
      rw [hlf_zz m0] at this; omega
    intro j hj
    match j, hj with
    | 0, _ => show gsC kn 4 1 m (s i 0) (s i 3) (s i 4) (a i 0) (a i 3) (b i 0) (b i 3) = s i 0; rw [sm, f4]; exact C 0 (by decide) so.1 g.1 gb.1
    | 1, _ => show gsC kn 4 1 m (s i 1) (s i 3) (s i 4) (a i 1) (a i 3) (b i 1) (b i 3) = s i 1; rw [sm, f4]; exact C 1 (by decide) so.2.1 g.2.1 gb.2.1
    | 2, _ => show gsC kn 4 1 m (s i 2) (s i 3) (s i 4) (a i 2) (a i 3) (b i 2) (b i 3) = s i 2; rw [sm, f4]; exact C 2 (by decide) so.2.2.1 g.2.2.1 gb.2.2.1
    | 3, _ =>
      show gsA kn 4 m (s i 3) (s i 4) (a i 3) (b i 3) = m
      rw [sm, f4]
      cases kn
      · exact (O _ p3 (by omega)).1
      · show kaV m m m (a i 3) (b i 3) = m
        rw [(ka_full (m := m) (a := m) (b := b i 3) (p := a i 3) (q := b i 3) hm (Int.le_refl m) (by omega) (by omega) (by omega)).2.2, (ka_first hm (by omega) (Int.le_refl m) (Int.le_refl m) r3 (by omega)).2.1]
        exact (O _ r3 (by omega)).1
    | 4, _ =>
      show gsO kn 4 m (s i 3) (s i 4) (a i 4) = m
      rw [sm, f4]
      cases kn
      · exact (O _ p4 (by omega)).1
      · show kaV m m m (a i 4) 0 = m
        rw [(ka_full (m := m) (a := m) (b := 0) (p := a i 4) (q := 0) hm (Int.le_refl m) (by omega) (by omega) (by omega)).2.2, (ka_first hm (by omega) (Int.le_refl m) (Int.le_refl m) (Int.le_refl 0) (by omega)).2.2.2]
    | 5, _ => show gsF 4 m (s i 4) (a i 5) = m; rw [f4]; exact (O _ p5 (by omega)).2
theorem rg_rep (e : efV o k m n s = 3) {i' : Int} (h : (eqR 6 a i i' && eqR 5 b i i') = true) (h0 : 0 ≤ i) (h1 : i < n) (h0' : 0 ≤ i') (h1' : i' < n) : rgI kn o k m s a b i = rgI kn o k m s a b i' ∧ ∀ j : Nat, j < 6 → rgV kn o k m s a b i j = rgV kn o k m s a b i' j := by
  rw [Bool.and_eq_true] at h
  have hs := fun c hc => ef_rep e i i' c h0 h1 h0' h1' hc
  have ha := eqR_iff.1 h.1
  have hb := eqR_iff.1 h.2
  have s0 := hs 0 (by decide); have s1 := hs 1 (by decide); have s2 := hs 2 (by decide); have s3 := hs 3 (by decide); have s4 := hs 4 (by decide)
  have a0 := ha 0 (by decide); have a1 := ha 1 (by decide); have a2 := ha 2 (by decide); have a3 := ha 3 (by decide); have a4 := ha 4 (by decide); have a5 := ha 5 (by decide)
  have b0 := hb 0 (by decide); have b1 := hb 1 (by decide); have b2 := hb 2 (by decide); have b3 := hb 3 (by decide); have b4 := hb 4 (by decide)
  refine ⟨by unfold rgI; rw [s0, s1, s2, s3, s4, a0, a1, a2, a3, a4, a5, b0, b1, b2, b3, b4], fun j hj => ?_⟩
  match j, hj with
  | 0, _ => unfold rgV; rw [s0, s3, s4, a0, a3, b0, b3]; rfl
  | 1, _ => unfold rgV; rw [s1, s3, s4, a1, a3, b1, b3]; rfl
  | 2, _ => unfold rgV; rw [s2, s3, s4, a2, a3, b2, b3]; rfl
  | 3, _ => unfold rgV; rw [s3, s4, a3, b3]; rfl
  | 4, _ => unfold rgV; rw [s3, s4, a4]; rfl
  | 5, _ => unfold rgV; rw [s4, a5]; rfl
def ralV (a : Int → Nat → Int) (i : Int) : Nat → Int
  | 0 => iimin (a i 0) (a i 4)
  | 1 => iimin (a i 1) (a i 4)
  | 2 => iimin (a i 2) (a i 4)
  | 3 => a i 4
  | _ => a i 5
theorem gr_nil {c own : Int} (h0 : 0 ≤ c) (o0 : 0 ≤ own) (hm : 0 < m) : grC c 0 own m = iimin c own := by
  unfold grC
  rw [Int.mul_zero, Int.sub_zero]
  split
  · rename_i h
    have : c ≤ 0 := by
      by_cases q : c ≤ 0
      · exact q
      · have := Int.mul_pos hm (show 0 < c by omega); omega
    unfold iimin; split <;> omega
  · rw [hlf_exact h0 hm]
theorem rr_alone (ha : row16 6 n a) (e : clsV n b m = 1) (ok : rrI m a b i = true) (h0 : 0 ≤ i) (h1 : i < n) : ∀ j : Nat, j < 5 → rrV m a b i j = ralV a i j := by
  obtain ⟨g, gb, hm⟩ := rri_iff.1 ok
  have z := fun c hc => cl_nil e h0 h1 (c := c) hc
  have p := fun c hc => (row_pos ha h0 h1 (j := c) hc)
  have C : ∀ c : Nat, c < 3 → grV true (a i c) (b i c) (a i 4) m = iimin (a i c) (a i 4) := fun c hc => by
    rw [gr_at (p c (by omega)).1 (p 4 (by decide)).1 (p 4 (by decide)).2, z c (by omega), gr_nil (p c (by omega)).1 (p 4 (by decide)).1 (by omega)]
  intro j hj
  match j, hj with
  | 0, _ => exact C 0 (by decide)
  | 1, _ => exact C 1 (by decide)
  | 2, _ => exact C 2 (by decide)
  | 3, _ => rfl
  | 4, _ => rfl
theorem rr_rep (e : clsV n b m = 2) {i' : Int} (h : eqR 6 a i i' = true) (h0 : 0 ≤ i) (h1 : i < n) (h0' : 0 ≤ i') (h1' : i' < n) : rrI m a b i = rrI m a b i' ∧ ∀ j : Nat, j < 5 → rrV m a b i j = rrV m a b i' j := by
  have hb := fun c hc => (cl_same e h0 h1 (c := c) hc).trans (cl_same e h0' h1' (c := c) hc).symm
  have ha := eqR_iff.1 h
  have a0 := ha 0 (by decide); have a1 := ha 1 (by decide); have a2 := ha 2 (by decide); have a3 := ha 3 (by decide); have a4 := ha 4 (by decide); have a5 := ha 5 (by decide)
  have b0 := hb 0 (by decide); have b1 := hb 1 (by decide); have b2 := hb 2 (by decide); have b3 := hb 3 (by decide); have b4 := hb 4 (by decide)
  refine ⟨by unfold rrI; rw [a0, a1, a2, a3, a4, a5, b0, b1, b2, b3, b4], fun j hj => ?_⟩
  match j, hj with
  | 0, _ => unfold rrV; rw [a0, a4, b0]; rfl
  | 1, _ => unfold rrV; rw [a1, a4, b1]; rfl
  | 2, _ => unfold rrV; rw [a2, a4, b2]; rfl
  | 3, _ => unfold rrV; rw [a4]; rfl
  | 4, _ => unfold rrV; rw [a5]; rfl
end
section
variable {m o n nm i : Int} {q : Int → Nat → Int} {k : Int → Int}
end
end Go.Proofs.YtpjhdjakpbabhaaGreatDoor
