import Derived.Test.YtcckcifmhhaepaaZj
import Derived.Test.YtcckcifmhhaepaaZ2
import Derived.Test.YtcckcifmhhaepaaMp
namespace Go.Proofs.Ytcckcifmhhaepaa
open Go.RowKit PR QR
set_option linter.unusedVariables false
set_option linter.unusedSimpArgs false
set_option maxRecDepth 20000
def iR (p : Pl) : Prop := intRow .u16 1 p.n (.fn fun i _ => .v (.int .u16 (p.l i)))
def iQ (k : IntKind) (z : Nat) (n : Int) (q : Int → Nat → Int) : Prop := intRow k z n (.fn fun i j => .v (.int k (q i j)))
theorem iR_t (p : Pl) : iR p = True := eq_true fun i j _ _ => rfl
theorem iQ_t (k : IntKind) (z : Nat) (n : Int) (q : Int → Nat → Int) : iQ k z n q = True := eq_true fun i j _ _ => rfl
def imR (m : Im) : Prop := imG m ∧ imOk m = true ∧ imL m = true
theorem in64_sm {x : Int} (h : 0 ≤ x) (k : x ≤ 1099511627776) : in64 x = true := in64_iff.2 (by omega)
theorem irow5 (k : IntKind) (z : Nat) (n : Int) (q : Int → Nat → Int) : intRow k z n (.fn fun i j => .v (.int k (q i j))) := fun i j _ _ => rfl
theorem irowS (k : IntKind) (z : Nat) (n l : Int) (q : Int → Nat → Int) : intRow k z n (.sub (.fn fun i j => .v (.int k (q i j))) l) := fun i j _ _ => rfl
theorem irow0 (k : IntKind) (z : Nat) (r : QR.Row) : intRow k z 0 r := fun i j hi _ => by omega
theorem irow1 (k : IntKind) (z : Nat) (n : Int) (q : Int → Int) : intRow k z n (.fn fun i _ => .v (.int k (q i))) := fun i j _ _ => rfl
theorem plR_in {w h n : Int} {q : Int → Nat → Int} {k : Nat} (ok : imofOk w h n = true) (H : ∀ i : Int, 0 ≤ i → i < n → in16 (q i k) = true) : plG (plLaid w h n q k) ∧ plB w h w n = true ∧ plL (plLaid w h n q k) = true := by
  have o := of_decide_eq_true ok
  have f := fit_iff.1 o.1
  have l := fit_le o.1
  refine ⟨⟨in64_sm (x := w) (by omega) (by omega), in64_sm (x := h) (by omega) (by omega), in64_sm (x := w) (by omega) (by omega), ile_t (show 0 ≤ n by have := Int.mul_nonneg (show 0 ≤ w by omega) (show 0 ≤ h by omega); omega), fun i hi => H i (by omega) hi⟩, pl_iff.2 ⟨o.1, by omega, by omega, ?_⟩, decide_eq_true (show n ≤ 1099511627776 by omega)⟩
  rw [Int.sub_mul, Int.mul_comm h w]; omega
theorem imof_good {w h n : Int} {q : Int → Nat → Int} (ok : imofOk w h n = true) (H : ∀ (i : Int) (k : Nat), 0 ≤ i → i < n → k < 5 → in16 (q i k) = true) : imR (imofV w h n q) := by
  have o := of_decide_eq_true ok
  have f := fit_iff.1 o.1
  have l := fit_le o.1
  have p := fun (k : Nat) (hk : k < 5) => plR_in (k := k) ok (fun i h0 h1 => H i k h0 h1 hk)
  rw [imof_t ok]
  refine ⟨⟨⟨in64_sm (x := w) (by omega) (by omega), in64_sm (x := h) (by omega) (by omega)⟩, ⟨rfl, rfl, rfl, rfl, rfl⟩, (p 0 (by decide)).1, (p 1 (by decide)).1, (p 2 (by decide)).1, (p 3 (by decide)).1, (p 4 (by decide)).1⟩, ok_iff.2 ⟨o.1, ?_⟩, ?_⟩
  · rw [imF_all rfl]
    · rfl
    · intro k hk
      have hk' : k = 0 ∨ k = 1 ∨ k = 2 ∨ k = 3 ∨ k = 4 := by omega
      rcases hk' with rfl | rfl | rfl | rfl | rfl <;> exact plW_iff.2 ⟨(p _ hk).2.1, rfl, rfl⟩
  · unfold imL
    simp only [(p 0 (by decide)).2.2, (p 1 (by decide)).2.2, (p 2 (by decide)).2.2, (p 3 (by decide)).2.2, (p 4 (by decide)).2.2, Bool.and_self]
theorem zim_good : imG imZero ∧ imL imZero = true := by
  have p : plG plZero := ⟨rfl, rfl, rfl, rfl, fun _ _ => rfl⟩
  exact ⟨⟨⟨rfl, rfl⟩, ⟨rfl, rfl, rfl, rfl, rfl⟩, p, p, p, p, p⟩, rfl⟩
theorem imof_any {w h n : Int} {q : Int → Nat → Int} (H : imofOk w h n = true → ∀ (i : Int) (k : Nat), 0 ≤ i → i < n → k < 5 → in16 (q i k) = true) : imG (imofV w h n q) ∧ imL (imofV w h n q) = true := by
  cases ok : imofOk w h n
  · rw [imof_f ok]; exact zim_good
  · exact ⟨(imof_good ok (H ok)).1, (imof_good ok (H ok)).2.2⟩
theorem imof_px {w h n : Int} {q : Int → Nat → Int} (ok : imofOk w h n = true) {k : Nat} (hk : k < 5) (x y : Int) : pxV (imofV w h n q) k x y = q (y * w + x) k := by
  rw [imof_t ok]
  have hk' : k = 0 ∨ k = 1 ∨ k = 2 ∨ k = 3 ∨ k = 4 := by omega
  rcases hk' with rfl | rfl | rfl | rfl | rfl <;> rfl
theorem imof_wh {w h n : Int} {q : Int → Nat → Int} (ok : imofOk w h n = true) : (imofV w h n q).w = w ∧ (imofV w h n q).h = h ∧ (imofV w h n q).sol = false := by rw [imof_t ok]; exact ⟨rfl, rfl, rfl⟩
theorem sol_good {w h c0 c1 c2 a f : Int} (hf : fitB w h = true) (h0 : in16 c0 = true) (h1 : in16 c1 = true) (h2 : in16 c2 = true) (h3 : in16 a = true) (h4 : in16 f = true) : imR (imSol w h c0 c1 c2 a f) := by
  have f' := fit_iff.1 hf
  have l := fit_le hf
  have p : plG plZero := ⟨rfl, rfl, rfl, rfl, fun _ _ => rfl⟩
  exact ⟨⟨⟨in64_sm (x := w) (by omega) (by omega), in64_sm (x := h) (by omega) (by omega)⟩, ⟨h0, h1, h2, h3, h4⟩, p, p, p, p, p⟩, ok_iff.2 ⟨hf, rfl⟩, rfl⟩
theorem gim_good (W H S md n : Int) (q : Int → Nat → Int) {x0 y0 x1 y1 t : Int} (ht : in16 t = true) (hg : gcv x0 y0 x1 y1 = true) :
    imR (gimV W H S md n q x0 y0 x1 y1 t) ∧ (gimV W H S md n q x0 y0 x1 y1 t).w = gimW W x0 x1 ∧ (gimV W H S md n q x0 y0 x1 y1 t).h = gimH W H y0 y1 ∧ imAll (gimV W H S md n q x0 y0 x1 y1 t) t = true := by
  obtain ⟨_, _, _, _, _, _, w1, h1, m1, m2⟩ := gim_size (W := W) (H := H) hg
  have f : fitB (gimW W x0 x1) (gimH W H y0 y1) = true := fit_iff.2 ⟨w1.1, h1.1, by omega⟩
  cases c : (gmod S 2 == 0)
  · have e : gimV W H S md n q x0 y0 x1 y1 t = imofV (gimW W x0 x1) (gimH W H y0 y1) (gimW W x0 x1 * gimH W H y0 y1) (gpxV md n q t) := by unfold gimV; rw [c]; rfl
    have ok : imofOk (gimW W x0 x1) (gimH W H y0 y1) (gimW W x0 x1 * gimH W H y0 y1) = true := decide_eq_true ⟨f, rfl⟩
    rw [e]
    obtain ⟨e1, e2, e3⟩ := imof_wh (q := gpxV md n q t) ok
    refine ⟨imof_good ok fun i k _ _ hk => gpx16 md n q ht i hk, e1, e2, (imAll_iff (by rw [e1, e2]; exact f)).2 fun x y _ _ _ _ => ?_⟩
    unfold pxB
    rw [imof_px ok (by decide), imof_px ok (by decide), imof_px ok (by decide), imof_px ok (by decide), imof_px ok (by decide)]
    exact gpx_valid md n q ht _
  · have e : gimV W H S md n q x0 y0 x1 y1 t = imSol (gimW W x0 x1) (gimH W H y0 y1) (gpxV md n q t 0 0) (gpxV md n q t 0 1) (gpxV md n q t 0 2) (gpxV md n q t 0 3) (gpxV md n q t 0 4) := by unfold gimV; rw [c]; rfl
    rw [e]
    refine ⟨sol_good f (gpx16 md n q ht 0 (by decide)) (gpx16 md n q ht 0 (by decide)) (gpx16 md n q ht 0 (by decide)) (gpx16 md n q ht 0 (by decide)) (gpx16 md n q ht 0 (by decide)), rfl, rfl, ?_⟩
    rw [imAll_sol f rfl]
    exact gpx_valid md n q ht 0
theorem gst_pl {p : Pl} {k : Int} (h : plB p.w p.h p.s p.n = true) (hs : p.w ≤ 1024 ∧ p.h ≤ 1024) (hp : plG p) : plG (gstP p k) ∧ plB p.w p.h (gstS p k) (gstN p k) = true ∧ plL (gstP p k) = true := by
  obtain ⟨w1, h1, s1, n, _, _, g1, g2, g3⟩ := gst_num (k := k) h hp.1
  have f := (pl_iff.1 h).1
  refine ⟨⟨hp.1, hp.2.1, in64_sm (x := gstS p k) (by omega) (by omega), ile_t n.1, fun i hi => ?_⟩, pl_iff.2 ⟨f, s1.1, by omega, ?_⟩, decide_eq_true (show gstN p k ≤ 1099511627776 by omega)⟩
  · have hi : (i : Int) < gstS p k * p.h := hi
    show in16 (if (i : Int) % gstS p k < p.w then p.l ((i : Int) / gstS p k * p.s + (i : Int) % gstS p k) else iconv .u16 (40000 + i)) = true
    split
    · rename_i c
      have sp : 0 < gstS p k := by omega
      have r0 := Int.emod_nonneg (i : Int) (show gstS p k ≠ 0 by omega)
      have d0 := Int.ediv_nonneg (show (0 : Int) ≤ i by omega) (show 0 ≤ gstS p k by omega)
      have d1 : (i : Int) / gstS p k < p.h := Int.ediv_lt_of_lt_mul sp (by rw [Int.mul_comm]; exact hi)
      have m0 := Int.mul_nonneg d0 (show 0 ≤ p.s by omega)
      have m1 : (i : Int) / gstS p k * p.s ≤ (p.h - 1) * p.s := Int.mul_le_mul_of_nonneg_right (by omega) (by omega)
      have := hp.2.2.2.2 ((i : Int) / gstS p k * p.s + (i : Int) % gstS p k).toNat (by omega)
      rw [Int.toNat_of_nonneg (by omega)] at this
      exact this
    · exact in16_conv _
  · show (p.h - 1) * gstS p k + p.w ≤ gstS p k * p.h
    rw [Int.sub_mul, Int.mul_comm p.h]; omega
theorem gst_at {p : Pl} {k x y : Int} (h : plB p.w p.h p.s p.n = true) (hp : plG p) (hx : 0 ≤ x ∧ x < p.w) : (gstP p k).l (patI (gstP p k).s x y) = p.l (patI p.s x y) := by
  obtain ⟨w1, h1, s1, n, _⟩ := gst_num (k := k) h hp.1
  show (if (y * gstS p k + x) % gstS p k < p.w then p.l ((y * gstS p k + x) / gstS p k * p.s + (y * gstS p k + x) % gstS p k) else _) = p.l (y * p.s + x)
  obtain ⟨e1, e2⟩ := divmod_eq (w := gstS p k) (x := x) (y := y) hx.1 (by omega)
  rw [e1, e2, if_pos hx.2]
theorem gst_im (m : Im) (more : Int) (hs : m.sol = false) : gstV m more = ⟨m.w, m.h, false, m.c0, m.c1, m.c2, m.a, m.f, gstP m.p0 (iadd .i64 more 0), gstP m.p1 (iadd .i64 more 1), gstP m.p2 (iadd .i64 more 2), gstP m.p3 (iadd .i64 more 3), gstP m.p4 (iadd .i64 more 4)⟩ := by unfold gstV; rw [hs]; rfl
theorem imPlW {m : Im} (ok : imOk m = true) (hs : m.sol = false) {k : Nat} (hk : k < 5) : plW m (imPl m k) = true := by
  cases e : plW m (imPl m k) with
  | true => rfl
  | false => have := imF_no hs hk e; rw [(ok_iff.1 ok).2] at this; simp at this
theorem imColZ {m : Im} (ok : imOk m = true) (hs : m.sol = false) : colZ m = true := by
  rw [← imF_all hs (fun k hk => imPlW ok hs hk)]; exact (ok_iff.1 ok).2
theorem gst_good {m : Im} (more : Int) (h : imR m) (hw : m.w ≤ 1024) (hh : m.h ≤ 1024) :
    imR (gstV m more) ∧ (gstV m more).w = m.w ∧ (gstV m more).h = m.h ∧ ∀ (k : Nat) (x y : Int), k < 5 → 0 ≤ x → x < m.w → 0 ≤ y → y < m.h → pxV (gstV m more) k x y = pxV m k x y := by
  obtain ⟨g, ok, hl⟩ := h
  cases hs : m.sol
  · have w := fun (k : Nat) (hk : k < 5) => plW_iff.1 (imPlW ok hs hk)
    have pg := fun (k : Nat) => imPlG g k
    have r := fun (k : Nat) (hk : k < 5) (z : Int) => gst_pl (p := imPl m k) (k := z) (w k hk).1 (by have := w k hk; omega) (pg k)
    have o := ok_iff.1 ok
    rw [gst_im m more hs]
    refine ⟨⟨⟨g.1, g.2.1, (r 0 (by decide) _).1, (r 1 (by decide) _).1, (r 2 (by decide) _).1, (r 3 (by decide) _).1, (r 4 (by decide) _).1⟩, ok_iff.2 ⟨o.1, ?_⟩, ?_⟩, rfl, rfl, ?_⟩
    · rw [imF_all rfl]
      · have c : colZ m = true := imColZ ok hs
        exact c
      · intro k hk
        have hk' : k = 0 ∨ k = 1 ∨ k = 2 ∨ k = 3 ∨ k = 4 := by omega
        rcases hk' with rfl | rfl | rfl | rfl | rfl <;> exact plW_iff.2 ⟨(r _ hk _).2.1, (w _ hk).2⟩
    · unfold imL
      have a := (r 0 (by decide) (iadd .i64 more 0)).2.2
      have b := (r 1 (by decide) (iadd .i64 more 1)).2.2
      have c := (r 2 (by decide) (iadd .i64 more 2)).2.2
      have d := (r 3 (by decide) (iadd .i64 more 3)).2.2
      have e := (r 4 (by decide) (iadd .i64 more 4)).2.2
      rw [show plL (gstP m.p0 (iadd .i64 more 0)) = true from a, show plL (gstP m.p1 (iadd .i64 more 1)) = true from b, show plL (gstP m.p2 (iadd .i64 more 2)) = true from c, show plL (gstP m.p3 (iadd .i64 more 3)) = true from d, show plL (gstP m.p4 (iadd .i64 more 4)) = true from e]
      rfl
    · intro k x y hk x0 x1 y0 y1
      unfold pxV
      rw [hs]
      have hk' : k = 0 ∨ k = 1 ∨ k = 2 ∨ k = 3 ∨ k = 4 := by omega
      rcases hk' with rfl | rfl | rfl | rfl | rfl
      · exact gst_at (p := m.p0) (w 0 hk).1 (pg 0) ⟨x0, by have : m.p0.w = m.w := (w 0 hk).2.1; omega⟩
      · exact gst_at (p := m.p1) (w 1 hk).1 (pg 1) ⟨x0, by have : m.p1.w = m.w := (w 1 hk).2.1; omega⟩
      · exact gst_at (p := m.p2) (w 2 hk).1 (pg 2) ⟨x0, by have : m.p2.w = m.w := (w 2 hk).2.1; omega⟩
      · exact gst_at (p := m.p3) (w 3 hk).1 (pg 3) ⟨x0, by have : m.p3.w = m.w := (w 3 hk).2.1; omega⟩
      · exact gst_at (p := m.p4) (w 4 hk).1 (pg 4) ⟨x0, by have : m.p4.w = m.w := (w 4 hk).2.1; omega⟩
  · have e : gstV m more = m := by unfold gstV; rw [hs]; rfl
    rw [e]
    exact ⟨⟨g, ok, hl⟩, rfl, rfl, fun _ _ _ _ _ _ _ _ => rfl⟩
def imPx (m n : Im) : Prop := m.w = n.w ∧ m.h = n.h ∧ ∀ (k : Nat) (x y : Int), k < 5 → 0 ≤ x → x < n.w → 0 ≤ y → y < n.h → pxV m k x y = pxV n k x y
theorem px_all {m n : Im} (h : imPx m n) (f : fitB n.w n.h = true) (t : Int) : imAll m t = imAll n t := by
  have e : ∀ x y : Int, 0 ≤ x → x < n.w → 0 ≤ y → y < n.h → pxB m t x y = pxB n t x y := fun x y h0 h1 h2 h3 => by
    unfold pxB
    rw [h.2.2 0 x y (by decide) h0 h1 h2 h3, h.2.2 1 x y (by decide) h0 h1 h2 h3, h.2.2 2 x y (by decide) h0 h1 h2 h3, h.2.2 3 x y (by decide) h0 h1 h2 h3, h.2.2 4 x y (by decide) h0 h1 h2 h3]
  rw [Bool.eq_iff_iff, imAll_iff (by rw [h.1, h.2.1]; exact f), imAll_iff f, h.1, h.2.1]
  exact ⟨fun H x y h0 h1 h2 h3 => by rw [← e x y h0 h1 h2 h3]; exact H x y h0 h1 h2 h3, fun H x y h0 h1 h2 h3 => by rw [e x y h0 h1 h2 h3]; exact H x y h0 h1 h2 h3⟩
theorem px_A {m n : Im} (h : imPx m n) (ok : imOk m = true) (ok' : imOk n = true) {k : Nat} (hk : k < 5) (x y : Int) : pxA m k x y = pxA n k x y := by
  have e : imIn m x y = imIn n x y := by rw [Bool.eq_iff_iff, imIn_iff, imIn_iff, ok, ok', h.1, h.2.1]
  unfold pxA
  rw [e]
  cases c : imIn n x y
  · rfl
  · obtain ⟨_, a, b⟩ := imIn_iff.1 c
    rw [cond_true, cond_true, h.2.2 k x y hk a.1 a.2 b.1 b.2]
theorem px_N {m n : Im} (h : imPx m n) (ok : imOk m = true) (ok' : imOk n = true) : imN m = imN n := by unfold imN; rw [ok, ok', h.1, h.2.1]
theorem px_I {m n : Im} (h : imPx m n) (ok : imOk n = true) {i : Int} (h0 : 0 ≤ i) (h1 : i < imN n) {k : Nat} (hk : k < 5) : pxI m i k = pxI n i k := by
  obtain ⟨_, a, b⟩ := imIn_iff.1 (ix_in ok h0 h1)
  unfold pxI
  rw [h.1]
  exact h.2.2 k _ _ hk a.1 a.2 b.1 b.2
theorem px_eq {m n : Im} (h : imPx m n) (ok : imOk m = true) (ok' : imOk n = true) : imEq m n = true := by
  unfold imEq
  have e : pxSame (imN m) (imN n) (pxI m) (pxI n) = true := pxSame_iff.2 ⟨px_N h ok ok', fun i k hi hk => px_I h ok' (by omega) (by rw [px_N h ok ok'] at hi; exact hi) hk⟩
  rw [ok, ok', h.1, h.2.1, e]
  simp
theorem ime_good {m : Im} {t : Int} (ok : imOk m = true) (h : imAll m t = true) : imE m t = 0 := by
  have o := ok_iff.1 ok
  unfold imE
  rw [o.1, o.2, h]; rfl
theorem ims_refl (m : Im) : imSame m m = true := by
  have p : ∀ p : Pl, plSame p p = true := fun p => spB_rfl _ _ _ _ _
  unfold imSame
  rw [p, p, p, p, p]
  simp
theorem cv_good {m : Im} {s t : Int} (g : imG m) (h : imCvE m s t = 0) : imR (imCv m s t) ∧ (imCv m s t).w = m.w ∧ (imCv m s t).h = m.h ∧ ∀ (k : Nat) (x y : Int), k < 5 → 0 ≤ x → x < m.w → 0 ≤ y → y < m.h → pxV (imCv m s t) k x y = cvV s t (pxV m k x y) := by
  have c : (smOk s && smOk t) = true := by
    cases e : (smOk s && smOk t) with
    | true => rfl
    | false => unfold imCvE at h; rw [e] at h; simp at h
  have he : imE m (smV s) = 0 := by unfold imCvE at h; rw [c] at h; exact h
  obtain ⟨ok, al⟩ := ime_ok he
  have f := (ok_iff.1 ok).1
  have cv16 : ∀ x, in16 x = true → in16 (cvV s t x) = true := fun x hx => by
    have := in16_iff.1 hx
    unfold cvV
    split
    · exact in16_iff.2 (by unfold t16; split <;> omega)
    split
    · exact in16_iff.2 (by unfold t8; omega)
    · exact hx
  have e : imCv m s t = bif m.sol then imSol m.w m.h (cvV s t m.c0) (cvV s t m.c1) (cvV s t m.c2) (cvV s t m.a) (cvV s t m.f) else imofV m.w m.h (imN m) fun i k => cvV s t (pxI m i k) := by
    unfold imCv; rw [h]; rfl
  rw [e]
  cases hs : m.sol
  · rw [cond_false]
    have n : imN m = m.w * m.h := by unfold imN; rw [ok]; rfl
    have io : imofOk m.w m.h (imN m) = true := decide_eq_true ⟨f, n⟩
    obtain ⟨e1, e2, _⟩ := imof_wh (q := fun i k => cvV s t (pxI m i k)) io
    refine ⟨imof_good io fun i k h0 h1 hk => cv16 _ (pxI16 g ok h0 h1 hk), e1, e2, fun k x y hk x0 x1 y0 y1 => ?_⟩
    rw [imof_px io hk]
    show cvV s t (pxI m (rpN m y x) k) = _
    rw [pxI_at x0 x1]
  · rw [cond_true]
    have cc := imCol16 g
    refine ⟨sol_good f (cv16 _ (cc 0)) (cv16 _ (cc 1)) (cv16 _ (cc 2)) (cv16 _ (cc 3)) (cv16 _ (cc 4)), rfl, rfl, fun k x y hk x0 x1 y0 y1 => ?_⟩
    have hk' : k = 0 ∨ k = 1 ∨ k = 2 ∨ k = 3 ∨ k = 4 := by omega
    unfold pxV
    rw [hs]
    rcases hk' with rfl | rfl | rfl | rfl | rfl <;> rfl
theorem cv_no {m : Im} {s t : Int} (h : imCvE m s t ≠ 0) : imCv m s t = imZero := by
  unfold imCv
  rw [show (imCvE m s t == 0) = false from by simpa using h]; rfl
theorem cv_any {m : Im} {s t : Int} (g : imG m) : imG (imCv m s t) ∧ imL (imCv m s t) = true := by
  by_cases h : imCvE m s t = 0
  · exact ⟨(cv_good g h).1.1, (cv_good g h).1.2.2⟩
  · rw [cv_no h]; exact zim_good
theorem cv_err {m : Im} {s t : Int} (hs : smOk s = true) (ht : smOk t = true) (ok : imOk m = true) (al : imAll m (smV s) = true) : imCvE m s t = 0 := by
  unfold imCvE
  rw [hs, ht]
  exact ime_good ok al
theorem rp_split {m : Im} {a b c d n : Int} (h : imRpE m a b c d n = 0) : imOk m = true ∧ reB a b c d = false ∧ rcovB 0 0 m.w m.h a b c d = true ∧ n = raV a b c d := by
  unfold imRpE at h
  cases f : fitB m.w m.h
  · rw [f] at h; simp at h
  cases g : imF m
  · rw [f, g] at h; simp at h
  rw [f, g, cond_true, cond_true] at h
  cases e : (!(reB a b c d) && (rcovB 0 0 m.w m.h a b c d && decide (n = raV a b c d)))
  · rw [e] at h; simp at h
  · simp only [Bool.and_eq_true, Bool.not_eq_true', decide_eq_true_eq] at e
    exact ⟨ok_iff.2 ⟨f, g⟩, e⟩
theorem rp_make {m : Im} {a b c d n : Int} (ok : imOk m = true) (h1 : reB a b c d = false) (h2 : rcovB 0 0 m.w m.h a b c d = true) (h3 : n = raV a b c d) : imRpE m a b c d n = 0 := by
  have o := ok_iff.1 ok
  unfold imRpE
  rw [o.1, o.2, h1, h2, decide_eq_true h3]; rfl
theorem rp_arg {m : Im} {a b c d n : Int} (ok : imOk m = true) (h : n ≠ raV a b c d) : imRpE m a b c d n = 20 := by
  have o := ok_iff.1 ok
  unfold imRpE
  rw [o.1, o.2, decide_eq_false h]; simp
theorem rp_plane {m : Im} {a b c d n : Int} (f : fitB m.w m.h = true) (h : imF m = false) : imRpE m a b c d n = 7 := by
  unfold imRpE
  rw [f, h]; rfl
theorem rp_eq {m : Im} {a b c d n : Int} {q : Int → Nat → Int} (h : imRpE m a b c d n = 0) : imRp m a b c d n q = imofV m.w m.h (imN m) (imRpV m a b c d q) := by unfold imRp; rw [h]; rfl
theorem rp_no {m : Im} {a b c d n : Int} {q : Int → Nat → Int} (h : imRpE m a b c d n ≠ 0) : imRp m a b c d n q = imZero := by
  unfold imRp
  rw [show (imRpE m a b c d n == 0) = false from by simpa using h]; rfl
theorem rp_io {m : Im} (ok : imOk m = true) : imofOk m.w m.h (imN m) = true := decide_eq_true ⟨(ok_iff.1 ok).1, by unfold imN; rw [ok]; rfl⟩
theorem rp_16 {m : Im} {a b c d n : Int} {q : Int → Nat → Int} (g : imG m) (h : imRpE m a b c d n = 0) (H : ∀ (i : Int) (k : Nat), 0 ≤ i → i < n → k < 5 → in16 (q i k) = true) (i : Int) (k : Nat) (h0 : 0 ≤ i) (h1 : i < imN m) (hk : k < 5) : in16 (imRpV m a b c d q i k) = true := by
  obtain ⟨ok, e, cv, en⟩ := rp_split h
  have e' := re_f.1 e
  unfold imRpV
  split
  · rename_i r
    have m0 := Int.mul_nonneg (show 0 ≤ i / m.w - b by omega) (show 0 ≤ c - a by omega)
    have m1 := Int.mul_le_mul_of_nonneg_right (show i / m.w - b ≤ d - b - 1 by omega) (show 0 ≤ c - a by omega)
    have m2 : (d - b - 1) * (c - a) = (c - a) * (d - b) - (c - a) := by rw [Int.sub_mul, Int.one_mul, Int.mul_comm]
    rw [re_area e] at en
    exact H _ k (by omega) (by omega) hk
  · exact pxI16 g ok h0 h1 hk
theorem rp_good {m : Im} {a b c d n : Int} {q : Int → Nat → Int} (g : imG m) (h : imRpE m a b c d n = 0) (H : ∀ (i : Int) (k : Nat), 0 ≤ i → i < n → k < 5 → in16 (q i k) = true) : imR (imRp m a b c d n q) := by
  obtain ⟨ok, e, cv, en⟩ := rp_split h
  rw [rp_eq h]
  exact imof_good (rp_io ok) (rp_16 g h H)
theorem rp_any {m : Im} {a b c d n : Int} {q : Int → Nat → Int} (g : imG m) (H : ∀ (i : Int) (k : Nat), 0 ≤ i → i < n → k < 5 → in16 (q i k) = true) : imG (imRp m a b c d n q) ∧ imL (imRp m a b c d n q) = true := by
  by_cases h : imRpE m a b c d n = 0
  · exact ⟨(rp_good g h H).1, (rp_good g h H).2.2⟩
  · rw [rp_no h]; exact zim_good
theorem rp_px {m : Im} {a b c d n : Int} {q : Int → Nat → Int} (g : imG m) (h : imRpE m a b c d n = 0) (H : ∀ (i : Int) (k : Nat), 0 ≤ i → i < n → k < 5 → in16 (q i k) = true) {x y : Int} (hx : 0 ≤ x ∧ x < m.w) (hy : 0 ≤ y ∧ y < m.h) (out : rcB a b c d x y = false) {k : Nat} (hk : k < 5) : pxA (imRp m a b c d n q) k x y = pxA m k x y := by
  obtain ⟨ok, e, cv, en⟩ := rp_split h
  have r := rp_good g h H
  rw [rp_eq h] at r ⊢
  obtain ⟨e1, e2, e3⟩ := imof_wh (q := imRpV m a b c d q) (rp_io ok)
  have i1 : imIn (imofV m.w m.h (imN m) (imRpV m a b c d q)) x y = true := imIn_iff.2 ⟨r.2.1, by rw [e1]; exact hx, by rw [e2]; exact hy⟩
  have i2 : imIn m x y = true := imIn_iff.2 ⟨ok, hx, hy⟩
  unfold pxA
  rw [i1, i2, cond_true, cond_true, imof_px (rp_io ok) hk]
  obtain ⟨u1, u2⟩ := divmod_eq (w := m.w) (x := x) (y := y) hx.1 hx.2
  unfold imRpV
  rw [u1, u2, if_neg]
  · show pxI m (rpN m y x) k = _
    exact pxI_at hx.1 hx.2 k
  · intro z
    have : rcB a b c d x y = true := by unfold rcB; exact decide_eq_true ⟨e, by omega⟩
    rw [this] at out; simp at out
theorem cov_of {w h a b c d : Int} (f : reB 0 0 w h = false) (e : reB a b c d = false) (h1 : 0 ≤ a ∧ c ≤ w) (h2 : 0 ≤ b ∧ d ≤ h) : rcovB 0 0 w h a b c d = true := by
  rw [cov_iff e, f]
  unfold bnot ile
  simp only [Bool.not_false, Bool.true_and, Bool.and_eq_true, decide_eq_true_eq]
  omega
theorem re_wh {w h : Int} (f : fitB w h = true) : reB 0 0 w h = false := by
  have f' := fit_iff.1 f
  have l := fit_le f
  exact re_f.2 (by unfold F30; omega)
theorem pxs16 {md n t : Int} {q : Int → Nat → Int} (ht : in16 t = true) (k : Int) : ∀ (i : Int) (j : Nat), 0 ≤ i → i < k → j < 5 → in16 (gpxV md n q t i j) = true := fun i j _ _ hj => gpx16 md n q ht i hj
theorem gx16' (n : Int) : in16 (gxMax n) = true := by rcases gxMax_cases n with h | h <;> rw [h] <;> rfl
theorem imPlZ {m : Im} (ok : imOk m = true) (hs : m.sol = true) {k : Nat} (hk : k < 5) : plZ (imPl m k) = true := by
  cases e : plZ (imPl m k) with
  | true => rfl
  | false => have := imF_noS hs hk e; rw [(ok_iff.1 ok).2] at this; simp at this
theorem st_in {m : Im} (ok : imOk m = true) {k : Nat} (hk : k < 5) : 0 ≤ (imPl m k).s ∧ (imPl m k).s ≤ 16777216 := by
  cases hs : m.sol
  · have p := plW_iff.1 (imPlW ok hs hk)
    obtain ⟨f, h1, h2, h3⟩ := pl_iff.1 p.1
    have := fit_iff.1 f
    omega
  · have := plZ_iff.1 (imPlZ ok hs hk)
    omega
theorem st_one {m : Im} (ok : imOk m = true) {k : Nat} (hk : k < 5) : iadd .i64 (imPl m k).s 1 ≠ 0 := by
  have := st_in ok hk
  rw [add_in (by omega)]; omega
theorem bad_plane {b : Im} {p q r s n : Int} (f : fitB b.w b.h = true) (hs : b.sol = true) {k : Nat} (hk : k < 5) (h : (imPl b k).s ≠ 0) : imRpE b p q r s n = 7 :=
  rp_plane f (imF_noS hs hk (by cases e : plZ (imPl b k) with | false => rfl | true => exact absurd (plZ_iff.1 e).2.2.1 h))
theorem part_in {w h : Int} (h1 : 1 ≤ w ∧ w ≤ 1024) (h2 : 1 ≤ h ∧ h ≤ 1024) (f : reB 0 0 w h = false) (n0 n1 n2 n3 : Int) :
    reB (gpV 0 0 0 w h n0 n1 n2 n3) (gpV 1 0 0 w h n0 n1 n2 n3) (gpV 2 0 0 w h n0 n1 n2 n3) (gpV 3 0 0 w h n0 n1 n2 n3) = false ∧ rcovB 0 0 w h (gpV 0 0 0 w h n0 n1 n2 n3) (gpV 1 0 0 w h n0 n1 n2 n3) (gpV 2 0 0 w h n0 n1 n2 n3) (gpV 3 0 0 w h n0 n1 n2 n3) = true ∧
    0 ≤ raV (gpV 0 0 0 w h n0 n1 n2 n3) (gpV 1 0 0 w h n0 n1 n2 n3) (gpV 2 0 0 w h n0 n1 n2 n3) (gpV 3 0 0 w h n0 n1 n2 n3) ∧ raV (gpV 0 0 0 w h n0 n1 n2 n3) (gpV 1 0 0 w h n0 n1 n2 n3) (gpV 2 0 0 w h n0 n1 n2 n3) (gpV 3 0 0 w h n0 n1 n2 n3) ≤ 1048576 := by
  obtain ⟨e, g1, g2⟩ := gp_f f n0 n1 n2 n3
  have e' := re_f.1 e
  refine ⟨e, cov_of f e (by omega) (by omega), ?_⟩
  rw [re_area e]
  have m0 := Int.mul_nonneg (show 0 ≤ gpV 2 0 0 w h n0 n1 n2 n3 - gpV 0 0 0 w h n0 n1 n2 n3 by omega) (show 0 ≤ gpV 3 0 0 w h n0 n1 n2 n3 - gpV 1 0 0 w h n0 n1 n2 n3 by omega)
  have m1 := Int.mul_le_mul (show gpV 2 0 0 w h n0 n1 n2 n3 - gpV 0 0 0 w h n0 n1 n2 n3 ≤ 1024 by omega) (show gpV 3 0 0 w h n0 n1 n2 n3 - gpV 1 0 0 w h n0 n1 n2 n3 ≤ 1024 by omega) (by omega) (by decide)
  omega
end Go.Proofs.Ytcckcifmhhaepaa
