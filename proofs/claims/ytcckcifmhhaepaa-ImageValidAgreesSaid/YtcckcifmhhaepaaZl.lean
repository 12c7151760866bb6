import Derived.Test.YtcckcifmhhaepaaZj
import Derived.Test.YtcckcifmhhaepaaZ2
import Derived.Test.YtcckcifmhhaepaaMp
namespace Go.Proofs.Ytcckcifmhhaepaa
open Go.RowKit PR QR
set_option linter.unusedVariables false
set_option linter.unusedSimpArgs false
set_option maxRecDepth 20000
def iR (p : Pl) : Prop := intRow .u16 1 p.n (.fn fun i _ => .v (.int .u16 (p.l i)))
def iQ (k : IntKind) (z : Nat) (n : Int) (q : Int → Nat → Int) : Prop := intRow k z n (.fn fun i j => .v (.int k (q i j)))
def e64 (a b : Int) : Prop := IntKind.i64 = IntKind.i64 ∧ a = b
def e16 (a b : Int) : Prop := IntKind.u16 = IntKind.u16 ∧ a = b
def eP (p q : Pl) : Prop := 1 = 1 ∧ p.n = q.n ∧ True ∧ ∀ i : Nat, ilt (Int.ofNat i) p.n = true → IntKind.u16 = IntKind.u16 ∧ p.l (Int.ofNat i) = q.l (Int.ofNat i)
theorem e64_t (a : Int) : e64 a a = True := eq_true ⟨rfl, rfl⟩
theorem e16_t (a : Int) : e16 a a = True := eq_true ⟨rfl, rfl⟩
theorem eP_t (p : Pl) : eP p p = True := eq_true ⟨rfl, rfl, trivial, fun _ _ => ⟨rfl, rfl⟩⟩
theorem iR_t (p : Pl) : iR p = True := eq_true fun i j _ _ => rfl
theorem iQ_t (k : IntKind) (z : Nat) (n : Int) (q : Int → Nat → Int) : iQ k z n q = True := eq_true fun i j _ _ => rfl
def imR (m : Im) : Prop := imG m ∧ imOk m = true ∧ imL m = true
theorem in64_sm {x : Int} (h : 0 ≤ x) (k : x ≤ 1099511627776) : in64 x = true := in64_iff.2 (by omega)
theorem irow5 (k : IntKind) (z : Nat) (n : Int) (q : Int → Nat → Int) : intRow k z n (.fn fun i j => .v (.int k (q i j))) := fun i j _ _ => rfl
theorem irow0 (k : IntKind) (z : Nat) (r : QR.Row) : intRow k z 0 r := fun i j hi _ => by omega
theorem irow1 (k : IntKind) (z : Nat) (n : Int) (q : Int → Int) : intRow k z n (.fn fun i _ => .v (.int k (q i))) := fun i j _ _ => rfl
theorem plR_in {w h n : Int} {q : Int → Nat → Int} {k : Nat} (ok : imofOk w h n = true) (H : ∀ i : Int, 0 ≤ i → i < n → in16 (q i k) = true) : plG (plLaid w h n q k) ∧ plB w h w n = true ∧ plL (plLaid w h n q k) = true := by
  have o := of_decide_eq_true ok
  have f := fit_iff.1 o.1
  have l := fit_le o.1
  refine ⟨⟨in64_sm (x := w) (by omega) (by omega), in64_sm (x := h) (by omega) (by omega), in64_sm (x := w) (by omega) (by omega), ile_t (show 0 ≤ n by have := Int.mul_nonneg (show 0 ≤ w by omega) (show 0 ≤ h by omega); omega), fun i hi => H i (by omega) hi⟩, pl_iff.2 ⟨o.1, by omega, by omega, ?_⟩, decide_eq_true (show n ≤ 1099511627776 by omega)⟩
  rw [Int.sub_mul, Int.mul_comm h w]; omega
theorem imof_good {w h n : Int} {q : Int → Nat → Int} (ok : imofOk w h n = true) (H : ∀ (i : Int) (k : Nat), 0 ≤ i → i < n → k < 5 → in16 (q i k) = true) : imR (imofV w h n q) := by
  have o := of_decide_eq_true ok
  have f := fit_iff.1 o.1
  have l := fit_le o.1
  have p := fun (k : Nat) (hk : k < 5) => plR_in (k := k) ok (fun i h0 h1 => H i k h0 h1 hk)
  rw [imof_t ok]
  refine ⟨⟨⟨in64_sm (x := w) (by omega) (by omega), in64_sm (x := h) (by omega) (by omega)⟩, ⟨rfl, rfl, rfl, rfl, rfl⟩, (p 0 (by decide)).1, (p 1 (by decide)).1, (p 2 (by decide)).1, (p 3 (by decide)).1, (p 4 (by decide)).1⟩, ok_iff.2 ⟨o.1, ?_⟩, ?_⟩
  · rw [imF_all rfl]
    · rfl
    · intro k hk
      have hk' : k = 0 ∨ k = 1 ∨ k = 2 ∨ k = 3 ∨ k = 4 := by omega
      rcases hk' with rfl | rfl | rfl | rfl | rfl <;> exact plW_iff.2 ⟨(p _ hk).2.1, rfl, rfl⟩
  · unfold imL
    simp only [(p 0 (by decide)).2.2, (p 1 (by decide)).2.2, (p 2 (by decide)).2.2, (p 3 (by decide)).2.2, (p 4 (by decide)).2.2, Bool.and_self]
theorem imof_px {w h n : Int} {q : Int → Nat → Int} (ok : imofOk w h n = true) {k : Nat} (hk : k < 5) (x y : Int) : pxV (imofV w h n q) k x y = q (y * w + x) k := by
  rw [imof_t ok]
  have hk' : k = 0 ∨ k = 1 ∨ k = 2 ∨ k = 3 ∨ k = 4 := by omega
  rcases hk' with rfl | rfl | rfl | rfl | rfl <;> rfl
theorem imof_wh {w h n : Int} {q : Int → Nat → Int} (ok : imofOk w h n = true) : (imofV w h n q).w = w ∧ (imofV w h n q).h = h ∧ (imofV w h n q).sol = false := by rw [imof_t ok]; exact ⟨rfl, rfl, rfl⟩
theorem sol_good {w h c0 c1 c2 a f : Int} (hf : fitB w h = true) (h0 : in16 c0 = true) (h1 : in16 c1 = true) (h2 : in16 c2 = true) (h3 : in16 a = true) (h4 : in16 f = true) : imR (imSol w h c0 c1 c2 a f) := by
  have f' := fit_iff.1 hf
  have l := fit_le hf
  have p : plG plZero := ⟨rfl, rfl, rfl, rfl, fun _ _ => rfl⟩
  exact ⟨⟨⟨in64_sm (x := w) (by omega) (by omega), in64_sm (x := h) (by omega) (by omega)⟩, ⟨h0, h1, h2, h3, h4⟩, p, p, p, p, p⟩, ok_iff.2 ⟨hf, rfl⟩, rfl⟩
theorem gim_good (W H S md n : Int) (q : Int → Nat → Int) {x0 y0 x1 y1 t : Int} (ht : in16 t = true) (hg : gcv x0 y0 x1 y1 = true) :
    imR (gimV W H S md n q x0 y0 x1 y1 t) ∧ (gimV W H S md n q x0 y0 x1 y1 t).w = gimW W x0 x1 ∧ (gimV W H S md n q x0 y0 x1 y1 t).h = gimH W H y0 y1 ∧ imAll (gimV W H S md n q x0 y0 x1 y1 t) t = true := by
  obtain ⟨_, _, _, _, _, _, w1, h1, m1, m2⟩ := gim_size (W := W) (H := H) hg
  have f : fitB (gimW W x0 x1) (gimH W H y0 y1) = true := fit_iff.2 ⟨w1.1, h1.1, by omega⟩
  cases c : (gmod S 2 == 0)
  · have e : gimV W H S md n q x0 y0 x1 y1 t = imofV (gimW W x0 x1) (gimH W H y0 y1) (gimW W x0 x1 * gimH W H y0 y1) (gpxV md n q t) := by unfold gimV; rw [c]; rfl
    have ok : imofOk (gimW W x0 x1) (gimH W H y0 y1) (gimW W x0 x1 * gimH W H y0 y1) = true := decide_eq_true ⟨f, rfl⟩
    rw [e]
    obtain ⟨e1, e2, e3⟩ := imof_wh (q := gpxV md n q t) ok
    refine ⟨imof_good ok fun i k _ _ hk => gpx16 md n q ht i hk, e1, e2, (imAll_iff (by rw [e1, e2]; exact f)).2 fun x y _ _ _ _ => ?_⟩
    unfold pxB
    rw [imof_px ok (by decide), imof_px ok (by decide), imof_px ok (by decide), imof_px ok (by decide), imof_px ok (by decide)]
    exact gpx_valid md n q ht _
  · have e : gimV W H S md n q x0 y0 x1 y1 t = imSol (gimW W x0 x1) (gimH W H y0 y1) (gpxV md n q t 0 0) (gpxV md n q t 0 1) (gpxV md n q t 0 2) (gpxV md n q t 0 3) (gpxV md n q t 0 4) := by unfold gimV; rw [c]; rfl
    rw [e]
    refine ⟨sol_good f (gpx16 md n q ht 0 (by decide)) (gpx16 md n q ht 0 (by decide)) (gpx16 md n q ht 0 (by decide)) (gpx16 md n q ht 0 (by decide)) (gpx16 md n q ht 0 (by decide)), rfl, rfl, ?_⟩
    rw [imAll_sol f rfl]
    exact gpx_valid md n q ht 0
theorem gst_pl {p : Pl} {k : Int} (h : plB p.w p.h p.s p.n = true) (hs : p.w ≤ 1024 ∧ p.h ≤ 1024) (hp : plG p) : plG (gstP p k) ∧ plB p.w p.h (gstS p k) (gstN p k) = true ∧ plL (gstP p k) = true := by
  obtain ⟨w1, h1, s1, n, _, _, g1, g2, g3⟩ := gst_num (k := k) h hp.1
  have f := (pl_iff.1 h).1
  refine ⟨⟨hp.1, hp.2.1, in64_sm (x := gstS p k) (by omega) (by omega), ile_t n.1, fun i hi => ?_⟩, pl_iff.2 ⟨f, s1.1, by omega, ?_⟩, decide_eq_true (show gstN p k ≤ 1099511627776 by omega)⟩
  · have hi : (i : Int) < gstS p k * p.h := hi
    show in16 (if (i : Int) % gstS p k < p.w then p.l ((i : Int) / gstS p k * p.s + (i : Int) % gstS p k) else iconv .u16 (40000 + i)) = true
    split
    · rename_i c
      have sp : 0 < gstS p k := by omega
      have r0 := Int.emod_nonneg (i : Int) (show gstS p k ≠ 0 by omega)
      have d0 := Int.ediv_nonneg (show (0 : Int) ≤ i by omega) (show 0 ≤ gstS p k by omega)
      have d1 : (i : Int) / gstS p k < p.h := Int.ediv_lt_of_lt_mul sp (by rw [Int.mul_comm]; exact hi)
      have m0 := Int.mul_nonneg d0 (show 0 ≤ p.s by omega)
      have m1 : (i : Int) / gstS p k * p.s ≤ (p.h - 1) * p.s := Int.mul_le_mul_of_nonneg_right (by omega) (by omega)
      have := hp.2.2.2.2 ((i : Int) / gstS p k * p.s + (i : Int) % gstS p k).toNat (by omega)
      rw [Int.toNat_of_nonneg (by omega)] at this
      exact this
    · exact in16_conv _
  · show (p.h - 1) * gstS p k + p.w ≤ gstS p k * p.h
    rw [Int.sub_mul, Int.mul_comm p.h]; omega
theorem gst_at {p : Pl} {k x y : Int} (h : plB p.w p.h p.s p.n = true) (hp : plG p) (hx : 0 ≤ x ∧ x < p.w) : (gstP p k).l (patI (gstP p k).s x y) = p.l (patI p.s x y) := by
  obtain ⟨w1, h1, s1, n, _⟩ := gst_num (k := k) h hp.1
  show (if (y * gstS p k + x) % gstS p k < p.w then p.l ((y * gstS p k + x) / gstS p k * p.s + (y * gstS p k + x) % gstS p k) else _) = p.l (y * p.s + x)
  obtain ⟨e1, e2⟩ := divmod_eq (w := gstS p k) (x := x) (y := y) hx.1 (by omega)
  rw [e1, e2, if_pos hx.2]
theorem gst_im (m : Im) (more : Int) (hs : m.sol = false) : gstV m more = ⟨m.w, m.h, false, m.c0, m.c1, m.c2, m.a, m.f, gstP m.p0 (iadd .i64 more 0), gstP m.p1 (iadd .i64 more 1), gstP m.p2 (iadd .i64 more 2), gstP m.p3 (iadd .i64 more 3), gstP m.p4 (iadd .i64 more 4)⟩ := by unfold gstV; rw [hs]; rfl
theorem imPlW {m : Im} (ok : imOk m = true) (hs : m.sol = false) {k : Nat} (hk : k < 5) : plW m (imPl m k) = true := by
  cases e : plW m (imPl m k) with
  | true => rfl
  | false => have := imF_no hs hk e; rw [(ok_iff.1 ok).2] at this; simp at this
theorem imColZ {m : Im} (ok : imOk m = true) (hs : m.sol = false) : colZ m = true := by
  rw [← imF_all hs (fun k hk => imPlW ok hs hk)]; exact (ok_iff.1 ok).2
theorem gst_good {m : Im} (more : Int) (h : imR m) (hw : m.w ≤ 1024) (hh : m.h ≤ 1024) :
    imR (gstV m more) ∧ (gstV m more).w = m.w ∧ (gstV m more).h = m.h ∧ ∀ (k : Nat) (x y : Int), k < 5 → 0 ≤ x → x < m.w → 0 ≤ y → y < m.h → pxV (gstV m more) k x y = pxV m k x y := by
  obtain ⟨g, ok, hl⟩ := h
  cases hs : m.sol
  · have w := fun (k : Nat) (hk : k < 5) => plW_iff.1 (imPlW ok hs hk)
    have pg := fun (k : Nat) => imPlG g k
    have r := fun (k : Nat) (hk : k < 5) (z : Int) => gst_pl (p := imPl m k) (k := z) (w k hk).1 (by have := w k hk; omega) (pg k)
    have o := ok_iff.1 ok
    rw [gst_im m more hs]
    refine ⟨⟨⟨g.1, g.2.1, (r 0 (by decide) _).1, (r 1 (by decide) _).1, (r 2 (by decide) _).1, (r 3 (by decide) _).1, (r 4 (by decide) _).1⟩, ok_iff.2 ⟨o.1, ?_⟩, ?_⟩, rfl, rfl, ?_⟩
    · rw [imF_all rfl]
      · have c : colZ m = true := imColZ ok hs
        exact c
      · intro k hk
        have hk' : k = 0 ∨ k = 1 ∨ k = 2 ∨ k = 3 ∨ k = 4 := by omega
        rcases hk' with rfl | rfl | rfl | rfl | rfl <;> exact plW_iff.2 ⟨(r _ hk _).2.1, (w _ hk).2⟩
    · unfold imL
      have a := (r 0 (by decide) (iadd .i64 more 0)).2.2
      have b := (r 1 (by decide) (iadd .i64 more 1)).2.2
      have c := (r 2 (by decide) (iadd .i64 more 2)).2.2
      have d := (r 3 (by decide) (iadd .i64 more 3)).2.2
      have e := (r 4 (by decide) (iadd .i64 more 4)).2.2
      rw [show plL (gstP m.p0 (iadd .i64 more 0)) = true from a, show plL (gstP m.p1 (iadd .i64 more 1)) = true from b, show plL (gstP m.p2 (iadd .i64 more 2)) = true from c, show plL (gstP m.p3 (iadd .i64 more 3)) = true from d, show plL (gstP m.p4 (iadd .i64 more 4)) = true from e]
      rfl
    · intro k x y hk x0 x1 y0 y1
      unfold pxV
      rw [hs]
      have hk' : k = 0 ∨ k = 1 ∨ k = 2 ∨ k = 3 ∨ k = 4 := by omega
      rcases hk' with rfl | rfl | rfl | rfl | rfl
      · exact gst_at (p := m.p0) (w 0 hk).1 (pg 0) ⟨x0, by have : m.p0.w = m.w := (w 0 hk).2.1; omega⟩
      · exact gst_at (p := m.p1) (w 1 hk).1 (pg 1) ⟨x0, by have : m.p1.w = m.w := (w 1 hk).2.1; omega⟩
      · exact gst_at (p := m.p2) (w 2 hk).1 (pg 2) ⟨x0, by have : m.p2.w = m.w := (w 2 hk).2.1; omega⟩
      · exact gst_at (p := m.p3) (w 3 hk).1 (pg 3) ⟨x0, by have : m.p3.w = m.w := (w 3 hk).2.1; omega⟩
      · exact gst_at (p := m.p4) (w 4 hk).1 (pg 4) ⟨x0, by have : m.p4.w = m.w := (w 4 hk).2.1; omega⟩
  · have e : gstV m more = m := by unfold gstV; rw [hs]; rfl
    rw [e]
    exact ⟨⟨g, ok, hl⟩, rfl, rfl, fun _ _ _ _ _ _ _ _ => rfl⟩
def imPx (m n : Im) : Prop := m.w = n.w ∧ m.h = n.h ∧ ∀ (k : Nat) (x y : Int), k < 5 → 0 ≤ x → x < n.w → 0 ≤ y → y < n.h → pxV m k x y = pxV n k x y
theorem px_all {m n : Im} (h : imPx m n) (f : fitB n.w n.h = true) (t : Int) : imAll m t = imAll n t := by
  have e : ∀ x y : Int, 0 ≤ x → x < n.w → 0 ≤ y → y < n.h → pxB m t x y = pxB n t x y := fun x y h0 h1 h2 h3 => by
    unfold pxB
    rw [h.2.2 0 x y (by decide) h0 h1 h2 h3, h.2.2 1 x y (by decide) h0 h1 h2 h3, h.2.2 2 x y (by decide) h0 h1 h2 h3, h.2.2 3 x y (by decide) h0 h1 h2 h3, h.2.2 4 x y (by decide) h0 h1 h2 h3]
  rw [Bool.eq_iff_iff, imAll_iff (by rw [h.1, h.2.1]; exact f), imAll_iff f, h.1, h.2.1]
  exact ⟨fun H x y h0 h1 h2 h3 => by rw [← e x y h0 h1 h2 h3]; exact H x y h0 h1 h2 h3, fun H x y h0 h1 h2 h3 => by rw [e x y h0 h1 h2 h3]; exact H x y h0 h1 h2 h3⟩
theorem px_N {m n : Im} (h : imPx m n) (ok : imOk m = true) (ok' : imOk n = true) : imN m = imN n := by unfold imN; rw [ok, ok', h.1, h.2.1]
theorem px_I {m n : Im} (h : imPx m n) (ok : imOk n = true) {i : Int} (h0 : 0 ≤ i) (h1 : i < imN n) {k : Nat} (hk : k < 5) : pxI m i k = pxI n i k := by
  obtain ⟨_, a, b⟩ := imIn_iff.1 (ix_in ok h0 h1)
  unfold pxI
  rw [h.1]
  exact h.2.2 k _ _ hk a.1 a.2 b.1 b.2
theorem px_eq {m n : Im} (h : imPx m n) (ok : imOk m = true) (ok' : imOk n = true) : imEq m n = true := by
  unfold imEq
  have e : pxSame (imN m) (imN n) (pxI m) (pxI n) = true := pxSame_iff.2 ⟨px_N h ok ok', fun i k hi hk => px_I h ok' (by omega) (by rw [px_N h ok ok'] at hi; exact hi) hk⟩
  rw [ok, ok', h.1, h.2.1, e]
  simp
theorem ime_good {m : Im} {t : Int} (ok : imOk m = true) (h : imAll m t = true) : imE m t = 0 := by
  have o := ok_iff.1 ok
  unfold imE
  rw [o.1, o.2, h]; rfl
theorem gx16' (n : Int) : in16 (gxMax n) = true := by rcases gxMax_cases n with h | h <;> rw [h] <;> rfl
end Go.Proofs.Ytcckcifmhhaepaa
