import Derived.Test.YtcckcifmhhaepaaZ0
import Derived.Test.YtcckcifmhhaepaaNa
import Derived.Test.YtcckcifmhhaepaaMa
namespace Go.Proofs.Ytcckcifmhhaepaa
open Go.RowKit PR QR
set_option linter.unusedVariables false
set_option linter.unusedSimpArgs false
structure Pl where
  w : Int
  h : Int
  s : Int
  n : Int
  l : Int → Int
structure Im where
  w : Int
  h : Int
  sol : Bool
  c0 : Int
  c1 : Int
  c2 : Int
  a : Int
  f : Int
  p0 : Pl
  p1 : Pl
  p2 : Pl
  p3 : Pl
  p4 : Pl
def imC (m : Im) : List CV := [.v (.int .i64 m.w), .v (.int .i64 m.h), .v (.bool m.sol), .v (.int .u16 m.c0), .v (.int .u16 m.c1), .v (.int .u16 m.c2), .v (.int .u16 m.a), .v (.int .u16 m.f),
  .v (.int .i64 m.p0.w), .v (.int .i64 m.p0.h), .v (.int .i64 m.p0.s), .slc 1 m.p0.n (.fn fun i _ => .v (.int .u16 (m.p0.l i))), .v (.int .i64 m.p1.w), .v (.int .i64 m.p1.h), .v (.int .i64 m.p1.s), .slc 1 m.p1.n (.fn fun i _ => .v (.int .u16 (m.p1.l i))),
  .v (.int .i64 m.p2.w), .v (.int .i64 m.p2.h), .v (.int .i64 m.p2.s), .slc 1 m.p2.n (.fn fun i _ => .v (.int .u16 (m.p2.l i))), .v (.int .i64 m.p3.w), .v (.int .i64 m.p3.h), .v (.int .i64 m.p3.s), .slc 1 m.p3.n (.fn fun i _ => .v (.int .u16 (m.p3.l i))),
  .v (.int .i64 m.p4.w), .v (.int .i64 m.p4.h), .v (.int .i64 m.p4.s), .slc 1 m.p4.n (.fn fun i _ => .v (.int .u16 (m.p4.l i)))]
def s_imOf : List CV → Option (Im × List Prop)
  | [.v (.int .i64 w), .v (.int .i64 h), .v (.bool sol), .v (.int .u16 c0), .v (.int .u16 c1), .v (.int .u16 c2), .v (.int .u16 a), .v (.int .u16 f), .v (.int .i64 w0), .v (.int .i64 h0), .v (.int .i64 s0), d0, .v (.int .i64 w1), .v (.int .i64 h1), .v (.int .i64 s1), d1,
      .v (.int .i64 w2), .v (.int .i64 h2), .v (.int .i64 s2), d2, .v (.int .i64 w3), .v (.int .i64 h3), .v (.int .i64 s3), d3, .v (.int .i64 w4), .v (.int .i64 h4), .v (.int .i64 s4), d4] =>
    match slcOf 1 d0, slcOf 1 d1, slcOf 1 d2, slcOf 1 d3, slcOf 1 d4 with
    | some (n0, r0), some (n1, r1), some (n2, r2), some (n3, r3), some (n4, r4) => some (⟨w, h, sol, c0, c1, c2, a, f, ⟨w0, h0, s0, n0, fun i => intC (den r0 i 0)⟩, ⟨w1, h1, s1, n1, fun i => intC (den r1 i 0)⟩, ⟨w2, h2, s2, n2, fun i => intC (den r2 i 0)⟩, ⟨w3, h3, s3, n3, fun i => intC (den r3 i 0)⟩, ⟨w4, h4, s4, n4, fun i => intC (den r4 i 0)⟩⟩, [intRow .u16 1 n0 r0, intRow .u16 1 n1 r1, intRow .u16 1 n2 r2, intRow .u16 1 n3 r3, intRow .u16 1 n4 r4])
    | _, _, _, _, _ => none
  | _ => none
theorem eq_one {c : CV} {n : Int} {r : QR.Row} (h : slcOf 1 c = some (n, r)) (hr : intRow .u16 1 n r) : EqC c (.slc 1 n (.fn fun i _ => .v (.int .u16 (intC (den r i 0))))) := by
  have k := slcOf_ints h (by decide) hr
  unfold slcOf at h
  split at h
  · rename_i z n' r'
    cases e : Nat.beq z 1
    · rw [e] at h; simp at h
    · rw [e, cond_true, Option.some.injEq, Prod.mk.injEq] at h
      obtain ⟨rfl, rfl⟩ := h
      obtain rfl := Nat.eq_of_beq_eq_true e
      refine .slc fun i j hi hj => ?_
      obtain rfl : j = 0 := by omega
      have := hr i 0 hi (by decide)
      rw [this]; exact .v _
  · rw [Option.some.injEq, Prod.mk.injEq] at h
    obtain ⟨rfl, rfl⟩ := h
    exact .nil (by decide) rfl
  · simp at h
theorem imOf_eq {l : List CV} {m : Im} {A : List Prop} (h : s_imOf l = some (m, A)) (hA : ∀ p ∈ A, p) : eqCs l (imC m) := by
  unfold s_imOf at h
  split at h <;> try (simp at h; done)
  split at h <;> try (simp at h; done)
  rename_i e0 e1 e2 e3 e4
  simp only [Option.some.injEq, Prod.mk.injEq] at h
  obtain ⟨rfl, rfl⟩ := h
  exact ⟨.v _, .v _, .v _, .v _, .v _, .v _, .v _, .v _, .v _, .v _, .v _, eq_one e0 (hA _ (by simp)), .v _, .v _, .v _, eq_one e1 (hA _ (by simp)), .v _, .v _, .v _, eq_one e2 (hA _ (by simp)), .v _, .v _, .v _, eq_one e3 (hA _ (by simp)), .v _, .v _, .v _, eq_one e4 (hA _ (by simp)), trivial⟩
theorem intRow_one (n : Int) (l : Int → Int) : intRow .u16 1 n (.fn fun i _ => .v (.int .u16 (l i))) := fun i j _ _ => rfl
def plZ (p : Pl) : Bool := decide (p.w = 0 ∧ p.h = 0 ∧ p.s = 0 ∧ p.n = 0)
def plW (m : Im) (p : Pl) : Bool := decide (plB p.w p.h p.s p.n = true ∧ p.w = m.w ∧ p.h = m.h)
def colZ (m : Im) : Bool := decide (m.c0 = 0 ∧ m.c1 = 0 ∧ m.c2 = 0 ∧ m.a = 0 ∧ m.f = 0)
def imF (m : Im) : Bool := bif m.sol then plZ m.p0 && (plZ m.p1 && (plZ m.p2 && (plZ m.p3 && plZ m.p4))) else plW m m.p0 && (plW m m.p1 && (plW m m.p2 && (plW m m.p3 && (plW m m.p4 && colZ m))))
def imIn (m : Im) (x y : Int) : Bool := decide (fitB m.w m.h = true ∧ imF m = true ∧ (0 ≤ x ∧ x < m.w) ∧ 0 ≤ y ∧ y < m.h)
def imPl (m : Im) : Nat → Pl
  | 0 => m.p0
  | 1 => m.p1
  | 2 => m.p2
  | 3 => m.p3
  | _ => m.p4
def imCol (m : Im) : Nat → Int
  | 0 => m.c0
  | 1 => m.c1
  | 2 => m.c2
  | 3 => m.a
  | _ => m.f
def pxV (m : Im) (k : Nat) (x y : Int) : Int := bif m.sol then imCol m k else (imPl m k).l (patI (imPl m k).s x y)
def pxA (m : Im) (k : Nat) (x y : Int) : Int := bif imIn m x y then pxV m k x y else 0
def pxB (m : Im) (most x y : Int) : Bool := pvB (pxV m 0 x y) (pxV m 1 x y) (pxV m 2 x y) (pxV m 3 x y) (pxV m 4 x y) most
def imAll (m : Im) (most : Int) : Bool := (List.range m.h.toNat).all fun y => (List.range m.w.toNat).all fun x => pxB m most x y
def imE (m : Im) (most : Int) : Int := bif fitB m.w m.h then (bif imF m then (bif imAll m most then 0 else 8) else 7) else 6
def plG (p : Pl) : Prop := in64 p.w = true ∧ in64 p.h = true ∧ in64 p.s = true ∧ ile 0 p.n = true ∧ ∀ i : Nat, (i : Int) < p.n → in16 (p.l i) = true
def imG (m : Im) : Prop := (in64 m.w = true ∧ in64 m.h = true) ∧ (in16 m.c0 = true ∧ in16 m.c1 = true ∧ in16 m.c2 = true ∧ in16 m.a = true ∧ in16 m.f = true) ∧ plG m.p0 ∧ plG m.p1 ∧ plG m.p2 ∧ plG m.p3 ∧ plG m.p4
def imOk (m : Im) : Bool := fitB m.w m.h && imF m
def imN (m : Im) : Int := bif imOk m then m.w * m.h else 0
def pxI (m : Im) (i : Int) (k : Nat) : Int := pxV m k (i % m.w) (i / m.w)
def pxSame (n n' : Int) (q q' : Int → Nat → Int) : Bool := decide (n = n') && (List.range n.toNat).all fun i => (List.range 5).all fun k => q i k == q' i k
def imEq (m n : Im) : Bool := imOk m && (imOk n && (decide (m.w = n.w) && (decide (m.h = n.h) && pxSame (imN m) (imN n) (pxI m) (pxI n))))
def imofOk (w h n : Int) : Bool := decide (fitB w h = true ∧ n = w * h)
def plZero : Pl := ⟨0, 0, 0, 0, fun _ => 0⟩
def imZero : Im := ⟨0, 0, false, 0, 0, 0, 0, 0, plZero, plZero, plZero, plZero, plZero⟩
def imSol (w h c0 c1 c2 a f : Int) : Im := ⟨w, h, true, c0, c1, c2, a, f, plZero, plZero, plZero, plZero, plZero⟩
def plLaid (w h n : Int) (q : Int → Nat → Int) (k : Nat) : Pl := ⟨w, h, w, n, fun i => q i k⟩
def imofV (w h n : Int) (q : Int → Nat → Int) : Im := bif imofOk w h n then ⟨w, h, false, 0, 0, 0, 0, 0, plLaid w h n q 0, plLaid w h n q 1, plLaid w h n q 2, plLaid w h n q 3, plLaid w h n q 4⟩ else imZero
def plL (p : Pl) : Bool := decide (p.n ≤ 1099511627776)
def imL (m : Im) : Bool := plL m.p0 && (plL m.p1 && (plL m.p2 && (plL m.p3 && plL m.p4)))
def cvV (s t x : Int) : Int := if s < t then t16 x else if t < s then t8 x else x
def imCvE (m : Im) (s t : Int) : Int := bif smOk s && smOk t then imE m (smV s) else 1
def imCv (m : Im) (s t : Int) : Im := bif imCvE m s t == 0 then (bif m.sol then imSol m.w m.h (cvV s t m.c0) (cvV s t m.c1) (cvV s t m.c2) (cvV s t m.a) (cvV s t m.f) else imofV m.w m.h (imN m) fun i k => cvV s t (pxI m i k)) else imZero
def imRpE (m : Im) (a b c d n : Int) : Int := bif fitB m.w m.h then (bif imF m then (bif !(reB a b c d) && (rcovB 0 0 m.w m.h a b c d && decide (n = raV a b c d)) then 0 else 20) else 7) else 6
def imRpV (m : Im) (a b c d : Int) (q : Int → Nat → Int) (i : Int) (k : Nat) : Int := if (a ≤ i % m.w ∧ i % m.w < c) ∧ b ≤ i / m.w ∧ i / m.w < d then q ((i / m.w - b) * (c - a) + (i % m.w - a)) k else pxI m i k
def imRp (m : Im) (a b c d n : Int) (q : Int → Nat → Int) : Im := bif imRpE m a b c d n == 0 then imofV m.w m.h (imN m) (imRpV m a b c d q) else imZero
def grQ (n : Int) (q : Int → Nat → Int) (i : Int) (j : Nat) : Int := if 0 < n then q (i % n) j else 0
def grPx (n : Int) (q : Int → Nat → Int) (t i : Int) : Nat → Int
  | 0 => gpC (grQ n q i 0) (grQ n q i 3) (grQ n q i 4) t
  | 1 => gpC (grQ n q i 1) (grQ n q i 3) (grQ n q i 4) t
  | 2 => gpC (grQ n q i 2) (grQ n q i 3) (grQ n q i 4) t
  | 3 => gpA (grQ n q i 3) (grQ n q i 4) t
  | _ => gpF (grQ n q i 4) t
def gpxV (mood n : Int) (q : Int → Nat → Int) (t i : Int) (k : Nat) : Int :=
  if gmod mood 6 = 0 then 0 else if gmod mood 6 = 1 then (if k = 3 ∨ k = 4 then t else grPx n q t i k) else if gmod mood 6 = 2 then grPx n q t 0 k else grPx n q t i k
def gimW (W x0 x1 : Int) : Int := if gmod (iquo .i64 W 5) 3 = 0 then x1 - x0 else 1 + gmod W 5
def gimH (W H y0 y1 : Int) : Int := if gmod (iquo .i64 W 5) 3 = 0 then y1 - y0 else 1 + gmod H 4
def gcv (x0 y0 x1 y1 : Int) : Bool := decide ((1 ≤ x1 - x0 ∧ x1 - x0 ≤ 1024) ∧ 1 ≤ y1 - y0 ∧ y1 - y0 ≤ 1024)
def gimV (W H S mood n : Int) (q : Int → Nat → Int) (x0 y0 x1 y1 t : Int) : Im :=
  bif gmod S 2 == 0 then imSol (gimW W x0 x1) (gimH W H y0 y1) (gpxV mood n q t 0 0) (gpxV mood n q t 0 1) (gpxV mood n q t 0 2) (gpxV mood n q t 0 3) (gpxV mood n q t 0 4)
  else imofV (gimW W x0 x1) (gimH W H y0 y1) (gimW W x0 x1 * gimH W H y0 y1) (gpxV mood n q t)
def gstS (p : Pl) (m : Int) : Int := p.w + gmod m 4
def gstP (p : Pl) (m : Int) : Pl := ⟨p.w, p.h, gstS p m, gstS p m * p.h, fun i => if i % gstS p m < p.w then p.l (i / gstS p m * p.s + i % gstS p m) else iconv .u16 (40000 + i)⟩
def gstV (m : Im) (more : Int) : Im := bif m.sol then m else ⟨m.w, m.h, false, m.c0, m.c1, m.c2, m.a, m.f, gstP m.p0 (iadd .i64 more 0), gstP m.p1 (iadd .i64 more 1), gstP m.p2 (iadd .i64 more 2), gstP m.p3 (iadd .i64 more 3), gstP m.p4 (iadd .i64 more 4)⟩
end Go.Proofs.Ytcckcifmhhaepaa
