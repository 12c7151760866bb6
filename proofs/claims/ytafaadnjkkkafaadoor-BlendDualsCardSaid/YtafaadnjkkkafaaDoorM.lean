/-
  The contract of the specification's MulSmall (by doubling) on two words: the product below 2^128, or false.
-/
import Derived.Test.YtafaadnjkkkafaaDoorL
namespace Go.Proofs.YtafaadnjkkkafaaDoor
open Go.RowKit
set_option linter.unusedVariables false

/-- a box of two words that may be written -/
def Box2 (w : World) (b : Nat) (x y : Value) : Prop := w.cell? ⟨b, 0, none⟩ = some x ∧ w.cell? ⟨b, 1, none⟩ = some y ∧ w.frozen? ⟨b, 0, none⟩ = false ∧ w.frozen? ⟨b, 1, none⟩ = false

theorem Box2.keep {w w' : World} {b : Nat} {x y : Value} (h : Box2 w b x y) (hb : Below w.heap.size w w') (hlt : b < w.heap.size) : Box2 w' b x y := by
  obtain ⟨h1, h2, h3, h4⟩ := h
  obtain ⟨hc, hf⟩ := bcell hb
  exact ⟨(hc b 0 hlt).trans h1, (hc b 1 hlt).trans h2, (hf b 0 hlt).trans h3, (hf b 1 hlt).trans h4⟩

theorem Box2.set {w : World} {b : Nat} {x y : Value} (h : Box2 w b x y) (u v : Value) : Box2 ((w.setCell ⟨b, 0, none⟩ u).setCell ⟨b, 1, none⟩ v) b u v := by
  obtain ⟨h1, h2, h3, h4⟩ := h
  refine ⟨?_, ?_, ?_, ?_⟩ <;> simp [go_sem, h1, h2, h3, h4]
theorem Box2.other {w : World} {b : Nat} {x y : Value} (h : Box2 w b x y) {p : Addr} (hp : p.block ≠ b) (u : Value) : Box2 (w.setCell p u) b x y := by
  obtain ⟨h1, h2, h3, h4⟩ := h
  have e1 : p ≠ ⟨b, 0, none⟩ := by intro h; subst h; exact hp rfl
  have e2 : p ≠ ⟨b, 1, none⟩ := by intro h; subst h; exact hp rfl
  refine ⟨?_, ?_, ?_, ?_⟩ <;> simp [go_sem, h1, h2, h3, h4, e1, e2]

/-- a result that fits into 128 bits, or zero and false -/
def Ans (n hi lo : Nat) (b : Bool) : Prop := (b = true ∧ Word2 n hi lo) ∨ (b = false ∧ hi = 0 ∧ lo = 0 ∧ ¬ n < 340282366920938463463374607431768211456)
theorem Ans.unique {n h l h' l' : Nat} {b b' : Bool} (x : Ans n h l b) (y : Ans n h' l' b') : h = h' ∧ l = l' ∧ b = b' := by
  rcases x with ⟨rfl, x⟩ | ⟨rfl, rfl, rfl, x⟩ <;> rcases y with ⟨rfl, y⟩ | ⟨rfl, rfl, rfl, y⟩
  · obtain ⟨h1, h2⟩ := x.unique y; exact ⟨h1, h2, rfl⟩
  · exact absurd x.lt y
  · exact absurd y.lt x
  · exact ⟨rfl, rfl, rfl⟩

/-- the pair of such a result -/
def AnsOf (n : Nat) (e : Ending) : Prop := ∃ (hi lo : Nat) (b : Bool), e = .returned (.tuple #[.agg #[.int .u64 hi, .int .u64 lo], .bool b]) ∧ Ans n hi lo b
theorem AnsOf.yes {n hi lo : Nat} (h : Word2 n hi lo) : AnsOf n (.returned (.tuple #[.agg #[.int .u64 hi, .int .u64 lo], .bool true])) := ⟨hi, lo, true, rfl, Or.inl ⟨rfl, h⟩⟩
theorem AnsOf.no {n : Nat} (h : ¬ n < 340282366920938463463374607431768211456) : AnsOf n (.returned (.tuple #[.agg #[.int .u64 0, .int .u64 0], .bool false])) := ⟨0, 0, false, rfl, Or.inr ⟨rfl, rfl, rfl, h⟩⟩

theorem ref_add (xh xl yh yl x y : Nat) (hx : Word2 x xh xl) (hy : Word2 y yh yl) (w : World) :
    Calls Tryd.prog 49 #[.agg #[.int .u64 xh, .int .u64 xl], .agg #[.int .u64 yh, .int .u64 yl]] w fun e w' => AnsOf (x + y) e ∧ Below w.heap.size w w' := by
  by_cases h : x + y < 340282366920938463463374607431768211456
  · exact (ref_add_yes xh xl yh yl x y hx hy h w).mono fun e w' ⟨hi, lo, he, hw, hb⟩ => ⟨he ▸ AnsOf.yes hw, hb⟩
  · exact (ref_add_no xh xl yh yl x y hx hy h w).mono fun e w' ⟨he, hb⟩ => ⟨he ▸ AnsOf.no h, hb⟩
theorem wide_add (xh xl yh yl x y : Nat) (hx : Word2 x xh xl) (hy : Word2 y yh yl) (w : World) :
    Calls Tryd.prog 67 #[.agg #[.int .u64 xh, .int .u64 xl], .agg #[.int .u64 yh, .int .u64 yl]] w fun e w' => AnsOf (x + y) e ∧ Below w.heap.size w w' := by
  by_cases h : x + y < 340282366920938463463374607431768211456
  · exact (wide_add_yes xh xl yh yl x y hx hy h w).mono fun e w' ⟨hi, lo, he, hw, hb⟩ => ⟨he ▸ AnsOf.yes hw, hb⟩
  · exact (wide_add_no xh xl yh yl x y hx hy h w).mono fun e w' ⟨he, hb⟩ => ⟨he ▸ AnsOf.no h, hb⟩
theorem wide_mulsmall (ah al n k : Nat) (hn : Word2 n ah al) (hk : k < 18446744073709551616) (w : World) :
    Calls Tryd.prog 51 #[.agg #[.int .u64 ah, .int .u64 al], .int .u64 k] w fun e w' => AnsOf (n * k) e ∧ Below w.heap.size w w' := by
  by_cases h : n * k < 340282366920938463463374607431768211456
  · exact (wide_mulsmall_yes ah al n k hn hk h w).mono fun e w' ⟨hi, lo, he, hw, hb⟩ => ⟨he ▸ AnsOf.yes hw, hb⟩
  · exact (wide_mulsmall_no ah al n k hn hk h w).mono fun e w' ⟨he, hb⟩ => ⟨he ▸ AnsOf.no h, hb⟩

/-- a difference, or zero and false where it is negative -/
def Dif (x y hi lo : Nat) (b : Bool) : Prop := (b = true ∧ Word2 (x - y) hi lo ∧ y ≤ x) ∨ (b = false ∧ hi = 0 ∧ lo = 0 ∧ ¬ y ≤ x)
theorem Dif.unique {x y h l h' l' : Nat} {b b' : Bool} (p : Dif x y h l b) (q : Dif x y h' l' b') : h = h' ∧ l = l' ∧ b = b' := by
  rcases p with ⟨rfl, p, p'⟩ | ⟨rfl, rfl, rfl, p⟩ <;> rcases q with ⟨rfl, q, q'⟩ | ⟨rfl, rfl, rfl, q⟩
  · obtain ⟨h1, h2⟩ := p.unique q; exact ⟨h1, h2, rfl⟩
  · exact absurd p' q
  · exact absurd q' p
  · exact ⟨rfl, rfl, rfl⟩
def DifOf (x y : Nat) (e : Ending) : Prop := ∃ (hi lo : Nat) (b : Bool), e = .returned (.tuple #[.agg #[.int .u64 hi, .int .u64 lo], .bool b]) ∧ Dif x y hi lo b
theorem DifOf.yes {x y hi lo : Nat} (h : Word2 (x - y) hi lo) (k : y ≤ x) : DifOf x y (.returned (.tuple #[.agg #[.int .u64 hi, .int .u64 lo], .bool true])) := ⟨hi, lo, true, rfl, Or.inl ⟨rfl, h, k⟩⟩
theorem DifOf.no {x y : Nat} (h : ¬ y ≤ x) : DifOf x y (.returned (.tuple #[.agg #[.int .u64 0, .int .u64 0], .bool false])) := ⟨0, 0, false, rfl, Or.inr ⟨rfl, rfl, rfl, h⟩⟩
theorem ref_sub (xh xl yh yl x y : Nat) (hx : Word2 x xh xl) (hy : Word2 y yh yl) (w : World) :
    Calls Tryd.prog 35 #[.agg #[.int .u64 xh, .int .u64 xl], .agg #[.int .u64 yh, .int .u64 yl]] w fun e w' => DifOf x y e ∧ Below w.heap.size w w' := by
  by_cases h : y ≤ x
  · exact (ref_sub_yes xh xl yh yl x y hx hy h w).mono fun e w' ⟨hi, lo, he, hw, hb⟩ => ⟨he ▸ DifOf.yes hw h, hb⟩
  · exact (ref_sub_no xh xl yh yl x y hx hy h w).mono fun e w' ⟨he, hb⟩ => ⟨he ▸ DifOf.no h, hb⟩
theorem wide_sub (xh xl yh yl x y : Nat) (hx : Word2 x xh xl) (hy : Word2 y yh yl) (w : World) :
    Calls Tryd.prog 65 #[.agg #[.int .u64 xh, .int .u64 xl], .agg #[.int .u64 yh, .int .u64 yl]] w fun e w' => DifOf x y e ∧ Below w.heap.size w w' := by
  by_cases h : y ≤ x
  · exact (wide_sub_yes xh xl yh yl x y hx hy h w).mono fun e w' ⟨hi, lo, he, hw, hb⟩ => ⟨he ▸ DifOf.yes hw h, hb⟩
  · exact (wide_sub_no xh xl yh yl x y hx hy h w).mono fun e w' ⟨he, hb⟩ => ⟨he ▸ DifOf.no h, hb⟩

set_option maxRecDepth 100000 in
set_option maxHeartbeats 1000000 in
theorem ref_mulsmall (ah al n k : Nat) (hn : Word2 n ah al) (hk : k < 18446744073709551616) (w : World) :
    Calls Tryd.prog 45 #[.agg #[.int .u64 ah, .int .u64 al], .int .u64 k] w fun e w' => AnsOf (n * k) e ∧ Below w.heap.size w w' := by
  obtain ⟨N, hN⟩ : ∃ N, N = n * k := ⟨_, rfl⟩
  have HN := Lib.hid hN
  clear hN
  go_enter Tryd.func45, Tryd.ntmps45
  go_wp2_with fail
  go_loopw [1, 7] (fun kv ok wr => ∃ (kk ch cl oh ol c o : Nat), kv = .int .u64 kk ∧ ok = .bool true ∧ Word2 c ch cl ∧ Word2 o oh ol ∧ Hid (o + c * kk = N) ∧ kk < 18446744073709551616 ∧ Below w.heap.size w wr ∧ w.heap.size + 2 < wr.heap.size ∧
    Box2 wr w.heap.size (.int .u64 ch) (.int .u64 cl) ∧ Box2 wr (w.heap.size + 1) (.int .u64 0) (.int .u64 0) ∧ Box2 wr (w.heap.size + 1 + 1) (.int .u64 oh) (.int .u64 ol)) (fun kv _ _ => (intOf kv).toNat)
  case atStart =>
    refine ⟨k, ah, al, 0, 0, n, 0, rfl, rfl, hn, ⟨rfl, by omega, by omega⟩, Lib.hid (by rw [HN.out]; omega), hk, below_alloc (below_alloc (below_alloc (Below.refl _ _) _) _) _, by simp, ?_, ?_, ?_⟩ <;> simp [Box2, go_sem]
  case round =>
    obtain ⟨kk, ch, cl, oh, ol, c, o, rfl, rfl, hc, ho, inv, hkk, hb, hz, q0, q1, q2⟩ := hrel
    by_cases h0 : kk = 0
    · have hp : ¬ 0 < (kk : Int) := by omega
      have e : Hid (o = N) := Lib.hid (by have := inv.out; rw [h0] at this; simpa using this)
      clear inv h0
      obtain ⟨p1, p2, p3, p4⟩ := q1
      obtain ⟨r1, r2, r3, r4⟩ := q2
      go_wp2
      refine bodyPost_ret (v := .tuple #[.agg #[.int .u64 oh, .int .u64 ol], .bool true]) (by simp [results, Tryd.results45, go_sem, p1, p2]) rfl ⟨AnsOf.yes (by rw [← HN.out, ← e.out]; exact ho), ?_⟩
      repeat (first | exact hb | refine below_alloc ?_ _ | refine below_set ?_ (by simp <;> omega) _)
    · have hp : 0 < (kk : Int) := by omega
      have hb1 := and1 kk hkk
      have hlt : (o + c * (kk % 2)) + (2 * c) * (kk / 2) = N := by
        rw [← inv.out, Nat.mul_comm 2 c, Nat.mul_assoc, Nat.add_assoc, ← Nat.mul_add]; congr 2; omega
      have Hlt := Lib.hid hlt
      have hle : o + c * (kk % 2) ≤ N := by rw [← hlt]; exact Nat.le_add_right _ _
      have hle2 : kk / 2 ≠ 0 → c + c ≤ N := by
        intro h; rw [← hlt]
        have := Nat.le_mul_of_pos_right (2 * c) (Nat.pos_of_ne_zero h)
        omega
      have Hle := Lib.hid hle
      have Hle2 := Lib.hid hle2
      clear hlt hle hle2
      by_cases h1 : kk % 2 = 1
      · rw [h1] at hb1
        have hb2 : (bits .and .u64 (kk : Int) 1 == 1) = true := by rw [hb1]; rfl
        clear hb1
        rw [h1, Nat.mul_one] at Hle Hlt
        have ca := ref_add oh ol ch cl o c ho hc
        have ⟨r1, r2, r3, r4⟩ := q2
        have ⟨t1, t2, t3, t4⟩ := q0
        clear h1
        go_wp2_with fail
        refine (ca _).mono ?_
        rintro e w1 ⟨⟨gh, gl, b, rfl, K⟩, hb3⟩
        have hz3 : wr.heap.size ≤ w1.heap.size := hb3.size
        have hb4 := below_then hb hb3
        have Q2 := q2.keep hb3 (by omega)
        have Q0 := q0.keep hb3 (by omega)
        have Q1 := q1.keep hb3 (by omega)
        clear hb3 hb q0 q1 q2 r1 r2 r3 r4 t1 t2 t3 t4
        have ⟨r1, r2, r3, r4⟩ := Q2
        rcases K with ⟨rfl, K⟩ | ⟨rfl, rfl, rfl, K⟩
        · have S2 := Q2.set (.int .u64 gh) (.int .u64 gl)
          have S1 := (Q1.other (p := ⟨w.heap.size + 1 + 1, 0, none⟩) (by simp) (.int .u64 gh)).other (p := ⟨w.heap.size + 1 + 1, 1, none⟩) (by simp) (.int .u64 gl)
          have S0 := (Q0.other (p := ⟨w.heap.size + 1 + 1, 0, none⟩) (by simp; omega) (.int .u64 gh)).other (p := ⟨w.heap.size + 1 + 1, 1, none⟩) (by simp; omega) (.int .u64 gl)
          by_cases h2 : kk / 2 = 0
          · have hg : ¬ (0 < (kk : Int) / 2) := by omega
            have h2 := Lib.hid h2
            go_wp2
            refine ⟨⟨kk / 2, ch, cl, gh, gl, c, o + c, by simp, rfl, hc, K, ?_, by omega, ?_, by simp; omega, S0, S1, S2⟩, ?_⟩
            · exact Lib.hid (by rw [h2.out, ← Hlt.out, h2.out]; simp)
            · exact below_set (below_set hb4 (by simp; omega) _) (by simp; omega) _
            · simp [intOf]; omega
          · have hg : 0 < (kk : Int) / 2 := by omega
            have hcc := Hle2.out h2
            have cb := ref_add ch cl ch cl c c hc hc
            have ⟨t1, t2, t3, t4⟩ := Q0
            go_wp2_with fail
            refine (cb _).mono ?_
            rintro e w2 ⟨⟨dh, dl, b, rfl, K2⟩, hb5⟩
            have hz5 : w1.heap.size ≤ w2.heap.size := by have := hb5.size; simp at this; exact this
            have hb6 := below_then (below_set (below_set hb4 (p := ⟨w.heap.size + 1 + 1, 0, none⟩) (by simp; omega) (.int .u64 gh)) (p := ⟨w.heap.size + 1 + 1, 1, none⟩) (by simp; omega) (.int .u64 gl)) hb5
            have U2 := S2.keep hb5 (by simp; omega)
            have U0 := S0.keep hb5 (by simp; omega)
            have U1 := S1.keep hb5 (by simp; omega)
            clear hb5 S0 S1 S2
            have ⟨t1, t2, t3, t4⟩ := U0
            rcases K2 with ⟨rfl, K2⟩ | ⟨rfl, rfl, rfl, K2⟩
            · have V0 := U0.set (.int .u64 dh) (.int .u64 dl)
              have V1 := (U1.other (p := ⟨w.heap.size, 0, none⟩) (by simp) (.int .u64 dh)).other (p := ⟨w.heap.size, 1, none⟩) (by simp) (.int .u64 dl)
              have V2 := (U2.other (p := ⟨w.heap.size, 0, none⟩) (by simp; omega) (.int .u64 dh)).other (p := ⟨w.heap.size, 1, none⟩) (by simp; omega) (.int .u64 dl)
              go_wp2
              refine ⟨⟨kk / 2, dh, dl, gh, gl, c + c, o + c, by simp, rfl, K2, K, ?_, by omega, ?_, by simp; omega, V0, V1, V2⟩, ?_⟩
              · exact Lib.hid (by rw [← Hlt.out, Nat.two_mul])
              · exact below_set (below_set hb6 (by simp) _) (by simp) _
              · simp [intOf]; omega
            · have ⟨u1, u2, u3, u4⟩ := U1
              have V1 := (U1.other (p := ⟨w.heap.size, 0, none⟩) (by simp) (.int .u64 0)).other (p := ⟨w.heap.size, 1, none⟩) (by simp) (.int .u64 0)
              have hN : ¬ N < 340282366920938463463374607431768211456 := by omega
              rw [HN.out] at hN
              go_wp2
              refine bodyPost_ret (v := .tuple #[.agg #[.int .u64 0, .int .u64 0], .bool false]) (by simp [results, Tryd.results45, go_sem, u1, u2]) rfl ⟨AnsOf.no hN, ?_⟩
              repeat (first | exact hb6 | refine below_alloc ?_ _ | refine below_set ?_ (by simp <;> omega) _)
        · have hN : ¬ N < 340282366920938463463374607431768211456 := by have := Hle.out; omega
          rw [HN.out] at hN
          have ⟨u1, u2, u3, u4⟩ := Q1
          go_wp2
          refine bodyPost_ret (v := .tuple #[.agg #[.int .u64 0, .int .u64 0], .bool false]) (by simp [results, Tryd.results45, go_sem, u1, u2]) rfl ⟨AnsOf.no hN, ?_⟩
          repeat (first | exact hb4 | refine below_alloc ?_ _ | refine below_set ?_ (by simp <;> omega) _)
      · have h1 : kk % 2 = 0 := by omega
        have h2 : ¬ kk / 2 = 0 := by omega
        rw [h1] at hb1
        have hb2 : (bits .and .u64 (kk : Int) 1 == 1) = false := by rw [hb1]; rfl
        clear hb1
        rw [h1, Nat.mul_zero, Nat.add_zero] at Hlt
        clear h1 Hle
        have hg : 0 < (kk : Int) / 2 := by omega
        have hcc := Hle2.out h2
        have cb := ref_add ch cl ch cl c c hc hc
        have ⟨t1, t2, t3, t4⟩ := q0
        go_wp2_with fail
        refine (cb _).mono ?_
        rintro e w2 ⟨⟨dh, dl, b, rfl, K2⟩, hb5⟩
        have hz5 : wr.heap.size ≤ w2.heap.size := hb5.size
        have hb6 := below_then hb hb5
        have U2 := q2.keep hb5 (by omega)
        have U0 := q0.keep hb5 (by omega)
        have U1 := q1.keep hb5 (by omega)
        clear t1 t2 t3 t4 q0 q1 q2
        clear hb5
        have ⟨t1, t2, t3, t4⟩ := U0
        rcases K2 with ⟨rfl, K2⟩ | ⟨rfl, rfl, rfl, K2⟩
        · have V0 := U0.set (.int .u64 dh) (.int .u64 dl)
          have V1 := (U1.other (p := ⟨w.heap.size, 0, none⟩) (by simp) (.int .u64 dh)).other (p := ⟨w.heap.size, 1, none⟩) (by simp) (.int .u64 dl)
          have V2 := (U2.other (p := ⟨w.heap.size, 0, none⟩) (by simp; omega) (.int .u64 dh)).other (p := ⟨w.heap.size, 1, none⟩) (by simp; omega) (.int .u64 dl)
          go_wp2
          refine ⟨⟨kk / 2, dh, dl, oh, ol, c + c, o, by simp, rfl, K2, ho, ?_, by omega, ?_, by simp; omega, V0, V1, V2⟩, ?_⟩
          · exact Lib.hid (by rw [← Hlt.out, Nat.two_mul])
          · exact below_set (below_set hb6 (by simp) _) (by simp) _
          · simp [intOf]; omega
        · have ⟨u1, u2, u3, u4⟩ := U1
          have V1 := (U1.other (p := ⟨w.heap.size, 0, none⟩) (by simp) (.int .u64 0)).other (p := ⟨w.heap.size, 1, none⟩) (by simp) (.int .u64 0)
          have hN : ¬ N < 340282366920938463463374607431768211456 := by omega
          rw [HN.out] at hN
          go_wp2
          refine bodyPost_ret (v := .tuple #[.agg #[.int .u64 0, .int .u64 0], .bool false]) (by simp [results, Tryd.results45, go_sem, u1, u2]) rfl ⟨AnsOf.no hN, ?_⟩
          repeat (first | exact hb6 | refine below_alloc ?_ _ | refine below_set ?_ (by simp <;> omega) _)
end Go.Proofs.YtafaadnjkkkafaaDoor
