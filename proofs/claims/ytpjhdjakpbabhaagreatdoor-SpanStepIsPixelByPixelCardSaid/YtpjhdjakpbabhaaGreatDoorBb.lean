import Derived.Test.YtpjhdjakpbabhaaGreatDoorProg
import Derived.ProofKit
import Derived.OpenShut
import Derived.Carry
import Derived.Below
import Derived.Test.YtpjhdjakpbabhaaGreatDoorBa
import Derived.Shelf.Spec.BitsCarry
import Derived.Deep.DeepMust
import Derived.Deep.RegionHeld3
namespace Go.Proofs.YtpjhdjakpbabhaaGreatDoor
open Go.ChangeShapes Go.WideShapes Go.ChangeAt Go.RowKit
set_option linter.unusedVariables false
def All2 {α β : Type} (R : α → β → Prop) : List α → List β → Prop
  | [], [] => True
  | a :: xs, b :: ys => R a b ∧ All2 R xs ys
  | _, _ => False
theorem All2.cons {α β : Type} {R : α → β → Prop} {a : α} {xs : List α} {ys : List β} (h : All2 R (a :: xs) ys) : ∃ b ys', ys = b :: ys' ∧ R a b ∧ All2 R xs ys' := by
  cases ys with
  | nil => exact h.elim
  | cons b ys => exact ⟨b, ys, rfl, h.1, h.2⟩
theorem All2.nil {α β : Type} {R : α → β → Prop} {ys : List β} (h : All2 R [] ys) : ys = [] := by
  cases ys with
  | nil => rfl
  | cons b ys => exact h.elim
theorem All2.append {α β : Type} {R : α → β → Prop} : ∀ (xs xs' : List α) (ys : List β), All2 R xs (ys.take xs.length) → All2 R xs' (ys.drop xs.length) → All2 R (xs ++ xs') ys
  | [], xs', ys, _, h => by simpa using h
  | a :: xs, xs', [], h, _ => by simp [All2] at h
  | a :: xs, xs', b :: ys, h, k => by
    simp only [List.length_cons, List.take_succ_cons, All2] at h
    simp only [List.length_cons, List.drop_succ_cons] at k
    exact ⟨h.1, All2.append xs xs' ys h.2 k⟩
theorem All2.imp {α β : Type} {R S : α → β → Prop} (f : ∀ a b, R a b → S a b) : ∀ (xs : List α) (ys : List β), All2 R xs ys → All2 S xs ys
  | [], [], _ => trivial
  | [], _ :: _, h => h.elim
  | _ :: _, [], h => h.elim
  | a :: xs, b :: ys, h => ⟨f _ _ h.1, All2.imp f xs ys h.2⟩
def flatFields (P : Program) (rec : TypeId → Option (List TypeId)) : List Field → Nat → Option (List TypeId)
  | [], _ => some []
  | f :: fs, off => match rec f.type, flatFields P rec fs (off + P.cellsOf f.type) with
    | some us, some vs => if f.offset = off ∧ us.length = P.cellsOf f.type then some (us ++ vs) else none
    | _, _ => none
def flat (P : Program) : Nat → TypeId → Option (List TypeId)
  | 0, _ => none
  | n + 1, t => match P.underlying t with
    | some (.struct fs) => match flatFields P (flat P n) fs.toList 0 with
      | some us => if us.length = P.cellsOf t then some us else none
      | none => none
    | some (.array m e) => match flat P n e with
      | some us => if us.length = P.cellsOf e ∧ m * us.length = P.cellsOf t then some (List.replicate m us).flatten else none
      | none => none
    | _ => some [t]
section
variable {H : Type} {enc : TypeId × Value → H} {P : Program} {w : World} {base : Nat} {sp : Nat → Bool} {hd : Bool}
def Leaf (enc : TypeId × Value → H) (P : Program) (w : World) (base : Nat) (sp : Nat → Bool) (hd : Bool) (ps : List MemPlace) (u : TypeId) (c : Value) : Prop :=
  ∃ fuel y, DataW.trod enc P w base sp hd fuel u [c] = some y ∧ ∀ q ∈ y.2, q ∈ ps
theorem Leaf.mono {ps ps' : List MemPlace} {u : TypeId} {c : Value} (h : Leaf enc P w base sp hd ps u c) (hs : ∀ q ∈ ps, q ∈ ps') : Leaf enc P w base sp hd ps' u c := by
  obtain ⟨f, y, h1, h2⟩ := h
  exact ⟨f, y, h1, fun q hq => hs q (h2 q hq)⟩
theorem flatFields_read {n m : Nat} {cs : List Value} {ps : List MemPlace} (ih : ∀ (t : TypeId) (us : List TypeId) (cs : List Value) (x : DataW H × List MemPlace), flat P n t = some us → DataW.trod enc P w base sp hd m t cs = some x → All2 (Leaf enc P w base sp hd x.2) us cs) :
    ∀ (fs : List Field) (off : Nat) (us : List TypeId), flatFields P (flat P n) fs off = some us →
      (∀ f ∈ fs, ∃ x, DataW.trod enc P w base sp hd m f.type ((cs.drop f.offset).take (P.cellsOf f.type)) = some x ∧ ∀ q ∈ x.2, q ∈ ps) →
      All2 (Leaf enc P w base sp hd ps) us ((cs.drop off).take us.length)
  | [], off, us, h, _ => by
    simp only [flatFields, Option.some.injEq] at h
    subst h
    simp [All2]
  | f :: fs, off, us, h, hf => by
    simp only [flatFields] at h
    split at h <;> try simp at h
    rename_i us1 vs h1 h2
    obtain ⟨⟨ho, hl⟩, rfl⟩ := h
    obtain ⟨x, hx, hxp⟩ := hf f (by simp)
    have a1 := ih _ _ _ _ h1 hx
    have a2 := flatFields_read ih fs _ vs h2 (fun g hg => hf g (by simp [hg]))
    refine All2.append _ _ _ ?_ ?_
    · rw [List.take_take, List.length_append, Nat.min_eq_left (by omega), hl, ← ho]
      exact All2.imp (fun a b h => Leaf.mono h hxp) _ _ a1
    · rw [List.drop_take, List.length_append, Nat.add_sub_cancel_left, List.drop_drop, hl]
      exact a2
theorem flat_rows {n m : Nat} {us : List TypeId} {k : Nat} {e : TypeId} {ps : List MemPlace} (hl : us.length = P.cellsOf e) :
    ∀ (j i : Nat) (cs : List Value), (∀ q, q < j → All2 (Leaf enc P w base sp hd ps) us ((cs.drop (q * P.cellsOf e)).take (P.cellsOf e))) → cs.length = j * us.length → All2 (Leaf enc P w base sp hd ps) (List.replicate j us).flatten cs
  | 0, i, cs, _, h => by
    have : cs = [] := by simpa using h
    subst this
    simp [All2]
  | j + 1, i, cs, h, hc => by
    rw [List.replicate_succ, List.flatten_cons]
    refine All2.append _ _ _ ?_ ?_
    · have := h 0 (by omega)
      simpa [hl] using this
    · refine flat_rows (n := n) (m := m) (k := k) hl j i _ (fun q hq => ?_) (by simp [hc, Nat.add_mul])
      have := h (q + 1) (by omega)
      rw [List.drop_drop, hl, Nat.add_comm (P.cellsOf e), ← Nat.succ_mul]
      exact this
theorem flat_read : ∀ (n : Nat) (t : TypeId) (us : List TypeId) (fuel : Nat) (cs : List Value) (x : DataW H × List MemPlace), flat P n t = some us → DataW.trod enc P w base sp hd fuel t cs = some x → All2 (Leaf enc P w base sp hd x.2) us cs
  | 0, _, _, _, _, _, h, _ => by simp [flat] at h
  | n + 1, t, us, fuel, cs, x, h, hx => by
    unfold flat at h
    split at h
    · rename_i fs hs
      obtain ⟨xs, m, rfl, rfl, hl, hlen, hf⟩ := DataW.trod_struct hs hx
      split at h <;> try simp at h
      rename_i us' h1
      obtain ⟨h2, rfl⟩ := h
      have a := flatFields_read (cs := cs) (ps := xs.flatMap (·.2)) (fun t us cs x h k => flat_read n t us m cs x h k) fs.toList 0 us' h1 (fun f hfm => by
        obtain ⟨i, hi, rfl⟩ := List.getElem_of_mem hfm
        have e : fs[i]? = some fs.toList[i] := by simp at hi ⊢
        have hi' : i < xs.length := by rw [hlen]; simpa using hi
        have := hf i _ e
        rw [List.getElem?_eq_getElem hi'] at this
        exact ⟨_, this, fun q hq => List.mem_flatMap.2 ⟨_, List.getElem_mem hi', hq⟩⟩)
      rw [h2, ← hl] at a
      simpa using a
    · rename_i k e hs
      obtain ⟨xs, m, rfl, rfl, hl, hlen, hf⟩ := DataW.trod_array hs hx
      split at h <;> try simp at h
      rename_i us' h1
      obtain ⟨⟨h2, h3⟩, rfl⟩ := h
      refine flat_rows (n := 0) (m := 0) (k := 0) h2 k 0 cs (fun q hq => ?_) (by rw [hl, h3])
      have hi' : q < xs.length := by rw [hlen]; exact hq
      have := hf q hq
      rw [List.getElem?_eq_getElem hi'] at this
      exact All2.imp (fun a b h => Leaf.mono h (fun z hz => List.mem_flatMap.2 ⟨_, List.getElem_mem hi', hz⟩)) _ _ (flat_read n e us' m _ _ h1 this)
    · rename_i hns hna
      simp only [Option.some.injEq] at h
      subst h
      have : ∃ c, cs = [c] := by
        cases fuel with
        | zero => simp [DataW.trod] at hx
        | succ m =>
          unfold DataW.trod at hx
          split at hx <;> first | exact ⟨_, rfl⟩ | (exfalso; simp_all; done) | simp_all
      obtain ⟨c, rfl⟩ := this
      exact ⟨⟨fuel, x, hx, fun q hq => hq⟩, trivial⟩
theorem open_flat {r : Reach} {b0 : Nat} {t : TypeId} {v : Value} {d : DataW H} {ps : List MemPlace} (us : List TypeId) (hfl : flat P 8 t = some us)
    (hk : (∃ fs, P.underlying t = some (.struct fs)) ∨ ∃ n e, P.underlying t = some (.array n e)) (hv : Value.okWide P w r b0 t v) (h : DataW.Trod enc P w base sp hd t v d ps) :
    ∃ l : List Value, v = .agg l.toArray ∧ All2 (Leaf enc P w base sp hd ps) us l := by
  obtain ⟨cs, rfl⟩ : ∃ cs, v = .agg cs := by
    rcases hk with ⟨fs, hs⟩ | ⟨n, e, hs⟩ <;> simp only [Value.okWide, hs] at hv <;> (obtain ⟨cs, h1, _⟩ := hv; exact ⟨cs, h1⟩)
  obtain ⟨fuel, hf⟩ := h
  have := flat_read 8 t us fuel _ _ hfl hf
  exact ⟨cs.toList, by simp, by simpa [Value.cells] using this⟩
theorem Leaf.int {ps : List MemPlace} {u : TypeId} {c : Value} {k : IntKind} (h : Leaf enc P w base sp hd ps u c) (hu : P.underlying u = some (.int k)) : ∃ n, c = .int k n ∧ (Lit.int k n).wf = true := by
  obtain ⟨f, y, hy, _⟩ := h
  obtain ⟨n, h1, _, h3⟩ := DataW.trod_int hu hy
  exact ⟨n, by simpa using h1, h3⟩
theorem Leaf.bool {ps : List MemPlace} {u : TypeId} {c : Value} (h : Leaf enc P w base sp hd ps u c) (hu : P.underlying u = some .bool) : ∃ b, c = .bool b := by
  obtain ⟨f, y, hy, _⟩ := h
  obtain ⟨n, h1, _⟩ := DataW.trod_bool hu hy
  exact ⟨n, by simpa using h1⟩
theorem Leaf.string {ps : List MemPlace} {u : TypeId} {c : Value} (h : Leaf enc P w base sp hd ps u c) (hu : P.underlying u = some .string) : ∃ s : ByteArray, c = .string s ∧ s.size ≤ maxLen := by
  obtain ⟨f, y, hy, _⟩ := h
  obtain ⟨n, h1, _, h3⟩ := DataW.trod_string hu hy
  exact ⟨n, by simpa using h1, h3⟩
end
theorem trodAll_keep {H : Type} {enc : TypeId × Value → H} {P : Program} (hl : laidOutB P = true) {W W' : World} (hb : Below W.heap.size W W') :
    ∀ (ts : List TypeId) (vs : List Value) (ds : List (DataW H)) (ps : List MemPlace), (∀ t ∈ ts, P.readableRec t = true ∧ t < P.types.size) → DataW.TrodAll enc P W 0 (fun _ => true) true ts vs ds ps →
      (∀ x ∈ ps, x.block < W.heap.size) → DataW.TrodAll enc P W' 0 (fun b => decide (b < W.heap.size)) true ts vs ds ps
  | [], [], [], _, _, h, _ => h
  | t :: ts, v :: vs, d :: ds, ps, hr, h, hlt => by
    obtain ⟨p, q, h1, h2, rfl⟩ := h
    exact ⟨p, q, Below.trod hl (hr t (by simp)).1 (hr t (by simp)).2 h1 hb (fun x hx => hlt x (by simp [hx])), trodAll_keep hl hb ts vs ds q (fun t ht => hr t (by simp [ht])) h2 (fun x hx => hlt x (by simp [hx])), rfl⟩
  | [], [], _ :: _, _, _, h, _ | [], _ :: _, _, _, _, h, _ | _ :: _, [], _, _, _, h, _ | _ :: _, _ :: _, [], _, _, h, _ => by simp [DataW.TrodAll] at h
theorem Law.keep {H : Type} {enc : TypeId × Value → H} {P : Program} {f : Func} {s : ChangeSpec} {apart fresh handsOn : Bool} {W W' : World} {args : Array Value} {v : Value} {ds gs : List (DataW H)} {before : List MemPlace}
    (hl : laidOutB P = true) (hr : ∀ t ∈ f.params.toList, P.readableRec t = true ∧ t < P.types.size) (hsv : s.vars = [])
    (hW : DataW.Whole enc P f.params.toList s.vars apart W args.toList ds gs before)
    (hlt : ∀ x ∈ before, x.block < W.heap.size)
    (hb : Below W.heap.size W W')
    (hfa : (s.fn H (ds ++ gs)).args = ds) (hfv : (s.fn H (ds ++ gs)).vars = [])
    (hres : ∀ (b : Nat) (sp : Nat → Bool) (hd : Bool), DataW.TrodAll enc P W' b sp hd f.resultTypes.toList (v.resultList f.resultTypes.size) (s.fn H (ds ++ gs)).results []) :
    s.post enc P f apart fresh handsOn false W args v W' := by
  have hW0 := hW
  obtain ⟨p, q, hA, hV, rfl, _, _⟩ := hW
  refine ⟨ds, gs, p ++ q, [], p, [], hW0, hres _ _ _, ?_, ?_, World.keptBut_mono (fun _ h => absurd h (by simp)) (hb.frame (fun _ => False)), fun h => by simp at h⟩
  · rw [hfa]
    exact trodAll_keep hl hb _ _ _ _ hr hA (fun x hx => hlt x (by simp [hx]))
  · rw [hfv, hsv]
    exact rfl
end Go.Proofs.YtpjhdjakpbabhaaGreatDoor
namespace Go.Proofs.YtpjhdjakpbabhaaGreatDoor
open Go.RowKit
set_option linter.unusedVariables false
theorem Word2.lt {n hi lo : Nat} (h : Word2 n hi lo) : n < 340282366920938463463374607431768211456 := by
  obtain ⟨a, b, c⟩ := h; omega
theorem Word2.inj {n m a b : Nat} (h : Word2 n a b) (k : Word2 m a b) : n = m := by
  obtain ⟨h1, h2, h3⟩ := h; obtain ⟨k1, k2, k3⟩ := k; omega
theorem sub64_run (x y b d o : Nat) (hb : b ≤ 1) (hd : d = (x + 18446744073709551616 - y - b) % 18446744073709551616) (ho : o = if x < y + b then 1 else 0) (w : World) :
    (callFunc 142 #[.int .u64 (x : Int), .int .u64 (y : Int), .int .u64 (b : Int)]).run Tryz.prog w = .ok (.value (.tuple #[.int .u64 (d : Int), .int .u64 (o : Int)])) w := by
  rw [run_callFunc_extern Tryz.func142 (by kernel_rfl) (by kernel_rfl) (by kernel_rfl) (e := sub64Entry) (by kernel_rfl), run_sub64 x y b hb, hd, ho]
  simp only [Result.andThen]
theorem wide_of (n : Nat) (w : World) :
    Calls Tryz.prog 124 #[.int .u64 n] w fun e w' => e = .returned (.agg #[.int .u64 0, .int .u64 n]) ∧ Below w.heap.size w w' := by
  go_enter Tryz.func124, Tryz.ntmps124
  go_wp2
  exact bodyPost_ret (v := .agg #[.int .u64 0, .int .u64 n]) (by simp [results, Tryz.results124, go_sem]) rfl ⟨rfl, (Below.refl _ _).alloc (Nat.le_refl _) _⟩
theorem wide_mul (a b : Nat) (ha : a < 18446744073709551616) (hb : b < 18446744073709551616) (w : World) :
    Calls Tryz.prog 117 #[.int .u64 a, .int .u64 b] w fun e w' => ∃ hi lo : Nat, e = .returned (.agg #[.int .u64 hi, .int .u64 lo]) ∧ Word2 (a * b) hi lo ∧ Below w.heap.size w w' := by
  go_enter Tryz.func117, Tryz.ntmps117
  go_wp2_with (go_at_call 120; refine (mul64 a b ha hb _).mono ?_; rintro e w' ⟨hi, lo, rfl, H, rfl⟩)
  exact bodyPost_ret (v := .agg #[.int .u64 hi, .int .u64 lo]) (by simp [results, Tryz.results117, go_sem]) rfl ⟨hi, lo, rfl, H, (Below.refl _ _).alloc (Nat.le_refl _) _⟩
set_option maxRecDepth 100000 in
theorem wide_add_yes (xh xl yh yl x y : Nat) (hx : Word2 x xh xl) (hy : Word2 y yh yl) (h : x + y < 340282366920938463463374607431768211456) (w : World) :
    Calls Tryz.prog 116 #[.agg #[.int .u64 xh, .int .u64 xl], .agg #[.int .u64 yh, .int .u64 yl]] w fun e w' => ∃ hi lo : Nat, e = .returned (.tuple #[.agg #[.int .u64 hi, .int .u64 lo], .bool true]) ∧ Word2 (x + y) hi lo ∧ Below w.heap.size w w' := by
  obtain ⟨ex, hxl, hxh⟩ := hx
  obtain ⟨ey, hyl, hyh⟩ := hy
  obtain ⟨t, s, ht, hs⟩ : ∃ t s, xl + yl + 0 = t * 18446744073709551616 + s ∧ s < 18446744073709551616 := ⟨(xl + yl) / 18446744073709551616, (xl + yl) % 18446744073709551616, by omega, by omega⟩
  have ht1 : t ≤ 1 := by omega
  obtain ⟨g, hg, hg1⟩ : ∃ g, xh + yh + t = 0 * 18446744073709551616 + g ∧ g < 18446744073709551616 := ⟨xh + yh + t, by omega, by omega⟩
  have a1 : ∀ w, (callFunc 121 #[.int .u64 (xl : Int), .int .u64 (yl : Int), .int .u64 0]).run Tryz.prog w = .ok (.value (.tuple #[.int .u64 (s : Int), .int .u64 (t : Int)])) w := add64_run xl yl 0 s t hxl hyl (by omega) ht hs
  have a2 : ∀ w, (callFunc 121 #[.int .u64 (xh : Int), .int .u64 (yh : Int), .int .u64 (t : Int)]).run Tryz.prog w = .ok (.value (.tuple #[.int .u64 (g : Int), .int .u64 0])) w := add64_run xh yh t g 0 hxh hyh ht1 hg hg1
  clear h
  have hg' : xh + yh + t = g := by omega
  have K : Word2 (x + y) g s := ⟨by subst ex ey hg'; omega, hs, hg1⟩
  clear hg'
  clear ex ey ht hg
  go_enter Tryz.func116, Tryz.ntmps116
  go_wp2
  refine bodyPost_ret (v := .tuple #[.agg #[.int .u64 g, .int .u64 s], .bool true]) (by simp [results, Tryz.results116, go_sem]) rfl ⟨g, s, rfl, K, ?_⟩
  · exact (((Below.refl _ _).alloc (Nat.le_refl _) _).alloc (by simp) _).alloc (by simp; omega) _
set_option maxRecDepth 100000 in
theorem wide_add_no (xh xl yh yl x y : Nat) (hx : Word2 x xh xl) (hy : Word2 y yh yl) (h : ¬ x + y < 340282366920938463463374607431768211456) (w : World) :
    Calls Tryz.prog 116 #[.agg #[.int .u64 xh, .int .u64 xl], .agg #[.int .u64 yh, .int .u64 yl]] w fun e w' => e = .returned (.tuple #[.agg #[.int .u64 0, .int .u64 0], .bool false]) ∧ Below w.heap.size w w' := by
  obtain ⟨ex, hxl, hxh⟩ := hx
  obtain ⟨ey, hyl, hyh⟩ := hy
  obtain ⟨t, s, ht, hs⟩ : ∃ t s, xl + yl + 0 = t * 18446744073709551616 + s ∧ s < 18446744073709551616 := ⟨(xl + yl) / 18446744073709551616, (xl + yl) % 18446744073709551616, by omega, by omega⟩
  have ht1 : t ≤ 1 := by omega
  obtain ⟨g, hg, hg1⟩ : ∃ g, xh + yh + t = 1 * 18446744073709551616 + g ∧ g < 18446744073709551616 := ⟨xh + yh + t - 18446744073709551616, by omega, by omega⟩
  have a1 : ∀ w, (callFunc 121 #[.int .u64 (xl : Int), .int .u64 (yl : Int), .int .u64 0]).run Tryz.prog w = .ok (.value (.tuple #[.int .u64 (s : Int), .int .u64 (t : Int)])) w := add64_run xl yl 0 s t hxl hyl (by omega) ht hs
  have a2 : ∀ w, (callFunc 121 #[.int .u64 (xh : Int), .int .u64 (yh : Int), .int .u64 (t : Int)]).run Tryz.prog w = .ok (.value (.tuple #[.int .u64 (g : Int), .int .u64 1])) w := add64_run xh yh t g 1 hxh hyh ht1 hg hg1
  clear ex ey h ht hg
  go_enter Tryz.func116, Tryz.ntmps116
  go_wp2
  refine bodyPost_ret (v := .tuple #[.agg #[.int .u64 0, .int .u64 0], .bool false]) (by simp [results, Tryz.results116, go_sem]) rfl ⟨rfl, ?_⟩
  exact (((Below.refl _ _).alloc (Nat.le_refl _) _).alloc (by simp) _).alloc (by simp; omega) _
set_option maxRecDepth 100000 in
theorem wide_sub_yes (xh xl yh yl x y : Nat) (hx : Word2 x xh xl) (hy : Word2 y yh yl) (h : y ≤ x) (w : World) :
    Calls Tryz.prog 125 #[.agg #[.int .u64 xh, .int .u64 xl], .agg #[.int .u64 yh, .int .u64 yl]] w fun e w' => ∃ hi lo : Nat, e = .returned (.tuple #[.agg #[.int .u64 hi, .int .u64 lo], .bool true]) ∧ Word2 (x - y) hi lo ∧ Below w.heap.size w w' := by
  obtain ⟨ex, hxl, hxh⟩ := hx
  obtain ⟨ey, hyl, hyh⟩ := hy
  obtain ⟨t, ht⟩ : ∃ t : Nat, t = if xl < yl + 0 then 1 else 0 := ⟨if xl < yl + 0 then 1 else 0, rfl⟩
  obtain ⟨s, hs⟩ : ∃ s : Nat, s = (xl + 18446744073709551616 - yl - 0) % 18446744073709551616 := ⟨(xl + 18446744073709551616 - yl - 0) % 18446744073709551616, rfl⟩
  have ht1 : t ≤ 1 := by rw [ht]; split <;> omega
  obtain ⟨g, hg⟩ : ∃ g : Nat, g = (xh + 18446744073709551616 - yh - t) % 18446744073709551616 := ⟨_, rfl⟩
  have hn : (0 : Nat) = if xh < yh + t then 1 else 0 := by
    by_cases q : xl < yl + 0
    · rw [if_pos q] at ht; rw [if_neg (by omega)]
    · rw [if_neg q] at ht; rw [if_neg (by omega)]
  have a1 : ∀ w, (callFunc 142 #[.int .u64 (xl : Int), .int .u64 (yl : Int), .int .u64 0]).run Tryz.prog w = .ok (.value (.tuple #[.int .u64 (s : Int), .int .u64 (t : Int)])) w := sub64_run xl yl 0 s t (by omega) hs ht
  have a2 : ∀ w, (callFunc 142 #[.int .u64 (xh : Int), .int .u64 (yh : Int), .int .u64 (t : Int)]).run Tryz.prog w = .ok (.value (.tuple #[.int .u64 (g : Int), .int .u64 0])) w := sub64_run xh yh t g 0 ht1 hg hn
  have K : Word2 (x - y) g s := by
    have hn' : ¬ xh < yh + t := by intro hc; rw [if_pos hc] at hn; omega
    by_cases q : xl < yl + 0
    · rw [if_pos q] at ht; subst ht ex ey; clear hn a1 a2; exact ⟨by omega, by omega, by omega⟩
    · rw [if_neg q] at ht; subst ht ex ey; clear hn a1 a2; exact ⟨by omega, by omega, by omega⟩
  clear h ex ey ht hg hn hs
  go_enter Tryz.func125, Tryz.ntmps125
  go_wp2
  refine bodyPost_ret (v := .tuple #[.agg #[.int .u64 g, .int .u64 s], .bool true]) (by simp [results, Tryz.results125, go_sem]) rfl ⟨g, s, rfl, K, ?_⟩
  · exact (((Below.refl _ _).alloc (Nat.le_refl _) _).alloc (by simp) _).alloc (by simp; omega) _
set_option maxRecDepth 100000 in
theorem wide_sub_no (xh xl yh yl x y : Nat) (hx : Word2 x xh xl) (hy : Word2 y yh yl) (h : ¬ y ≤ x) (w : World) :
    Calls Tryz.prog 125 #[.agg #[.int .u64 xh, .int .u64 xl], .agg #[.int .u64 yh, .int .u64 yl]] w fun e w' => e = .returned (.tuple #[.agg #[.int .u64 0, .int .u64 0], .bool false]) ∧ Below w.heap.size w w' := by
  obtain ⟨ex, hxl, hxh⟩ := hx
  obtain ⟨ey, hyl, hyh⟩ := hy
  obtain ⟨t, ht⟩ : ∃ t : Nat, t = if xl < yl + 0 then 1 else 0 := ⟨if xl < yl + 0 then 1 else 0, rfl⟩
  obtain ⟨s, hs⟩ : ∃ s : Nat, s = (xl + 18446744073709551616 - yl - 0) % 18446744073709551616 := ⟨(xl + 18446744073709551616 - yl - 0) % 18446744073709551616, rfl⟩
  have ht1 : t ≤ 1 := by rw [ht]; split <;> omega
  obtain ⟨g, hg⟩ : ∃ g : Nat, g = (xh + 18446744073709551616 - yh - t) % 18446744073709551616 := ⟨_, rfl⟩
  have hn : (1 : Nat) = if xh < yh + t then 1 else 0 := by
    by_cases q : xl < yl + 0
    · rw [if_pos q] at ht; rw [if_pos (by omega)]
    · rw [if_neg q] at ht; rw [if_pos (by omega)]
  have a1 : ∀ w, (callFunc 142 #[.int .u64 (xl : Int), .int .u64 (yl : Int), .int .u64 0]).run Tryz.prog w = .ok (.value (.tuple #[.int .u64 (s : Int), .int .u64 (t : Int)])) w := sub64_run xl yl 0 s t (by omega) hs ht
  have a2 : ∀ w, (callFunc 142 #[.int .u64 (xh : Int), .int .u64 (yh : Int), .int .u64 (t : Int)]).run Tryz.prog w = .ok (.value (.tuple #[.int .u64 (g : Int), .int .u64 1])) w := sub64_run xh yh t g 1 ht1 hg hn
  clear h ex ey ht hg hn hs
  go_enter Tryz.func125, Tryz.ntmps125
  go_wp2
  refine bodyPost_ret (v := .tuple #[.agg #[.int .u64 0, .int .u64 0], .bool false]) (by simp [results, Tryz.results125, go_sem]) rfl ⟨rfl, ?_⟩
  exact (((Below.refl _ _).alloc (Nat.le_refl _) _).alloc (by simp) _).alloc (by simp; omega) _
def cmp3 (x y : Nat) : Int := if x < y then -1 else if x = y then 0 else 1
theorem cmp3_lt {x y : Nat} (h : x < y) : cmp3 x y = -1 := by unfold cmp3; rw [if_pos h]
theorem cmp3_eq (x : Nat) : cmp3 x x = 0 := by unfold cmp3; rw [if_neg (by omega), if_pos rfl]
theorem cmp3_gt {x y : Nat} (h : y < x) : cmp3 x y = 1 := by unfold cmp3; rw [if_neg (by omega), if_neg (by omega)]
theorem below_alloc {w a : World} (h : Below w.heap.size w a) (o : Obj) : Below w.heap.size w (a.alloc o) := h.alloc h.size o
theorem below_drewn {w a : World} (h : Below w.heap.size w a) (n : Nat) : Below w.heap.size w (a.drewN n) := h.trans ⟨rfl, rfl, rfl, Nat.le_refl _, fun _ _ => rfl⟩
theorem below_set {w a : World} (h : Below w.heap.size w a) {p : Addr} (hp : w.heap.size ≤ p.block) (u : Value) : Below w.heap.size w (a.setCell p u) := h.setCell hp u
theorem cmp_u64 (x y : Nat) (w : World) :
    Calls Tryz.prog 141 #[.int .u64 x, .int .u64 y] w fun e w' => e = .returned (.int .i64 (cmp3 x y)) ∧ w = w' := by
  have n0 : ∀ (n : Nat) (w : World), Calls Tryz.prog 146 #[.int .u64 n] w fun e w' => e = .returned (.bool false) ∧ w = w' := fun n w => by
    go_enter Tryz.func146, Tryz.ntmps146
    go_wp2
    go_ret
    exact ⟨by simp, rfl⟩
  rcases Nat.lt_trichotomy x y with h | h | h
  · have h1 : (x : Int) < y := by omega
    rw [cmp3_lt h]
    clear h
    go_enter Tryz.func141, Tryz.ntmps141
    go_wp2_with (go_at_call 146; refine (n0 _ _).mono ?_; rintro e w1 ⟨rfl, rfl⟩)
    go_ret
    exact ⟨rfl, rfl⟩
  · subst h
    rw [cmp3_eq]
    go_enter Tryz.func141, Tryz.ntmps141
    go_wp2_with (go_at_call 146; refine (n0 _ _).mono ?_; rintro e w1 ⟨rfl, rfl⟩)
    go_ret
    exact ⟨rfl, rfl⟩
  · have h1 : (y : Int) < x := by omega
    have h2 : ¬ (x : Int) < y := by omega
    rw [cmp3_gt h]
    clear h
    go_enter Tryz.func141, Tryz.ntmps141
    go_wp2_with (go_at_call 146; refine (n0 _ _).mono ?_; rintro e w1 ⟨rfl, rfl⟩)
    go_ret
    exact ⟨rfl, rfl⟩
theorem wide_compare (xh xl yh yl x y : Nat) (hx : Word2 x xh xl) (hy : Word2 y yh yl) (w : World) :
    Calls Tryz.prog 122 #[.agg #[.int .u64 xh, .int .u64 xl], .agg #[.int .u64 yh, .int .u64 yl]] w fun e w' => e = .returned (.int .i64 (cmp3 x y)) ∧ Below w.heap.size w w' := by
  obtain ⟨ex, hxl, hxh⟩ := hx
  obtain ⟨ey, hyl, hyh⟩ := hy
  by_cases h : xh = yh
  · have e : cmp3 x y = cmp3 xl yl := by
      rcases Nat.lt_trichotomy xl yl with k | k | k
      · rw [cmp3_lt k, cmp3_lt (by omega)]
      · obtain rfl : x = y := by omega
        subst k
        rw [cmp3_eq, cmp3_eq]
      · rw [cmp3_gt k, cmp3_gt (by omega)]
    have hd : ((xh : Int) == (yh : Int)) = true := by rw [beq_iff_eq]; omega
    rw [e]
    clear e ex ey h
    go_enter Tryz.func122, Tryz.ntmps122
    go_wp2_with (go_at_call 141; refine (cmp_u64 _ _ _).mono ?_; rintro e w1 ⟨rfl, rfl⟩)
    refine bodyPost_ret (v := .int .i64 (cmp3 xl yl)) (by simp [results, Tryz.results122, go_sem]) rfl ⟨rfl, ?_⟩
    exact below_alloc (below_alloc (Below.refl _ _) _) _
  · have e : cmp3 x y = cmp3 xh yh := by
      rcases Nat.lt_trichotomy xh yh with k | k | k
      · rw [cmp3_lt k, cmp3_lt (by omega)]
      · omega
      · rw [cmp3_gt k, cmp3_gt (by omega)]
    have hd : ((xh : Int) == (yh : Int)) = false := by rw [beq_eq_false_iff_ne]; omega
    rw [e]
    clear e ex ey h
    go_enter Tryz.func122, Tryz.ntmps122
    go_wp2_with (go_at_call 141; refine (cmp_u64 _ _ _).mono ?_; rintro e w1 ⟨rfl, rfl⟩)
    refine bodyPost_ret (v := .int .i64 (cmp3 xh yh)) (by simp [results, Tryz.results122, go_sem]) rfl ⟨rfl, ?_⟩
    exact below_alloc (below_alloc (Below.refl _ _) _) _
end Go.Proofs.YtpjhdjakpbabhaaGreatDoor
namespace Go.Proofs.YtpjhdjakpbabhaaGreatDoor
open Go.RowKit
set_option linter.unusedVariables false
theorem mul_split {n ah al k : Nat} (h : Word2 n ah al) (m l o p : Nat) (e1 : al * k = m * 18446744073709551616 + l) (e2 : ah * k = o * 18446744073709551616 + p) :
    n * k = (o * 18446744073709551616 + p + m) * 18446744073709551616 + l := by
  rw [← h.1, Nat.add_mul, Nat.mul_right_comm, e1, e2]; omega
set_option maxRecDepth 100000 in
theorem wide_mulsmall_yes (ah al n k : Nat) (hn : Word2 n ah al) (hk : k < 18446744073709551616) (h : n * k < 340282366920938463463374607431768211456) (w : World) :
    Calls Tryz.prog 100 #[.agg #[.int .u64 ah, .int .u64 al], .int .u64 k] w fun e w' => ∃ hi lo : Nat, e = .returned (.tuple #[.agg #[.int .u64 hi, .int .u64 lo], .bool true]) ∧ Word2 (n * k) hi lo ∧ Below w.heap.size w w' := by
  have M := mul_split hn (k := k)
  obtain ⟨en, hal, hah⟩ := hn
  clear en
  have c1 := mul64 ah k hah hk
  have c2 := mul64 al k hal hk
  go_enter Tryz.func100, Tryz.ntmps100
  go_wp2_with fail
  refine (c1 _).mono ?_
  rintro e w1 ⟨o, p, rfl, H1, rfl⟩
  go_wp2_with fail
  refine (c2 _).mono ?_
  rintro e w1 ⟨m, l, rfl, H2, rfl⟩
  have M' := M m l o p H2.1.symm H1.1.symm
  obtain rfl : o = 0 := by omega
  obtain ⟨g, hg⟩ : ∃ g, p + m + 0 = 0 * 18446744073709551616 + g := ⟨p + m, by omega⟩
  have hgl : g < 18446744073709551616 := by omega
  have a1 : ∀ w, (callFunc 121 #[.int .u64 (p : Int), .int .u64 (m : Int), .int .u64 0]).run Tryz.prog w = .ok (.value (.tuple #[.int .u64 (g : Int), .int .u64 0])) w := add64_run p m 0 g 0 H1.2.1 H2.2.2 (by omega) hg hgl
  have K : Word2 (n * k) g l := ⟨by rw [M']; omega, H2.2.1, hgl⟩
  clear M M' hg H1 H2 h c1 c2
  go_wp2
  refine bodyPost_ret (v := .tuple #[.agg #[.int .u64 g, .int .u64 l], .bool true]) (by simp [results, Tryz.results100, go_sem]) rfl ⟨g, l, rfl, K, ?_⟩
  repeat (first | exact Below.refl _ _ | refine below_alloc ?_ _ | refine below_set ?_ (by simp; omega) _)
set_option maxRecDepth 100000 in
theorem wide_mulsmall_no (ah al n k : Nat) (hn : Word2 n ah al) (hk : k < 18446744073709551616) (h : ¬ n * k < 340282366920938463463374607431768211456) (w : World) :
    Calls Tryz.prog 100 #[.agg #[.int .u64 ah, .int .u64 al], .int .u64 k] w fun e w' => e = .returned (.tuple #[.agg #[.int .u64 0, .int .u64 0], .bool false]) ∧ Below w.heap.size w w' := by
  have M := mul_split hn (k := k)
  obtain ⟨en, hal, hah⟩ := hn
  clear en
  have c1 := mul64 ah k hah hk
  have c2 := mul64 al k hal hk
  go_enter Tryz.func100, Tryz.ntmps100
  go_wp2_with fail
  refine (c1 _).mono ?_
  rintro e w1 ⟨o, p, rfl, H1, rfl⟩
  go_wp2_with fail
  refine (c2 _).mono ?_
  rintro e w1 ⟨m, l, rfl, H2, rfl⟩
  have M' := M m l o p H2.1.symm H1.1.symm
  obtain ⟨h1, h2, h3⟩ := H1
  obtain ⟨k1, k2, k3⟩ := H2
  clear c1 c2 h1 k1 M
  obtain ⟨c, g, hg, hgl⟩ : ∃ c g, p + m + 0 = c * 18446744073709551616 + g ∧ g < 18446744073709551616 := ⟨(p + m) / 18446744073709551616, (p + m) % 18446744073709551616, by omega, by omega⟩
  have a1 : ∀ w, (callFunc 121 #[.int .u64 (p : Int), .int .u64 (m : Int), .int .u64 0]).run Tryz.prog w = .ok (.value (.tuple #[.int .u64 (g : Int), .int .u64 (c : Int)])) w := add64_run p m 0 g c h2 k3 (by omega) hg hgl
  by_cases ho : o = 0
  · subst ho
    have hc1 : ((c : Int) == 0) = false := by rw [beq_eq_false_iff_ne]; intro hc; rw [M'] at h; omega
    clear M' hg h
    go_wp2
    refine bodyPost_ret (v := .tuple #[.agg #[.int .u64 0, .int .u64 0], .bool false]) (by simp [results, Tryz.results100, go_sem]) rfl ⟨rfl, ?_⟩
    repeat (first | exact Below.refl _ _ | refine below_alloc ?_ _ | refine below_set ?_ (by simp; omega) _)
  · have ho1 : ((o : Int) == 0) = false := by rw [beq_eq_false_iff_ne]; omega
    clear M' hg h
    go_wp2
    refine bodyPost_ret (v := .tuple #[.agg #[.int .u64 0, .int .u64 0], .bool false]) (by simp [results, Tryz.results100, go_sem]) rfl ⟨rfl, ?_⟩
    repeat (first | exact Below.refl _ _ | refine below_alloc ?_ _ | refine below_set ?_ (by simp; omega) _)
end Go.Proofs.YtpjhdjakpbabhaaGreatDoor
namespace Go.Proofs.YtpjhdjakpbabhaaGreatDoor
open Go.RowKit
set_option linter.unusedVariables false
def Box2 (w : World) (b : Nat) (x y : Value) : Prop := w.cell? ⟨b, 0, none⟩ = some x ∧ w.cell? ⟨b, 1, none⟩ = some y ∧ w.frozen? ⟨b, 0, none⟩ = false ∧ w.frozen? ⟨b, 1, none⟩ = false
theorem Box2.keep {w w' : World} {b : Nat} {x y : Value} (h : Box2 w b x y) (hb : Below w.heap.size w w') (hlt : b < w.heap.size) : Box2 w' b x y := by
  obtain ⟨h1, h2, h3, h4⟩ := h
  obtain ⟨hc, hf⟩ := bcell hb
  exact ⟨(hc b 0 hlt).trans h1, (hc b 1 hlt).trans h2, (hf b 0 hlt).trans h3, (hf b 1 hlt).trans h4⟩
theorem Box2.set {w : World} {b : Nat} {x y : Value} (h : Box2 w b x y) (u v : Value) : Box2 ((w.setCell ⟨b, 0, none⟩ u).setCell ⟨b, 1, none⟩ v) b u v := by
  obtain ⟨h1, h2, h3, h4⟩ := h
  refine ⟨?_, ?_, ?_, ?_⟩ <;> simp [go_sem, h1, h2, h3, h4]
theorem Box2.other {w : World} {b : Nat} {x y : Value} (h : Box2 w b x y) {p : Addr} (hp : p.block ≠ b) (u : Value) : Box2 (w.setCell p u) b x y := by
  obtain ⟨h1, h2, h3, h4⟩ := h
  have e1 : p ≠ ⟨b, 0, none⟩ := by intro h; subst h; exact hp rfl
  have e2 : p ≠ ⟨b, 1, none⟩ := by intro h; subst h; exact hp rfl
  refine ⟨?_, ?_, ?_, ?_⟩ <;> simp [go_sem, h1, h2, h3, h4, e1, e2]
def Ans (n hi lo : Nat) (b : Bool) : Prop := (b = true ∧ Word2 n hi lo) ∨ (b = false ∧ hi = 0 ∧ lo = 0 ∧ ¬ n < 340282366920938463463374607431768211456)
def AnsOf (n : Nat) (e : Ending) : Prop := ∃ (hi lo : Nat) (b : Bool), e = .returned (.tuple #[.agg #[.int .u64 hi, .int .u64 lo], .bool b]) ∧ Ans n hi lo b
theorem AnsOf.yes {n hi lo : Nat} (h : Word2 n hi lo) : AnsOf n (.returned (.tuple #[.agg #[.int .u64 hi, .int .u64 lo], .bool true])) := ⟨hi, lo, true, rfl, Or.inl ⟨rfl, h⟩⟩
theorem AnsOf.no {n : Nat} (h : ¬ n < 340282366920938463463374607431768211456) : AnsOf n (.returned (.tuple #[.agg #[.int .u64 0, .int .u64 0], .bool false])) := ⟨0, 0, false, rfl, Or.inr ⟨rfl, rfl, rfl, h⟩⟩
theorem wide_mulsmall (ah al n k : Nat) (hn : Word2 n ah al) (hk : k < 18446744073709551616) (w : World) :
    Calls Tryz.prog 100 #[.agg #[.int .u64 ah, .int .u64 al], .int .u64 k] w fun e w' => AnsOf (n * k) e ∧ Below w.heap.size w w' := by
  by_cases h : n * k < 340282366920938463463374607431768211456
  · exact (wide_mulsmall_yes ah al n k hn hk h w).mono fun e w' ⟨hi, lo, he, hw, hb⟩ => ⟨he ▸ AnsOf.yes hw, hb⟩
  · exact (wide_mulsmall_no ah al n k hn hk h w).mono fun e w' ⟨he, hb⟩ => ⟨he ▸ AnsOf.no h, hb⟩
def Dif (x y hi lo : Nat) (b : Bool) : Prop := (b = true ∧ Word2 (x - y) hi lo ∧ y ≤ x) ∨ (b = false ∧ hi = 0 ∧ lo = 0 ∧ ¬ y ≤ x)
def DifOf (x y : Nat) (e : Ending) : Prop := ∃ (hi lo : Nat) (b : Bool), e = .returned (.tuple #[.agg #[.int .u64 hi, .int .u64 lo], .bool b]) ∧ Dif x y hi lo b
theorem DifOf.yes {x y hi lo : Nat} (h : Word2 (x - y) hi lo) (k : y ≤ x) : DifOf x y (.returned (.tuple #[.agg #[.int .u64 hi, .int .u64 lo], .bool true])) := ⟨hi, lo, true, rfl, Or.inl ⟨rfl, h, k⟩⟩
theorem DifOf.no {x y : Nat} (h : ¬ y ≤ x) : DifOf x y (.returned (.tuple #[.agg #[.int .u64 0, .int .u64 0], .bool false])) := ⟨0, 0, false, rfl, Or.inr ⟨rfl, rfl, rfl, h⟩⟩
theorem wide_sub (xh xl yh yl x y : Nat) (hx : Word2 x xh xl) (hy : Word2 y yh yl) (w : World) :
    Calls Tryz.prog 125 #[.agg #[.int .u64 xh, .int .u64 xl], .agg #[.int .u64 yh, .int .u64 yl]] w fun e w' => DifOf x y e ∧ Below w.heap.size w w' := by
  by_cases h : y ≤ x
  · exact (wide_sub_yes xh xl yh yl x y hx hy h w).mono fun e w' ⟨hi, lo, he, hw, hb⟩ => ⟨he ▸ DifOf.yes hw h, hb⟩
  · exact (wide_sub_no xh xl yh yl x y hx hy h w).mono fun e w' ⟨he, hb⟩ => ⟨he ▸ DifOf.no h, hb⟩
end Go.Proofs.YtpjhdjakpbabhaaGreatDoor
namespace Go.Proofs.YtpjhdjakpbabhaaGreatDoor
open Go.RowKit
set_option linter.unusedVariables false
theorem Box2.alloc {w : World} {b : Nat} {x y : Value} (h : Box2 w b x y) (hlt : b < w.heap.size) (o : Obj) : Box2 (w.alloc o) b x y :=
  h.keep ((Below.refl _ _).alloc (Nat.le_refl _) o) hlt
theorem two_div (hi lo d : Nat) (hd : 0 < d) :
    (hi * 18446744073709551616 + lo) / d = hi / d * 18446744073709551616 + (hi % d * 18446744073709551616 + lo) / d ∧ (hi * 18446744073709551616 + lo) % d = (hi % d * 18446744073709551616 + lo) % d := by
  have e : hi * 18446744073709551616 + lo = (hi % d * 18446744073709551616 + lo) + hi / d * 18446744073709551616 * d := by
    have h1 := Nat.div_add_mod hi d
    have h2 : hi * 18446744073709551616 = (d * (hi / d) + hi % d) * 18446744073709551616 := by rw [h1]
    rw [Nat.add_mul, Nat.mul_comm d, Nat.mul_right_comm] at h2
    rw [h2, Nat.add_right_comm, Nat.add_comm]
    generalize hi / d * 18446744073709551616 * d = a
    generalize hi % d * 18446744073709551616 = b
    omega
  constructor
  · rw [e, Nat.add_mul_div_right _ _ hd]; omega
  · rw [e, Nat.add_mul_mod_self_right]
theorem wide_divmod (hi lo d n : Nat) (hn : Word2 n hi lo) (hd : d < 18446744073709551616) (h0 : 0 < d) (w : World) :
    Calls Tryz.prog 145 #[.agg #[.int .u64 hi, .int .u64 lo], .int .u64 d] w fun e w' => ∃ qh ql : Nat, e = .returned (.tuple #[.agg #[.int .u64 qh, .int .u64 ql], .int .u64 (n % d : Nat), .bool true]) ∧ Word2 (n / d) qh ql ∧ Below w.heap.size w w' := by
  have h1 : ((d : Int) == 0) = false := by simpa using (by omega : d ≠ 0)
  have hr := Nat.mod_lt hi h0
  obtain ⟨hn1, hn2, hn3⟩ := hn
  have c1 := div64_any 0 hi d h0 hn3 hd
  have c2 := div64_any (hi % d) lo d hr hn2 hd
  have ⟨t1, t2⟩ := two_div hi lo d h0
  rw [hn1] at t1 t2
  have hq : (hi % d * 18446744073709551616 + lo) / d < 18446744073709551616 := by
    rw [Nat.div_lt_iff_lt_mul h0, Nat.mul_comm]
    have := Nat.mul_le_mul_right 18446744073709551616 (Nat.succ_le_of_lt hr)
    rw [Nat.succ_eq_add_one, Nat.add_mul] at this
    omega
  have hq1 : hi / d < 18446744073709551616 := Nat.lt_of_le_of_lt (Nat.div_le_self _ _) hn3
  have K : Word2 (n / d) (hi / d) ((hi % d * 18446744073709551616 + lo) / d) := ⟨t1.symm, hq, hq1⟩
  rw [Nat.zero_mul, Nat.zero_add] at c1
  rw [t2]
  generalize (hi % d * 18446744073709551616 + lo) / d = q0 at *
  generalize (hi % d * 18446744073709551616 + lo) % d = r0 at *
  generalize hi / d = q1 at *
  generalize hi % d = r1 at *
  clear t1 t2 hn1
  go_enter Tryz.func145, Tryz.ntmps145
  go_wp2_with fail
  refine (c1 _).mono ?_
  rintro e w1 ⟨rfl, m1, rfl⟩
  go_wp2_with fail
  refine (c2 _).mono ?_
  rintro e w1 ⟨rfl, m2, rfl⟩
  go_wp2
  refine bodyPost_ret (v := .tuple #[.agg #[.int .u64 q1, .int .u64 q0], .int .u64 r0, .bool true]) (by simp [results, Tryz.results145, go_sem]) rfl ⟨q1, q0, rfl, K, ?_⟩
  repeat (first | exact Below.refl _ _ | refine below_alloc ?_ _ | refine below_set ?_ (by simp <;> omega) _ | refine below_drewn ?_ _)
end Go.Proofs.YtpjhdjakpbabhaaGreatDoor
namespace Go.Proofs.YtpjhdjakpbabhaaGreatDoor
open Go.RowKit
set_option linter.unusedVariables false
theorem Box2.lt {w : World} {b : Nat} {x y : Value} (h : Box2 w b x y) : b < w.heap.size := World.block_lt_of_cell? w ⟨b, 0, none⟩ h.1
end Go.Proofs.YtpjhdjakpbabhaaGreatDoor
