import Derived.Test.YtcckcifmhhaepaaZaa
import Derived.Test.YtcckcifmhhaepaaZe
import Derived.Test.YtcckcifmhhaepaaNo
import Derived.Test.YtcckcifmhhaepaaMc
import Derived.Test.YtcckcifmhhaepaaRf
namespace Go.Proofs.Ytcckcifmhhaepaa
open Go.RowKit PR QR
set_option linter.unusedVariables false
set_option linter.unusedSimpArgs false
set_option maxRecDepth 20000
def imFt (m : Im) : Int := bif fitB m.w m.h then (bif imF m then 0 else 7) else 6
def vaW (m : Im) : Int := bif m.sol then 1 else m.w
def vaH (m : Im) : Int := bif m.sol then 1 else m.h
def bdN (w h : Int) : Int := w * h
def avEq3 : AV → AV → Prop
  | .x (.c a), .x (.c b) => EqC a b
  | .x (.agg l), .x (.agg m) => eqCs l m
  | .ref o l, .ref o' m => o = o' ∧ eqCs l m
  | _, _ => False
def avsEq3 : List AV → List AV → Prop
  | [], [] => True
  | a :: l, b :: m => avEq3 a b ∧ avsEq3 l m
  | _, _ => False
theorem conc_args_eq3 {F : Nat → Prop} {w : World} : ∀ {al al' : List AV} {ys : List Value} {bs : List Nat}, avsEq3 al al' → ConcArgs F w al ys bs → ConcArgs F w al' ys bs
  | [], [], ys, bs, _, h => h
  | [], _ :: _, ys, bs, e, _ => e.elim
  | _ :: _, [], ys, bs, e, _ => e.elim
  | a :: al, b :: al', ys, bs, e, h => by
    obtain ⟨e1, e2⟩ := e
    unfold avEq3 at e1
    split at e1
    · rename_i c c'
      cases ys with
      | nil => exact h.elim
      | cons y ys => exact ⟨Rep.eq e1 h.1, conc_args_eq3 e2 h.2⟩
    · rename_i l m
      cases ys with
      | nil => exact h.elim
      | cons y ys =>
        obtain ⟨zs, hz, h1⟩ := h.1
        exact ⟨⟨zs, hz, eqCs_rep e1 h1⟩, conc_args_eq3 e2 h.2⟩
    · rename_i o l o' m
      obtain ⟨rfl, e1⟩ := e1
      match ys, bs, h with
      | y :: ys, b :: bs, h =>
        obtain ⟨h1, h2, h3, ⟨arr, t, h4, h5⟩, h6⟩ := h
        exact ⟨h1, h2, h3, ⟨arr, t, h4, eqCs_rep e1 h5⟩, conc_args_eq3 e2 h6⟩
    · exact e1.elim
theorem does_args3 {P : Program} {f : FuncId} {al al' : List AV} {ans : QR.Ans} (e : avsEq3 al al') (h : DoesX P f al' ans) : DoesX P f al ans :=
  fun w F ys bs hG hF hA => h w F ys bs hG hF (conc_args_eq3 e hA)
def s_fault : List AV → Option QR.Ans
  | [.ref 0 l] => match s_imOf l with
    | some (m, A) => some ⟨[.c (.v (.int .i64 (imFt m)))], [imC m], imG m :: A⟩
    | none => none
  | _ => none
def s_whole : List AV → Option QR.Ans
  | [.ref 0 l] => match s_imOf l with
    | some (m, A) => some ⟨[.agg [.v (.int .i64 0), .v (.int .i64 0), .v (.int .i64 m.w), .v (.int .i64 m.h)]], [imC m], A⟩
    | none => none
  | _ => none
def s_varied : List AV → Option QR.Ans
  | [.ref 0 l] => match s_imOf l with
    | some (m, A) => some ⟨[.agg [.v (.int .i64 0), .v (.int .i64 0), .v (.int .i64 (vaW m)), .v (.int .i64 (vaH m))]], [imC m], A⟩
    | none => none
  | _ => none
def s_pixelI : List AV → Option QR.Ans
  | [.ref 0 l, .x (.c (.v (.int .i64 x))), .x (.c (.v (.int .i64 y)))] => match s_imOf l with
    | some (m, A) => some ⟨[.agg [.v (.int .u16 (pxV m 0 x y)), .v (.int .u16 (pxV m 1 x y)), .v (.int .u16 (pxV m 2 x y)), .v (.int .u16 (pxV m 3 x y)), .v (.int .u16 (pxV m 4 x y))]], [imC m], imG m :: (imIn m x y = true) :: A⟩
    | none => none
  | _ => none
def s_plcI : List AV → Option QR.Ans
  | [.x (.agg [.v (.int .i64 a), .v (.int .i64 b), .v (.int .i64 c), .v (.int .i64 d)])] => some ⟨[.c (.clo 73 [[.int .i64 a, .int .i64 b, .int .i64 c, .int .i64 d]])], [], []⟩
  | _ => none
def s_plnF : List AV → Option QR.Ans
  | [.x (.c (.v (.int .i64 w))), .x (.c (.v (.int .i64 h))), .x (.c (.v (.int .i64 s)))] => some ⟨[.agg [.v (.int .i64 w), .v (.int .i64 h), .v (.int .i64 s), .fresh 1 (bdN w h) (.zer [.int .u16 0])], .c (.v (.bool true))], [], [fitB w h = true, ieq s w = true]⟩
  | _ => none
def s_ofc : List AV → Option QR.Ans
  | [.x (.c (.v (.int .i64 x))), .x (.c (.v (.int .i64 y))), .ref 0 [c], .ref 0 [.v (.int .i64 w)]] => match slcOf 5 c with
    | some (n, r) => some ⟨[.agg [.v (.int .u16 (intC (den r (iadd .i64 (imul .i64 y w) x) 0))), .v (.int .u16 (intC (den r (iadd .i64 (imul .i64 y w) x) 1))), .v (.int .u16 (intC (den r (iadd .i64 (imul .i64 y w) x) 2))), .v (.int .u16 (intC (den r (iadd .i64 (imul .i64 y w) x) 3))), .v (.int .u16 (intC (den r (iadd .i64 (imul .i64 y w) x) 4)))]],
        [[.slc 5 n (.fn fun i j => .v (.int .u16 (intC (den r i j))))], [.v (.int .i64 w)]], [intRow .u16 5 n r, ile 0 (iadd .i64 (imul .i64 y w) x) = true, ilt (iadd .i64 (imul .i64 y w) x) n = true]⟩
    | none => none
  | _ => none
def s_rpc : List AV → Option QR.Ans
  | [.x (.c (.v (.int .i64 x))), .x (.c (.v (.int .i64 y))), .ref 0 l] => match s_imOf l with
    | some (m, A) => some ⟨[.agg [.v (.int .u16 (pxV m 0 x y)), .v (.int .u16 (pxV m 1 x y)), .v (.int .u16 (pxV m 2 x y)), .v (.int .u16 (pxV m 3 x y)), .v (.int .u16 (pxV m 4 x y))]], [imC m], imG m :: (imIn m x y = true) :: A⟩
    | none => none
  | _ => none
set_option maxRecDepth 100000 in
theorem iprm_vc (w h : Int) (V : List QR.XV → List (List QR.CV) → Prop) : QR.evalBody Try.prog (QR.orc []) (QR.noLoops) (Try.f51.body.getD .skip) Try.f51.results.toList Try.f51.ntmps [.x (.c (.v (.int .i64 w))), .x (.c (.v (.int .i64 h)))] V = (True ∧ bcond (ige w 1) (bcond (ige h 1) ((ine w 0 = true ∧ True) ∧ True ∧ V [XV.c (CV.v (Value.bool (ile h (iquo IntKind.i64 16777216 w))))] []) (True ∧ True ∧ V [XV.c (CV.v (Value.bool false))] [])) (True ∧ True ∧ V [XV.c (CV.v (Value.bool false))] [])) := by
  kernel_rfl
set_option maxRecDepth 100000 in
theorem iwhole_vc (m : Im) (V : List QR.XV → List (List QR.CV) → Prop) : QR.evalBody Try.prog (QR.orc []) (QR.noLoops) (Try.f56.body.getD .skip) Try.f56.results.toList Try.f56.ntmps [.ref 0 (imC m)] V = (True ∧ True ∧ True ∧ V [XV.agg [CV.v (Value.int .i64 0), CV.v (Value.int .i64 0), CV.v (Value.int .i64 m.1), CV.v (Value.int .i64 m.2)]] [(zz13 m)]) := by
  delta zz13
  kernel_rfl
def o_vari : QR.Oracle := QR.orc [(56, s_whole)]
set_option maxRecDepth 100000 in
theorem ivari_vc (m : Im) (V : List QR.XV → List (List QR.CV) → Prop) : QR.evalBody Try.prog (o_vari) (QR.noLoops) (Try.f43.body.getD .skip) Try.f43.results.toList Try.f43.ntmps [.ref 0 (imC m)] V = (True ∧ True ∧ bcond m.3 (True ∧ True ∧ V [XV.agg [CV.v (Value.int .i64 0), CV.v (Value.int .i64 0), CV.v (Value.int .i64 1), CV.v (Value.int .i64 1)]] [(zz13 m)]) (∀ (i : Int), i = 0 → ∀ (i_1 : Int), i_1 = 0 → ∀ (i_2 : Int), i_2 = m.1 → ∀ (i_3 : Int), i_3 = m.2 → (zz44 m) ∧ True ∧ V [XV.agg [CV.v (Value.int .i64 i), CV.v (Value.int .i64 i_1), CV.v (Value.int .i64 i_2), CV.v (Value.int .i64 i_3)]] [(zz13 m)])) := by
  delta zz13 zz44
  try delta o_vari
  try delta s_whole
  try delta s_imOf
  generalize @intRow = intRow
  generalize @w2 = w2
  kernel_rfl
set_option maxRecDepth 100000 in
theorem iplc_vc (a b c d : Int) (V : List QR.XV → List (List QR.CV) → Prop) : QR.evalBody Try.prog (QR.orc []) (QR.noLoops) (Try.f42.body.getD .skip) Try.f42.results.toList Try.f42.ntmps [.x (.agg [.v (.int .i64 a), .v (.int .i64 b), .v (.int .i64 c), .v (.int .i64 d)])] V = (True ∧ True ∧ True ∧ V [XV.c (CV.clo 73 [[Value.int .i64 a, Value.int .i64 b, Value.int .i64 c, Value.int .i64 d]])] []) := by
  kernel_rfl
set_option maxRecDepth 100000 in
theorem ipxl_vc (m : Im) (x y : Int) (V : List QR.XV → List (List QR.CV) → Prop) : QR.evalBody Try.prog (QR.orc []) (fun n => bif Nat.beq n 5 then some (.rounds 6) else none) (Try.f45.body.getD .skip) Try.f45.results.toList Try.f45.ntmps [.ref 0 (imC m), .x (.c (.v (.int .i64 x))), .x (.c (.v (.int .i64 y)))] V = (True ∧ True ∧ bcond m.3 (True ∧ True ∧ V [XV.agg [CV.v (Value.int .u16 m.4), CV.v (Value.int .u16 m.5), CV.v (Value.int .u16 m.6), CV.v (Value.int .u16 m.7), CV.v (Value.int .u16 m.8)]] [(zz13 m)]) (True ∧ True ∧ True ∧ True ∧ (true = true ∧ true = true ∧ True) ∧ (true = true ∧ true = true ∧ ile 0 (iadd IntKind.i64 (imul IntKind.i64 y m.9.3) x) = true ∧ ilt (iadd IntKind.i64 (imul IntKind.i64 y m.9.3) x) m.9.4 = true ∧ True) ∧ True ∧ True ∧ True ∧ (true = true ∧ true = true ∧ True) ∧ (true = true ∧ true = true ∧ ile 0 (iadd IntKind.i64 (imul IntKind.i64 y m.10.3) x) = true ∧ ilt (iadd IntKind.i64 (imul IntKind.i64 y m.10.3) x) m.10.4 = true ∧ True) ∧ True ∧ True ∧ True ∧ (true = true ∧ true = true ∧ True) ∧ (true = true ∧ true = true ∧ ile 0 (iadd IntKind.i64 (imul IntKind.i64 y m.11.3) x) = true ∧ ilt (iadd IntKind.i64 (imul IntKind.i64 y m.11.3) x) m.11.4 = true ∧ True) ∧ True ∧ True ∧ True ∧ (true = true ∧ true = true ∧ True) ∧ (true = true ∧ true = true ∧ ile 0 (iadd IntKind.i64 (imul IntKind.i64 y m.12.3) x) = true ∧ ilt (iadd IntKind.i64 (imul IntKind.i64 y m.12.3) x) m.12.4 = true ∧ True) ∧ True ∧ True ∧ True ∧ (true = true ∧ true = true ∧ True) ∧ (true = true ∧ true = true ∧ ile 0 (iadd IntKind.i64 (imul IntKind.i64 y m.13.3) x) = true ∧ ilt (iadd IntKind.i64 (imul IntKind.i64 y m.13.3) x) m.13.4 = true ∧ True) ∧ True ∧ True ∧ (true = true ∧ true = true ∧ true = true ∧ true = true ∧ true = true ∧ true = true ∧ true = true ∧ true = true ∧ true = true ∧ true = true ∧ True) ∧ True ∧ V (zz140 m y x) [(zz13 m)])) := by
  delta zz13 zz140
  kernel_rfl
set_option maxRecDepth 100000 in
theorem isolI_vc (w h c0 c1 c2 a f : Int) (V : List QR.XV → List (List QR.CV) → Prop) : QR.evalBody Try.prog (QR.orc []) (QR.noLoops) (Try.f23.body.getD .skip) Try.f23.results.toList Try.f23.ntmps [.x (.c (.v (.int .i64 w))), .x (.c (.v (.int .i64 h))), .x (.agg [.v (.int .u16 c0), .v (.int .u16 c1), .v (.int .u16 c2), .v (.int .u16 a), .v (.int .u16 f)])] V = (True ∧ True ∧ True ∧ V (zz98 w h c0 c1 c2 a f) []) := by
  delta zz98
  kernel_rfl
set_option maxRecDepth 100000 in
theorem iofc_vc (x y n w : Int) (q : Int → Nat → Int) (V : List QR.XV → List (List QR.CV) → Prop) : QR.evalBody Try.prog (QR.orc []) (QR.noLoops) (Try.f53.body.getD .skip) Try.f53.results.toList Try.f53.ntmps [.x (.c (.v (.int .i64 x))), .x (.c (.v (.int .i64 y))), .ref 0 [.slc 5 n (.fn fun i j => .v (.int .u16 (q i j)))], .ref 0 [.v (.int .i64 w)]] V = (True ∧ (ile 0 (iadd IntKind.i64 (imul IntKind.i64 y w) x) = true ∧ ilt (iadd IntKind.i64 (imul IntKind.i64 y w) x) n = true ∧ True) ∧ True ∧ V [XV.agg [CV.v (Value.int .u16 (q (iadd IntKind.i64 (imul IntKind.i64 y w) x) 0)), CV.v (Value.int .u16 (q (iadd IntKind.i64 (imul IntKind.i64 y w) x) 1)), CV.v (Value.int .u16 (q (iadd IntKind.i64 (imul IntKind.i64 y w) x) 2)), CV.v (Value.int .u16 (q (iadd IntKind.i64 (imul IntKind.i64 y w) x) 3)), CV.v (Value.int .u16 (q (iadd IntKind.i64 (imul IntKind.i64 y w) x) 4))]] [[CV.slc 5 n (QR.Row.fn fun (i : Int) (j : Nat) => CV.v (Value.int .u16 (q i j)))], [CV.v (Value.int .i64 w)]]) := by
  kernel_rfl
def o_irpc : QR.Oracle := QR.orc [(45, s_pixelI)]
set_option maxRecDepth 100000 in
theorem irpc_vc (m : Im) (x y : Int) (V : List QR.XV → List (List QR.CV) → Prop) : QR.evalBody Try.prog (o_irpc) (QR.noLoops) (Try.f68.body.getD .skip) Try.f68.results.toList Try.f68.ntmps [.x (.c (.v (.int .i64 x))), .x (.c (.v (.int .i64 y))), .ref 0 (imC m)] V = (True ∧ ∀ (i : Int), i = pxV m 0 x y → ∀ (i_1 : Int), i_1 = pxV m 1 x y → ∀ (i_2 : Int), i_2 = pxV m 2 x y → ∀ (i_3 : Int), i_3 = pxV m 3 x y → ∀ (i_4 : Int), i_4 = pxV m 4 x y → (zz81 m x y) ∧ True ∧ V (zz83 i i_1 i_2 i_3 i_4) [(zz13 m)]) := by
  delta zz13 zz81 zz83
  try delta o_irpc
  try delta s_pixelI
  try delta s_imOf
  generalize @imG = imG
  generalize @imIn = imIn
  generalize @intRow = intRow
  generalize @pxV = pxV
  generalize @w2 = w2
  kernel_rfl
def o_ifit : QR.Oracle := QR.orc [(85, s_plvalid)]
noncomputable def o_inl_fits : QR.Inl := ⟨6, QR.GB, 72, Try.f72.ntmps, Try.f72.results.toList, QR.evalJ Try.prog o_ifit QR.noLoops (fun _ => none) (Try.f72.body.getD .skip)⟩
noncomputable def o_cfg_fault : QR.Cfg := ⟨fun n => bif Nat.beq n 6 then some (.rounds 6) else none, fun _ => none, fun n => bif Nat.beq n 8 then some o_inl_fits else none, fun _ => none, fun _ => none, 500⟩
def o_flt : QR.Oracle := QR.orc [(51, s_fit)]
set_option maxHeartbeats 8000000 in
set_option maxRecDepth 100000 in
theorem ifltT_vc (m : Im) (V : List QR.XV → List (List QR.CV) → Prop) : QR.evalBodyJ Try.prog (o_flt) (o_cfg_fault) ((⟨itP, nthI, lnI, snocL, lenOkP⟩ : QR.IterW)) (Try.f41.body.getD .skip) Try.f41.results.toList Try.f41.ntmps [.ref 0 (imC ⟨m.w, m.h, true, m.c0, m.c1, m.c2, m.a, m.f, m.p0, m.p1, m.p2, m.p3, m.p4⟩)] V = (True ∧ (in64 m.1 = true ∧ in64 m.2 = true ∧ True) ∧ bcond (bnot (fitB m.1 m.2)) (True ∧ True ∧ V [XV.c (CV.v (Value.int .i64 6))] [(zz2 m)]) (bcond (bnot true) (True ∧ bcond (bnot (band (band (ieq m.4 0) (band (ieq m.5 0) (band (ieq m.6 0) true))) (band (ieq m.7 0) (band (ieq m.8 0) true)))) (True ∧ True ∧ V [XV.c (CV.v (Value.int .i64 7))] [(zz2 m)]) (True ∧ True ∧ True ∧ (true = true ∧ true = true ∧ True) ∧ True ∧ True ∧ bcond (ieq m.9.1 0) (bcond (ieq m.9.2 0) (bcond (ieq m.9.3 0) (∀ (i : Int), i = m.9.4 → True ∧ True ∧ true = true ∧ True ∧ bcond (bnot (ieq i 0)) (True ∧ True ∧ V [XV.c (CV.v (Value.int .i64 7))] [(zz2 m)]) (True ∧ True ∧ True ∧ (true = true ∧ true = true ∧ True) ∧ True ∧ True ∧ bcond (ieq m.10.1 0) (bcond (ieq m.10.2 0) (bcond (ieq m.10.3 0) (∀ (i : Int), i = m.10.4 → True ∧ True ∧ true = true ∧ True ∧ bcond (bnot (ieq i 0)) (True ∧ True ∧ V [XV.c (CV.v (Value.int .i64 7))] [(zz2 m)]) (True ∧ True ∧ True ∧ (true = true ∧ true = true ∧ True) ∧ True ∧ True ∧ bcond (ieq m.11.1 0) (bcond (ieq m.11.2 0) (bcond (ieq m.11.3 0) (∀ (i : Int), i = m.11.4 → True ∧ True ∧ true = true ∧ True ∧ bcond (bnot (ieq i 0)) (True ∧ True ∧ V [XV.c (CV.v (Value.int .i64 7))] [(zz2 m)]) (True ∧ True ∧ True ∧ (true = true ∧ true = true ∧ True) ∧ True ∧ True ∧ bcond (ieq m.12.1 0) (bcond (ieq m.12.2 0) (bcond (ieq m.12.3 0) (∀ (i : Int), i = m.12.4 → True ∧ True ∧ true = true ∧ True ∧ bcond (bnot (ieq i 0)) (True ∧ True ∧ V [XV.c (CV.v (Value.int .i64 7))] [(zz2 m)]) (True ∧ True ∧ True ∧ (true = true ∧ true = true ∧ True) ∧ True ∧ True ∧ bcond (ieq m.13.1 0) (bcond (ieq m.13.2 0) (bcond (ieq m.13.3 0) (∀ (i : Int), i = m.13.4 → True ∧ True ∧ true = true ∧ True ∧ bcond (bnot (ieq i 0)) (True ∧ True ∧ V [XV.c (CV.v (Value.int .i64 7))] [(zz2 m)]) (True ∧ True ∧ True ∧ True ∧ V [XV.c (CV.v (Value.int .i64 0))] [(zz2 m)])) (True ∧ True ∧ true = true ∧ True ∧ True ∧ True ∧ V [XV.c (CV.v (Value.int .i64 7))] [(zz2 m)])) (True ∧ True ∧ true = true ∧ True ∧ True ∧ True ∧ V [XV.c (CV.v (Value.int .i64 7))] [(zz2 m)])) (True ∧ True ∧ true = true ∧ True ∧ True ∧ True ∧ V [XV.c (CV.v (Value.int .i64 7))] [(zz2 m)]))) (True ∧ True ∧ true = true ∧ True ∧ True ∧ True ∧ V [XV.c (CV.v (Value.int .i64 7))] [(zz2 m)])) (True ∧ True ∧ true = true ∧ True ∧ True ∧ True ∧ V [XV.c (CV.v (Value.int .i64 7))] [(zz2 m)])) (True ∧ True ∧ true = true ∧ True ∧ True ∧ True ∧ V [XV.c (CV.v (Value.int .i64 7))] [(zz2 m)]))) (True ∧ True ∧ true = true ∧ True ∧ True ∧ True ∧ V [XV.c (CV.v (Value.int .i64 7))] [(zz2 m)])) (True ∧ True ∧ true = true ∧ True ∧ True ∧ True ∧ V [XV.c (CV.v (Value.int .i64 7))] [(zz2 m)])) (True ∧ True ∧ true = true ∧ True ∧ True ∧ True ∧ V [XV.c (CV.v (Value.int .i64 7))] [(zz2 m)]))) (True ∧ True ∧ true = true ∧ True ∧ True ∧ True ∧ V [XV.c (CV.v (Value.int .i64 7))] [(zz2 m)])) (True ∧ True ∧ true = true ∧ True ∧ True ∧ True ∧ V [XV.c (CV.v (Value.int .i64 7))] [(zz2 m)])) (True ∧ True ∧ true = true ∧ True ∧ True ∧ True ∧ V [XV.c (CV.v (Value.int .i64 7))] [(zz2 m)]))) (True ∧ True ∧ true = true ∧ True ∧ True ∧ True ∧ V [XV.c (CV.v (Value.int .i64 7))] [(zz2 m)])) (True ∧ True ∧ true = true ∧ True ∧ True ∧ True ∧ V [XV.c (CV.v (Value.int .i64 7))] [(zz2 m)])) (True ∧ True ∧ true = true ∧ True ∧ True ∧ True ∧ V [XV.c (CV.v (Value.int .i64 7))] [(zz2 m)]))) (True ∧ True ∧ True ∧ True ∧ (true = true ∧ true = true ∧ True) ∧ True ∧ True ∧ bcond (ieq m.9.1 0) (bcond (ieq m.9.2 0) (bcond (ieq m.9.3 0) (∀ (i : Int), i = m.9.4 → True ∧ True ∧ true = true ∧ True ∧ bcond (bnot (ieq i 0)) (True ∧ True ∧ V [XV.c (CV.v (Value.int .i64 7))] [(zz2 m)]) (True ∧ True ∧ True ∧ (true = true ∧ true = true ∧ True) ∧ True ∧ True ∧ bcond (ieq m.10.1 0) (bcond (ieq m.10.2 0) (bcond (ieq m.10.3 0) (∀ (i : Int), i = m.10.4 → True ∧ True ∧ true = true ∧ True ∧ bcond (bnot (ieq i 0)) (True ∧ True ∧ V [XV.c (CV.v (Value.int .i64 7))] [(zz2 m)]) (True ∧ True ∧ True ∧ (true = true ∧ true = true ∧ True) ∧ True ∧ True ∧ bcond (ieq m.11.1 0) (bcond (ieq m.11.2 0) (bcond (ieq m.11.3 0) (∀ (i : Int), i = m.11.4 → True ∧ True ∧ true = true ∧ True ∧ bcond (bnot (ieq i 0)) (True ∧ True ∧ V [XV.c (CV.v (Value.int .i64 7))] [(zz2 m)]) (True ∧ True ∧ True ∧ (true = true ∧ true = true ∧ True) ∧ True ∧ True ∧ bcond (ieq m.12.1 0) (bcond (ieq m.12.2 0) (bcond (ieq m.12.3 0) (∀ (i : Int), i = m.12.4 → True ∧ True ∧ true = true ∧ True ∧ bcond (bnot (ieq i 0)) (True ∧ True ∧ V [XV.c (CV.v (Value.int .i64 7))] [(zz2 m)]) (True ∧ True ∧ True ∧ (true = true ∧ true = true ∧ True) ∧ True ∧ True ∧ bcond (ieq m.13.1 0) (bcond (ieq m.13.2 0) (bcond (ieq m.13.3 0) (∀ (i : Int), i = m.13.4 → True ∧ True ∧ true = true ∧ True ∧ bcond (bnot (ieq i 0)) (True ∧ True ∧ V [XV.c (CV.v (Value.int .i64 7))] [(zz2 m)]) (True ∧ True ∧ True ∧ True ∧ V [XV.c (CV.v (Value.int .i64 0))] [(zz2 m)])) (True ∧ True ∧ true = true ∧ True ∧ True ∧ True ∧ V [XV.c (CV.v (Value.int .i64 7))] [(zz2 m)])) (True ∧ True ∧ true = true ∧ True ∧ True ∧ True ∧ V [XV.c (CV.v (Value.int .i64 7))] [(zz2 m)])) (True ∧ True ∧ true = true ∧ True ∧ True ∧ True ∧ V [XV.c (CV.v (Value.int .i64 7))] [(zz2 m)]))) (True ∧ True ∧ true = true ∧ True ∧ True ∧ True ∧ V [XV.c (CV.v (Value.int .i64 7))] [(zz2 m)])) (True ∧ True ∧ true = true ∧ True ∧ True ∧ True ∧ V [XV.c (CV.v (Value.int .i64 7))] [(zz2 m)])) (True ∧ True ∧ true = true ∧ True ∧ True ∧ True ∧ V [XV.c (CV.v (Value.int .i64 7))] [(zz2 m)]))) (True ∧ True ∧ true = true ∧ True ∧ True ∧ True ∧ V [XV.c (CV.v (Value.int .i64 7))] [(zz2 m)])) (True ∧ True ∧ true = true ∧ True ∧ True ∧ True ∧ V [XV.c (CV.v (Value.int .i64 7))] [(zz2 m)])) (True ∧ True ∧ true = true ∧ True ∧ True ∧ True ∧ V [XV.c (CV.v (Value.int .i64 7))] [(zz2 m)]))) (True ∧ True ∧ true = true ∧ True ∧ True ∧ True ∧ V [XV.c (CV.v (Value.int .i64 7))] [(zz2 m)])) (True ∧ True ∧ true = true ∧ True ∧ True ∧ True ∧ V [XV.c (CV.v (Value.int .i64 7))] [(zz2 m)])) (True ∧ True ∧ true = true ∧ True ∧ True ∧ True ∧ V [XV.c (CV.v (Value.int .i64 7))] [(zz2 m)]))) (True ∧ True ∧ true = true ∧ True ∧ True ∧ True ∧ V [XV.c (CV.v (Value.int .i64 7))] [(zz2 m)])) (True ∧ True ∧ true = true ∧ True ∧ True ∧ True ∧ V [XV.c (CV.v (Value.int .i64 7))] [(zz2 m)])) (True ∧ True ∧ true = true ∧ True ∧ True ∧ True ∧ V [XV.c (CV.v (Value.int .i64 7))] [(zz2 m)])))) := by
  delta zz2
  try delta o_flt
  try delta s_fit
  generalize @fitB = fitB
  generalize @in64 = in64
  generalize @itP = itP
  generalize @lenOkP = lenOkP
  generalize @lnI = lnI
  generalize @nthI = nthI
  generalize @snocL = snocL
  kernel_rfl
set_option maxHeartbeats 8000000 in
set_option maxRecDepth 100000 in
theorem ifltF_vc (m : Im) (V : List QR.XV → List (List QR.CV) → Prop) : QR.evalBodyJ Try.prog (o_flt) (o_cfg_fault) ((⟨itP, nthI, lnI, snocL, lenOkP⟩ : QR.IterW)) (Try.f41.body.getD .skip) Try.f41.results.toList Try.f41.ntmps [.ref 0 (imC ⟨m.w, m.h, false, m.c0, m.c1, m.c2, m.a, m.f, m.p0, m.p1, m.p2, m.p3, m.p4⟩)] V = (True ∧ (in64 m.1 = true ∧ in64 m.2 = true ∧ True) ∧ bcond (bnot (fitB m.1 m.2)) (True ∧ True ∧ V [XV.c (CV.v (Value.int .i64 6))] [(zz3 m)]) (bcond (bnot false) (True ∧ bcond (bnot (band (band (ieq m.4 0) (band (ieq m.5 0) (band (ieq m.6 0) true))) (band (ieq m.7 0) (band (ieq m.8 0) true)))) (True ∧ True ∧ V [XV.c (CV.v (Value.int .i64 7))] [(zz3 m)]) (True ∧ True ∧ True ∧ (true = true ∧ true = true ∧ True) ∧ True ∧ True ∧ bcond (ieq m.9.1 m.1) (bcond (ieq m.9.2 m.2) ((zz70 m) ∧ True ∧ true = true ∧ True ∧ bcond (bnot (plB m.9.1 m.9.2 m.9.3 m.9.4)) (True ∧ True ∧ V [XV.c (CV.v (Value.int .i64 7))] [(zz3 m)]) (True ∧ True ∧ True ∧ (true = true ∧ true = true ∧ True) ∧ True ∧ True ∧ bcond (ieq m.10.1 m.1) (bcond (ieq m.10.2 m.2) ((zz61 m) ∧ True ∧ true = true ∧ True ∧ bcond (bnot (plB m.10.1 m.10.2 m.10.3 m.10.4)) (True ∧ True ∧ V [XV.c (CV.v (Value.int .i64 7))] [(zz3 m)]) (True ∧ True ∧ True ∧ (true = true ∧ true = true ∧ True) ∧ True ∧ True ∧ bcond (ieq m.11.1 m.1) (bcond (ieq m.11.2 m.2) ((zz62 m) ∧ True ∧ true = true ∧ True ∧ bcond (bnot (plB m.11.1 m.11.2 m.11.3 m.11.4)) (True ∧ True ∧ V [XV.c (CV.v (Value.int .i64 7))] [(zz3 m)]) (True ∧ True ∧ True ∧ (true = true ∧ true = true ∧ True) ∧ True ∧ True ∧ bcond (ieq m.12.1 m.1) (bcond (ieq m.12.2 m.2) ((zz63 m) ∧ True ∧ true = true ∧ True ∧ bcond (bnot (plB m.12.1 m.12.2 m.12.3 m.12.4)) (True ∧ True ∧ V [XV.c (CV.v (Value.int .i64 7))] [(zz3 m)]) (True ∧ True ∧ True ∧ (true = true ∧ true = true ∧ True) ∧ True ∧ True ∧ bcond (ieq m.13.1 m.1) (bcond (ieq m.13.2 m.2) ((zz64 m) ∧ True ∧ true = true ∧ True ∧ bcond (bnot (plB m.13.1 m.13.2 m.13.3 m.13.4)) (True ∧ True ∧ V [XV.c (CV.v (Value.int .i64 7))] [(zz3 m)]) (True ∧ True ∧ True ∧ True ∧ V [XV.c (CV.v (Value.int .i64 0))] [(zz3 m)])) (True ∧ True ∧ true = true ∧ True ∧ True ∧ True ∧ V [XV.c (CV.v (Value.int .i64 7))] [(zz3 m)])) (True ∧ True ∧ true = true ∧ True ∧ True ∧ True ∧ V [XV.c (CV.v (Value.int .i64 7))] [(zz3 m)]))) (True ∧ True ∧ true = true ∧ True ∧ True ∧ True ∧ V [XV.c (CV.v (Value.int .i64 7))] [(zz3 m)])) (True ∧ True ∧ true = true ∧ True ∧ True ∧ True ∧ V [XV.c (CV.v (Value.int .i64 7))] [(zz3 m)]))) (True ∧ True ∧ true = true ∧ True ∧ True ∧ True ∧ V [XV.c (CV.v (Value.int .i64 7))] [(zz3 m)])) (True ∧ True ∧ true = true ∧ True ∧ True ∧ True ∧ V [XV.c (CV.v (Value.int .i64 7))] [(zz3 m)]))) (True ∧ True ∧ true = true ∧ True ∧ True ∧ True ∧ V [XV.c (CV.v (Value.int .i64 7))] [(zz3 m)])) (True ∧ True ∧ true = true ∧ True ∧ True ∧ True ∧ V [XV.c (CV.v (Value.int .i64 7))] [(zz3 m)]))) (True ∧ True ∧ true = true ∧ True ∧ True ∧ True ∧ V [XV.c (CV.v (Value.int .i64 7))] [(zz3 m)])) (True ∧ True ∧ true = true ∧ True ∧ True ∧ True ∧ V [XV.c (CV.v (Value.int .i64 7))] [(zz3 m)]))) (True ∧ True ∧ True ∧ True ∧ (true = true ∧ true = true ∧ True) ∧ True ∧ True ∧ bcond (ieq m.9.1 m.1) (bcond (ieq m.9.2 m.2) ((zz70 m) ∧ True ∧ true = true ∧ True ∧ bcond (bnot (plB m.9.1 m.9.2 m.9.3 m.9.4)) (True ∧ True ∧ V [XV.c (CV.v (Value.int .i64 7))] [(zz3 m)]) (True ∧ True ∧ True ∧ (true = true ∧ true = true ∧ True) ∧ True ∧ True ∧ bcond (ieq m.10.1 m.1) (bcond (ieq m.10.2 m.2) ((zz61 m) ∧ True ∧ true = true ∧ True ∧ bcond (bnot (plB m.10.1 m.10.2 m.10.3 m.10.4)) (True ∧ True ∧ V [XV.c (CV.v (Value.int .i64 7))] [(zz3 m)]) (True ∧ True ∧ True ∧ (true = true ∧ true = true ∧ True) ∧ True ∧ True ∧ bcond (ieq m.11.1 m.1) (bcond (ieq m.11.2 m.2) ((zz62 m) ∧ True ∧ true = true ∧ True ∧ bcond (bnot (plB m.11.1 m.11.2 m.11.3 m.11.4)) (True ∧ True ∧ V [XV.c (CV.v (Value.int .i64 7))] [(zz3 m)]) (True ∧ True ∧ True ∧ (true = true ∧ true = true ∧ True) ∧ True ∧ True ∧ bcond (ieq m.12.1 m.1) (bcond (ieq m.12.2 m.2) ((zz63 m) ∧ True ∧ true = true ∧ True ∧ bcond (bnot (plB m.12.1 m.12.2 m.12.3 m.12.4)) (True ∧ True ∧ V [XV.c (CV.v (Value.int .i64 7))] [(zz3 m)]) (True ∧ True ∧ True ∧ (true = true ∧ true = true ∧ True) ∧ True ∧ True ∧ bcond (ieq m.13.1 m.1) (bcond (ieq m.13.2 m.2) ((zz64 m) ∧ True ∧ true = true ∧ True ∧ bcond (bnot (plB m.13.1 m.13.2 m.13.3 m.13.4)) (True ∧ True ∧ V [XV.c (CV.v (Value.int .i64 7))] [(zz3 m)]) (True ∧ True ∧ True ∧ True ∧ V [XV.c (CV.v (Value.int .i64 0))] [(zz3 m)])) (True ∧ True ∧ true = true ∧ True ∧ True ∧ True ∧ V [XV.c (CV.v (Value.int .i64 7))] [(zz3 m)])) (True ∧ True ∧ true = true ∧ True ∧ True ∧ True ∧ V [XV.c (CV.v (Value.int .i64 7))] [(zz3 m)]))) (True ∧ True ∧ true = true ∧ True ∧ True ∧ True ∧ V [XV.c (CV.v (Value.int .i64 7))] [(zz3 m)])) (True ∧ True ∧ true = true ∧ True ∧ True ∧ True ∧ V [XV.c (CV.v (Value.int .i64 7))] [(zz3 m)]))) (True ∧ True ∧ true = true ∧ True ∧ True ∧ True ∧ V [XV.c (CV.v (Value.int .i64 7))] [(zz3 m)])) (True ∧ True ∧ true = true ∧ True ∧ True ∧ True ∧ V [XV.c (CV.v (Value.int .i64 7))] [(zz3 m)]))) (True ∧ True ∧ true = true ∧ True ∧ True ∧ True ∧ V [XV.c (CV.v (Value.int .i64 7))] [(zz3 m)])) (True ∧ True ∧ true = true ∧ True ∧ True ∧ True ∧ V [XV.c (CV.v (Value.int .i64 7))] [(zz3 m)]))) (True ∧ True ∧ true = true ∧ True ∧ True ∧ True ∧ V [XV.c (CV.v (Value.int .i64 7))] [(zz3 m)])) (True ∧ True ∧ true = true ∧ True ∧ True ∧ True ∧ V [XV.c (CV.v (Value.int .i64 7))] [(zz3 m)])))) := by
  delta zz3 zz61 zz62 zz63 zz64 zz70
  try delta o_flt
  try delta s_fit
  generalize @fitB = fitB
  generalize @in64 = in64
  generalize @intRow = intRow
  generalize @itP = itP
  generalize @lenOkP = lenOkP
  generalize @lnI = lnI
  generalize @nthI = nthI
  generalize @plB = plB
  generalize @snocL = snocL
  kernel_rfl
end Go.Proofs.Ytcckcifmhhaepaa
