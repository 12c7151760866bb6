import Derived.Test.YtpjhdjakpbabhaaDoorXg
namespace Go.Proofs.YtpjhdjakpbabhaaDoor
open Go.RowKit PR QR
set_option linter.unusedVariables false
def rsP (p q : Int) (n nm : Int) : Prop := p = q ∧ (nm = 0 ∨ nm = n)
noncomputable def o_inv_row5 (n : Int) (Bl : Int → List (Nat × Blk)) (qk wy : CV) (G : Int → Prop) (V : Int → Nat → Int) : QR.Inv where
  ι := Int
  good i := G i
  slots i := QR.slotsOf Tryd.f26.ntmps [(2, .x (.c qk)), (8, .x (.c (.own 100000000000000805 n))), (9, .x (.c wy)), (17, .x (.c (.v (.int .i64 n)))), (18, .x (.c (.v (.int .i64 i))))]
  blocks i := Bl i ++ [(100000000000000805, .row 5 n (.fn fun a b => .v (.int .u16 (rwV i V a b))))]
  μ i := scMu n i
noncomputable def o_pin_row5 (n : Int) (Bl : List (Nat × Blk)) (qk wy : CV) (G : Prop) (V : Int → Nat → Int) : QR.Inv where
  ι := Nat
  good _ := G
  slots _ := QR.slotsOf Tryd.f26.ntmps [(2, .x (.c qk)), (8, .x (.c (.own 100000000000000805 n))), (9, .x (.c wy))]
  blocks _ := Bl ++ [(100000000000000805, .row 5 n (.fn fun a b => .v (.int .u16 (rwV 0 V a b))))]
  μ _ := 0
noncomputable def o_inl_row5 (j : Nat) (O : QR.Oracle) (C : QR.CfgK) : QR.Inl := ⟨j, 800, 26, Tryd.f26.ntmps, Tryd.f26.results.toList, QR.evalTopK Tryd.prog O C (Tryd.f26.body.getD .skip)⟩
noncomputable def o_cfg_runs5 (O : QR.Oracle) (C : QR.CfgK) : QR.CfgK := ⟨QR.noLoops, fun _ => none, fun k => bif Nat.beq k 3 then some (o_inl_row5 3 O C) else none, fun _ => none, 800⟩
noncomputable def o_inl_runs5 (j : Nat) (O : QR.Oracle) (C : QR.CfgK) : QR.Inl := ⟨j, 800, 28, Tryd.f28.ntmps, Tryd.f28.results.toList, QR.evalTopK Tryd.prog (QR.orc []) (o_cfg_runs5 O C) (Tryd.f28.body.getD .skip)⟩
noncomputable def o_inl_nx5 (O : QR.Oracle) (J : Nat → Option QR.Inl) : QR.Inl := ⟨2, QR.GB, 40, Tryd.f40.ntmps, Tryd.f40.results.toList, QR.evalJ Tryd.prog O QR.noLoops J (Tryd.f40.body.getD .skip)⟩
def o_nx5 : CV := .fn 40 [(100000000000000806, 0), (100000000000000807, 0), (100000000000000808, 0)]
def o_ls5 (i : Int) (V : Int → Nat → Int) : Nat × Blk := (100000000000000807, .cells [.v (.int .u16 (lsV i V 0)), .v (.int .u16 (lsV i V 1)), .v (.int .u16 (lsV i V 2)), .v (.int .u16 (lsV i V 3)), .v (.int .u16 (lsV i V 4))])
noncomputable def o_cfg_row (Is : List QR.Inv) (J : Nat → Option QR.Inl) (P : QR.Inv) : QR.CfgK := ⟨fun k => bif Nat.beq k 4 then some (.invs Is) else none, J, fun _ => none, fun k => bif Nat.beq k 3 then some P else none, 800⟩
def o_cB (o k m n n2 : Int) (s d : Int → Nat → Int) : List (Nat × Blk) := [(100000000000000803, .cells [.slc 5 n (.fn fun x y => .v (.int .u16 (s x y)))]), (100000000000000804, .cells [.slc 5 n2 (.fn fun x y => .v (.int .u16 (d x y)))]), (100000000000000800, .cells [.v (.int .i64 o)]), (100000000000000801, .cells [.v (.int .i64 k)]), (100000000000000802, .cells [.v (.int .u16 m)])]
def o_c1 : CV := .fn 33 [(100000000000000800, 0), (100000000000000801, 0), (100000000000000802, 0), (100000000000000803, 0), (100000000000000804, 0)]
def o_c2 : CV := .fn 36 [(100000000000000804, 0), (100000000000000802, 0)]
def o_c3 : CV := .fn 37 [(100000000000000803, 0), (100000000000000804, 0), (100000000000000802, 0)]
def o_c4 : CV := .fn 38 [(100000000000000804, 0)]
def o_cR (o k m n n2 : Int) (s d : Int → Nat → Int) (i : Int) : List (Nat × Blk) := (100000000000000806, .cells [o_c4]) :: (100000000000000808, .cells [o_c1]) :: o_ls5 i (rcV o k m s d) :: o_cB o k m n n2 s d
def o_cO : QR.Oracle := QR.orc [(33, s_cex), (36, s_ckp), (37, s_ccv), (38, s_csm)]
noncomputable def o_cfg_ckp (o k m n n2 : Int) (s d : Int → Nat → Int) : QR.CfgK := o_cfg_row [o_inv_row5 n (fun _ => o_cB o k m n n2 s d) o_c2 o_c1 (rwG0 n) (rcV o k m s d), o_inv_row5 n (fun _ => o_cB o k m n n2 s d) o_c2 o_c2 (rwG1 n (rcI o k m s d)) (rcV o k m s d)] (fun _ => none) (o_pin_row5 n (o_cB o k m n n2 s d) o_c2 o_c1 (rcP (efV o k m n s) 1 n n2) (rcV o k m s d))
noncomputable def o_cfg_ccv (o k m n n2 : Int) (s d : Int → Nat → Int) : QR.CfgK := o_cfg_row [o_inv_row5 n (fun _ => o_cB o k m n n2 s d) o_c3 o_c1 (rwG0 n) (rcV o k m s d), o_inv_row5 n (fun _ => o_cB o k m n n2 s d) o_c3 o_c3 (rwG1 n (rcI o k m s d)) (rcV o k m s d)] (fun _ => none) (o_pin_row5 n (o_cB o k m n n2 s d) o_c3 o_c1 (rcP (efV o k m n s) 2 n n2) (rcV o k m s d))
noncomputable def o_cfg_crp (o k m n n2 : Int) (s d : Int → Nat → Int) : QR.CfgK := o_cfg_row [o_inv_row5 n (o_cR o k m n n2 s d) o_nx5 o_nx5 (rwG n (rcI o k m s d)) (rcV o k m s d)] (fun k => bif Nat.beq k 6 then some (o_inl_nx5 o_cO fun _ => none) else none) (o_pin_row5 n (o_cR o k m n n2 s d 0) o_nx5 o_nx5 (rcP (efV o k m n s) 3 n n2) (rcV o k m s d))
noncomputable def o_cfg_cal (o k m n n2 : Int) (s d : Int → Nat → Int) : QR.CfgK := o_cfg_row [o_inv_row5 n (fun _ => o_cB o k m n n2 s d) o_c1 o_c1 (rwG n (rcI o k m s d)) (rcV o k m s d)] (fun _ => none) (o_pin_row5 n (o_cB o k m n n2 s d) o_c1 o_c1 (rcP 0 0 n n2) (rcV o k m s d))
noncomputable def o_cfg_cm (o k m n n2 : Int) (s d : Int → Nat → Int) : QR.CfgK := ⟨QR.noLoops, fun _ => none, fun q => bif Nat.beq q 6 then some (o_inl_row5 4 o_cO (o_cfg_ckp o k m n n2 s d)) else bif Nat.beq q 8 then some (o_inl_row5 4 o_cO (o_cfg_ccv o k m n n2 s d)) else bif Nat.beq q 10 then some (o_inl_runs5 4 o_cO (o_cfg_crp o k m n n2 s d)) else bif Nat.beq q 11 then some (o_inl_row5 4 o_cO (o_cfg_cal o k m n n2 s d)) else none, fun _ => none, 500⟩
def o_cm : QR.Oracle := QR.orc [(35, s_eff)]
def o_rsO : QR.Oracle := QR.orc [(9, s_scls)]
def o_s1 : CV := .fn 24 [(100000000000000801, 0), (100000000000000803, 0)]
def o_s2 : CV := .fn 25 [(100000000000000800, 0), (100000000000000804, 0), (100000000000000802, 0), (100000000000000803, 0)]
def o_s3 : CV := .fn 27 [(100000000000000804, 0), (100000000000000803, 0)]
def o_s4 : CV := .fn 29 [(100000000000000804, 0)]
def o_s5 : CV := .fn 30 [(100000000000000804, 0), (100000000000000803, 0), (100000000000000802, 0), (100000000000000809, 0), (100000000000000800, 0)]
def o_sB (m o n nm : Int) (q k : Int → Nat → Int) : List (Nat × Blk) := [(100000000000000804, .cells [o_s1]), (100000000000000800, .cells [.slc 5 n (.fn fun x y => .v (.int .u16 (q x y)))]), (100000000000000801, .cells [.slc 1 nm (.fn fun x y => .v (.int .u16 (k x y)))]), (100000000000000802, .cells [.v (.int .u16 o)]), (100000000000000803, .cells [.v (.int .u16 m)])]
def o_sB2 (m o n nm : Int) (q k : Int → Nat → Int) : List (Nat × Blk) := (100000000000000809, .cells [o_s2]) :: o_sB m o n nm q k
def o_sR (m o n nm : Int) (q k : Int → Nat → Int) (i : Int) : List (Nat × Blk) := (100000000000000806, .cells [o_s4]) :: (100000000000000808, .cells [o_s2]) :: o_ls5 i (rsV m o nm q fun i => k i 0) :: o_sB m o n nm q k
def o_sO : QR.Oracle := QR.orc [(24, s_cfa), (14, s_sboth), (31, s_spv)]
noncomputable def o_inl_s2 (j : Nat) : QR.Inl := ⟨j, QR.FLT, 25, Tryd.f25.ntmps, Tryd.f25.results.toList, QR.evalJ Tryd.prog o_sO QR.noLoops (fun _ => none) (Tryd.f25.body.getD .skip)⟩
noncomputable def o_inl_s3 (j : Nat) : QR.Inl := ⟨j, QR.FLT, 27, Tryd.f27.ntmps, Tryd.f27.results.toList, QR.evalJ Tryd.prog o_sO QR.noLoops (fun _ => none) (Tryd.f27.body.getD .skip)⟩
noncomputable def o_inl_s4 (j : Nat) : QR.Inl := ⟨j, QR.FLT, 29, Tryd.f29.ntmps, Tryd.f29.results.toList, QR.evalJ Tryd.prog o_sO QR.noLoops (fun _ => none) (Tryd.f29.body.getD .skip)⟩
noncomputable def o_inl_s5 (j : Nat) : QR.Inl := ⟨j, QR.FLT, 30, Tryd.f30.ntmps, Tryd.f30.results.toList, QR.evalJ Tryd.prog o_sO QR.noLoops (fun k => bif Nat.beq k 2 then some (o_inl_s2 2) else none) (Tryd.f30.body.getD .skip)⟩
noncomputable def o_sJ3 : Nat → Option QR.Inl := fun k => bif Nat.beq k 6 then some (o_inl_s2 2) else bif Nat.beq k 1000006 then some (o_inl_s3 2) else none
noncomputable def o_sJ5 : Nat → Option QR.Inl := fun k => bif Nat.beq k 6 then some (o_inl_s2 2) else bif Nat.beq k 1000006 then some (o_inl_s5 2) else none
noncomputable def o_sJn : Nat → Option QR.Inl := fun k => bif Nat.beq k 1 then some (o_inl_s4 5) else bif Nat.beq k 3 then some (o_inl_s2 2) else none
noncomputable def o_cfg_str (m o n nm : Int) (q k : Int → Nat → Int) : QR.CfgK := o_cfg_row [o_inv_row5 n (fun _ => o_sB m o n nm q k) o_s3 o_s2 (rwG0 n) (rsV m o nm q fun i => k i 0), o_inv_row5 n (fun _ => o_sB m o n nm q k) o_s3 o_s3 (rwG1 n (rsI m o nm q fun i => k i 0)) (rsV m o nm q fun i => k i 0)] o_sJ3 (o_pin_row5 n (o_sB m o n nm q k) o_s3 o_s2 (rsP (clsV n q m) 1 n nm) (rsV m o nm q fun i => k i 0))
noncomputable def o_cfg_srp (m o n nm : Int) (q k : Int → Nat → Int) : QR.CfgK := o_cfg_row [o_inv_row5 n (o_sR m o n nm q k) o_nx5 o_nx5 (rwG n (rsI m o nm q fun i => k i 0)) (rsV m o nm q fun i => k i 0)] (fun k => bif Nat.beq k 6 then some (o_inl_nx5 (QR.orc []) o_sJn) else none) (o_pin_row5 n (o_sR m o n nm q k 0) o_nx5 o_nx5 (rsP (clsV n q m) 2 n nm) (rsV m o nm q fun i => k i 0))
noncomputable def o_cfg_sal (m o n nm : Int) (q k : Int → Nat → Int) : QR.CfgK := o_cfg_row [o_inv_row5 n (fun _ => o_sB2 m o n nm q k) o_s5 o_s2 (rwG0 n) (rsV m o nm q fun i => k i 0), o_inv_row5 n (fun _ => o_sB2 m o n nm q k) o_s5 o_s5 (rwG1 n (rsI m o nm q fun i => k i 0)) (rsV m o nm q fun i => k i 0)] o_sJ5 (o_pin_row5 n (o_sB2 m o n nm q k) o_s5 o_s2 (rsP 0 0 n nm) (rsV m o nm q fun i => k i 0))
noncomputable def o_cfg_sc (m o n nm : Int) (q k : Int → Nat → Int) : QR.CfgK := ⟨QR.noLoops, fun _ => none, fun q_ => bif Nat.beq q_ 7 then some (o_inl_row5 4 (QR.orc []) (o_cfg_str m o n nm q k)) else bif Nat.beq q_ 9 then some (o_inl_runs5 4 (QR.orc []) (o_cfg_srp m o n nm q k)) else bif Nat.beq q_ 10 then some (o_inl_row5 4 (QR.orc []) (o_cfg_sal m o n nm q k)) else none, fun _ => none, 500⟩
end Go.Proofs.YtpjhdjakpbabhaaDoor
