import Derived.Test.YtpjhdjakpbabhaaGreatDoorXg
namespace Go.Proofs.YtpjhdjakpbabhaaGreatDoor
open Go.RowKit PR QR
set_option linter.unusedVariables false
def rgP (p q : Int) (n na nb : Int) : Prop := p = q ∧ n = na ∧ n = nb
noncomputable def o_inv_row5 (n : Int) (Bl : Int → List (Nat × Blk)) (qk wy : CV) (G : Int → Prop) (V : Int → Nat → Int) : QR.Inv where
  ι := Int
  good i := G i
  slots i := QR.slotsOf Tryz.f28.ntmps [(2, .x (.c qk)), (8, .x (.c (.own 100000000000000805 n))), (9, .x (.c wy)), (17, .x (.c (.v (.int .i64 n)))), (18, .x (.c (.v (.int .i64 i))))]
  blocks i := Bl i ++ [(100000000000000805, .row 5 n (.fn fun a b => .v (.int .u16 (rwV i V a b))))]
  μ i := scMu n i
noncomputable def o_pin_row5 (n : Int) (Bl : List (Nat × Blk)) (qk wy : CV) (G : Prop) (V : Int → Nat → Int) : QR.Inv where
  ι := Nat
  good _ := G
  slots _ := QR.slotsOf Tryz.f28.ntmps [(2, .x (.c qk)), (8, .x (.c (.own 100000000000000805 n))), (9, .x (.c wy))]
  blocks _ := Bl ++ [(100000000000000805, .row 5 n (.fn fun a b => .v (.int .u16 (rwV 0 V a b))))]
  μ _ := 0
noncomputable def o_inl_row5 (j : Nat) (O : QR.Oracle) (C : QR.CfgK) : QR.Inl := ⟨j, 800, 28, Tryz.f28.ntmps, Tryz.f28.results.toList, QR.evalTopK Tryz.prog O C (Tryz.f28.body.getD .skip)⟩
noncomputable def o_cfg_runs5 (O : QR.Oracle) (C : QR.CfgK) : QR.CfgK := ⟨QR.noLoops, fun _ => none, fun k => bif Nat.beq k 3 then some (o_inl_row5 3 O C) else none, fun _ => none, 800⟩
noncomputable def o_inl_runs5 (j : Nat) (O : QR.Oracle) (C : QR.CfgK) : QR.Inl := ⟨j, 800, 32, Tryz.f32.ntmps, Tryz.f32.results.toList, QR.evalTopK Tryz.prog (QR.orc []) (o_cfg_runs5 O C) (Tryz.f32.body.getD .skip)⟩
noncomputable def o_inl_nx5 (O : QR.Oracle) (J : Nat → Option QR.Inl) : QR.Inl := ⟨2, QR.GB, 72, Tryz.f72.ntmps, Tryz.f72.results.toList, QR.evalJ Tryz.prog O QR.noLoops J (Tryz.f72.body.getD .skip)⟩
def o_nx5 : CV := .fn 72 [(100000000000000806, 0), (100000000000000807, 0), (100000000000000808, 0)]
def o_ls5 (i : Int) (V : Int → Nat → Int) : Nat × Blk := (100000000000000807, .cells [.v (.int .u16 (lsV i V 0)), .v (.int .u16 (lsV i V 1)), .v (.int .u16 (lsV i V 2)), .v (.int .u16 (lsV i V 3)), .v (.int .u16 (lsV i V 4))])
noncomputable def o_inv_row6 (n : Int) (Bl : Int → List (Nat × Blk)) (qk wy : CV) (G : Int → Prop) (V : Int → Nat → Int) : QR.Inv where
  ι := Int
  good i := G i
  slots i := QR.slotsOf Tryz.f49.ntmps [(2, .x (.c qk)), (8, .x (.c (.own 100000000000000805 n))), (9, .x (.c wy)), (17, .x (.c (.v (.int .i64 n)))), (18, .x (.c (.v (.int .i64 i))))]
  blocks i := Bl i ++ [(100000000000000805, .row 6 n (.fn fun a b => .v (.int .u16 (rwV i V a b))))]
  μ i := scMu n i
noncomputable def o_pin_row6 (n : Int) (Bl : List (Nat × Blk)) (qk wy : CV) (G : Prop) (V : Int → Nat → Int) : QR.Inv where
  ι := Nat
  good _ := G
  slots _ := QR.slotsOf Tryz.f49.ntmps [(2, .x (.c qk)), (8, .x (.c (.own 100000000000000805 n))), (9, .x (.c wy))]
  blocks _ := Bl ++ [(100000000000000805, .row 6 n (.fn fun a b => .v (.int .u16 (rwV 0 V a b))))]
  μ _ := 0
noncomputable def o_inl_row6 (j : Nat) (O : QR.Oracle) (C : QR.CfgK) : QR.Inl := ⟨j, 800, 49, Tryz.f49.ntmps, Tryz.f49.results.toList, QR.evalTopK Tryz.prog O C (Tryz.f49.body.getD .skip)⟩
noncomputable def o_cfg_runs6 (O : QR.Oracle) (C : QR.CfgK) : QR.CfgK := ⟨QR.noLoops, fun _ => none, fun k => bif Nat.beq k 3 then some (o_inl_row6 3 O C) else none, fun _ => none, 800⟩
noncomputable def o_inl_runs6 (j : Nat) (O : QR.Oracle) (C : QR.CfgK) : QR.Inl := ⟨j, 800, 53, Tryz.f53.ntmps, Tryz.f53.results.toList, QR.evalTopK Tryz.prog (QR.orc []) (o_cfg_runs6 O C) (Tryz.f53.body.getD .skip)⟩
noncomputable def o_inl_nx6 (O : QR.Oracle) (J : Nat → Option QR.Inl) : QR.Inl := ⟨2, QR.GB, 89, Tryz.f89.ntmps, Tryz.f89.results.toList, QR.evalJ Tryz.prog O QR.noLoops J (Tryz.f89.body.getD .skip)⟩
def o_nx6 : CV := .fn 89 [(100000000000000806, 0), (100000000000000807, 0), (100000000000000808, 0)]
def o_ls6 (i : Int) (V : Int → Nat → Int) : Nat × Blk := (100000000000000807, .cells [.v (.int .u16 (lsV i V 0)), .v (.int .u16 (lsV i V 1)), .v (.int .u16 (lsV i V 2)), .v (.int .u16 (lsV i V 3)), .v (.int .u16 (lsV i V 4)), .v (.int .u16 (lsV i V 5))])
noncomputable def o_cfg_row (Is : List QR.Inv) (J : Nat → Option QR.Inl) (P : QR.Inv) : QR.CfgK := ⟨fun k => bif Nat.beq k 4 then some (.invs Is) else none, J, fun _ => none, fun k => bif Nat.beq k 3 then some P else none, 800⟩
def o_cB (o k m n n2 : Int) (s d : Int → Nat → Int) : List (Nat × Blk) := [(100000000000000803, .cells [.slc 5 n (.fn fun x y => .v (.int .u16 (s x y)))]), (100000000000000804, .cells [.slc 5 n2 (.fn fun x y => .v (.int .u16 (d x y)))]), (100000000000000800, .cells [.v (.int .i64 o)]), (100000000000000801, .cells [.v (.int .i64 k)]), (100000000000000802, .cells [.v (.int .u16 m)])]
def o_c1 : CV := .fn 26 [(100000000000000800, 0), (100000000000000801, 0), (100000000000000802, 0), (100000000000000803, 0), (100000000000000804, 0)]
def o_c2 : CV := .fn 29 [(100000000000000804, 0), (100000000000000802, 0)]
def o_c3 : CV := .fn 31 [(100000000000000803, 0), (100000000000000804, 0), (100000000000000802, 0)]
def o_c4 : CV := .fn 33 [(100000000000000804, 0)]
def o_cR (o k m n n2 : Int) (s d : Int → Nat → Int) (i : Int) : List (Nat × Blk) := (100000000000000806, .cells [o_c4]) :: (100000000000000808, .cells [o_c1]) :: o_ls5 i (rcV o k m s d) :: o_cB o k m n n2 s d
def o_cO : QR.Oracle := QR.orc [(26, s_cex), (29, s_ckp), (31, s_ccv), (33, s_csm)]
noncomputable def o_cfg_ckp (o k m n n2 : Int) (s d : Int → Nat → Int) : QR.CfgK := o_cfg_row [o_inv_row5 n (fun _ => o_cB o k m n n2 s d) o_c2 o_c1 (rwG0 n) (rcV o k m s d), o_inv_row5 n (fun _ => o_cB o k m n n2 s d) o_c2 o_c2 (rwG1 n (rcI o k m s d)) (rcV o k m s d)] (fun _ => none) (o_pin_row5 n (o_cB o k m n n2 s d) o_c2 o_c1 (rcP (efV o k m n s) 1 n n2) (rcV o k m s d))
noncomputable def o_cfg_ccv (o k m n n2 : Int) (s d : Int → Nat → Int) : QR.CfgK := o_cfg_row [o_inv_row5 n (fun _ => o_cB o k m n n2 s d) o_c3 o_c1 (rwG0 n) (rcV o k m s d), o_inv_row5 n (fun _ => o_cB o k m n n2 s d) o_c3 o_c3 (rwG1 n (rcI o k m s d)) (rcV o k m s d)] (fun _ => none) (o_pin_row5 n (o_cB o k m n n2 s d) o_c3 o_c1 (rcP (efV o k m n s) 2 n n2) (rcV o k m s d))
noncomputable def o_cfg_crp (o k m n n2 : Int) (s d : Int → Nat → Int) : QR.CfgK := o_cfg_row [o_inv_row5 n (o_cR o k m n n2 s d) o_nx5 o_nx5 (rwG n (rcI o k m s d)) (rcV o k m s d)] (fun k => bif Nat.beq k 6 then some (o_inl_nx5 o_cO fun _ => none) else none) (o_pin_row5 n (o_cR o k m n n2 s d 0) o_nx5 o_nx5 (rcP (efV o k m n s) 3 n n2) (rcV o k m s d))
noncomputable def o_cfg_cal (o k m n n2 : Int) (s d : Int → Nat → Int) : QR.CfgK := o_cfg_row [o_inv_row5 n (fun _ => o_cB o k m n n2 s d) o_c1 o_c1 (rwG n (rcI o k m s d)) (rcV o k m s d)] (fun _ => none) (o_pin_row5 n (o_cB o k m n n2 s d) o_c1 o_c1 (rcP 0 0 n n2) (rcV o k m s d))
noncomputable def o_cfg_cm (o k m n n2 : Int) (s d : Int → Nat → Int) : QR.CfgK := ⟨QR.noLoops, fun _ => none, fun q => bif Nat.beq q 6 then some (o_inl_row5 4 o_cO (o_cfg_ckp o k m n n2 s d)) else bif Nat.beq q 8 then some (o_inl_row5 4 o_cO (o_cfg_ccv o k m n n2 s d)) else bif Nat.beq q 10 then some (o_inl_runs5 4 o_cO (o_cfg_crp o k m n n2 s d)) else bif Nat.beq q 11 then some (o_inl_row5 4 o_cO (o_cfg_cal o k m n n2 s d)) else none, fun _ => none, 500⟩
def o_cm : QR.Oracle := QR.orc [(27, s_eff)]
def o_gB (kn : Bool) (o k m n na nb : Int) (s a b : Int → Nat → Int) : List (Nat × Blk) := [(100000000000000804, .cells [.slc 5 n (.fn fun x y => .v (.int .u16 (s x y)))]), (100000000000000809, .cells [.slc 6 na (.fn fun x y => .v (.int .u16 (a x y)))]), (100000000000000810, .cells [.slc 5 nb (.fn fun x y => .v (.int .u16 (b x y)))]), (100000000000000800, .cells [.v (.bool kn)]), (100000000000000801, .cells [.v (.int .i64 o)]), (100000000000000802, .cells [.v (.int .i64 k)]), (100000000000000803, .cells [.v (.int .u16 m)])]
def o_g1 : CV := .fn 48 [(100000000000000800, 0), (100000000000000801, 0), (100000000000000802, 0), (100000000000000803, 0), (100000000000000804, 0), (100000000000000809, 0), (100000000000000810, 0)]
def o_g2 : CV := .fn 50 [(100000000000000809, 0), (100000000000000810, 0), (100000000000000803, 0)]
def o_g3 : CV := .fn 52 [(100000000000000804, 0), (100000000000000803, 0), (100000000000000809, 0), (100000000000000810, 0)]
def o_g4 : CV := .fn 54 [(100000000000000809, 0), (100000000000000810, 0)]
def o_gR (kn : Bool) (o k m n na nb : Int) (s a b : Int → Nat → Int) (i : Int) : List (Nat × Blk) := (100000000000000806, .cells [o_g4]) :: (100000000000000808, .cells [o_g1]) :: o_ls6 i (rgV kn o k m s a b) :: o_gB kn o k m n na nb s a b
def o_gO : QR.Oracle := QR.orc [(48, s_gex), (50, s_gkp), (52, s_gcv), (54, s_gsm)]
noncomputable def o_cfg_gkp (kn : Bool) (o k m n na nb : Int) (s a b : Int → Nat → Int) : QR.CfgK := o_cfg_row [o_inv_row6 n (fun _ => o_gB kn o k m n na nb s a b) o_g2 o_g1 (rwG0 n) (rgV kn o k m s a b), o_inv_row6 n (fun _ => o_gB kn o k m n na nb s a b) o_g2 o_g2 (rwG1 n (rgI kn o k m s a b)) (rgV kn o k m s a b)] (fun _ => none) (o_pin_row6 n (o_gB kn o k m n na nb s a b) o_g2 o_g1 (rgP (efV o k m n s) 1 n na nb) (rgV kn o k m s a b))
noncomputable def o_cfg_gcv (kn : Bool) (o k m n na nb : Int) (s a b : Int → Nat → Int) : QR.CfgK := o_cfg_row [o_inv_row6 n (fun _ => o_gB kn o k m n na nb s a b) o_g3 o_g1 (rwG0 n) (rgV kn o k m s a b), o_inv_row6 n (fun _ => o_gB kn o k m n na nb s a b) o_g3 o_g3 (rwG1 n (rgI kn o k m s a b)) (rgV kn o k m s a b)] (fun _ => none) (o_pin_row6 n (o_gB kn o k m n na nb s a b) o_g3 o_g1 (rgP (efV o k m n s) 2 n na nb) (rgV kn o k m s a b))
noncomputable def o_cfg_grp (kn : Bool) (o k m n na nb : Int) (s a b : Int → Nat → Int) : QR.CfgK := o_cfg_row [o_inv_row6 n (o_gR kn o k m n na nb s a b) o_nx6 o_nx6 (rwG n (rgI kn o k m s a b)) (rgV kn o k m s a b)] (fun k => bif Nat.beq k 6 then some (o_inl_nx6 o_gO fun _ => none) else none) (o_pin_row6 n (o_gR kn o k m n na nb s a b 0) o_nx6 o_nx6 (rgP (efV o k m n s) 3 n na nb) (rgV kn o k m s a b))
noncomputable def o_cfg_gal (kn : Bool) (o k m n na nb : Int) (s a b : Int → Nat → Int) : QR.CfgK := o_cfg_row [o_inv_row6 n (fun _ => o_gB kn o k m n na nb s a b) o_g1 o_g1 (rwG n (rgI kn o k m s a b)) (rgV kn o k m s a b)] (fun _ => none) (o_pin_row6 n (o_gB kn o k m n na nb s a b) o_g1 o_g1 (rgP 0 0 n na nb) (rgV kn o k m s a b))
noncomputable def o_cfg_gs (kn : Bool) (o k m n na nb : Int) (s a b : Int → Nat → Int) : QR.CfgK := ⟨QR.noLoops, fun _ => none, fun q => bif Nat.beq q 6 then some (o_inl_row6 4 o_gO (o_cfg_gkp kn o k m n na nb s a b)) else bif Nat.beq q 8 then some (o_inl_row6 4 o_gO (o_cfg_gcv kn o k m n na nb s a b)) else bif Nat.beq q 10 then some (o_inl_runs6 4 o_gO (o_cfg_grp kn o k m n na nb s a b)) else bif Nat.beq q 11 then some (o_inl_row6 4 o_gO (o_cfg_gal kn o k m n na nb s a b)) else none, fun _ => none, 500⟩
def o_rB (m n nb : Int) (a b : Int → Nat → Int) : List (Nat × Blk) := [(100000000000000800, .cells [.slc 6 n (.fn fun x y => .v (.int .u16 (a x y)))]), (100000000000000801, .cells [.slc 5 nb (.fn fun x y => .v (.int .u16 (b x y)))]), (100000000000000802, .cells [.v (.int .u16 m)])]
def o_r1 : CV := .fn 55 [(100000000000000800, 0), (100000000000000801, 0), (100000000000000802, 0)]
def o_r2 : CV := .fn 56 [(100000000000000800, 0), (100000000000000801, 0), (100000000000000802, 0)]
def o_r3 : CV := .fn 58 [(100000000000000800, 0)]
def o_rR (m n nb : Int) (a b : Int → Nat → Int) (i : Int) : List (Nat × Blk) := (100000000000000806, .cells [o_r3]) :: (100000000000000808, .cells [o_r1]) :: o_ls5 i (rrV m a b) :: o_rB m n nb a b
def o_rO : QR.Oracle := QR.orc [(55, s_rex), (56, s_ral), (58, s_rsm)]
noncomputable def o_cfg_ral (m n nb : Int) (a b : Int → Nat → Int) : QR.CfgK := o_cfg_row [o_inv_row5 n (fun _ => o_rB m n nb a b) o_r2 o_r1 (rwG0 n) (rrV m a b), o_inv_row5 n (fun _ => o_rB m n nb a b) o_r2 o_r2 (rwG1 n (rrI m a b)) (rrV m a b)] (fun _ => none) (o_pin_row5 n (o_rB m n nb a b) o_r2 o_r1 (rcP (clsV nb b m) 1 n nb) (rrV m a b))
noncomputable def o_cfg_rrp (m n nb : Int) (a b : Int → Nat → Int) : QR.CfgK := o_cfg_row [o_inv_row5 n (o_rR m n nb a b) o_nx5 o_nx5 (rwG n (rrI m a b)) (rrV m a b)] (fun k => bif Nat.beq k 6 then some (o_inl_nx5 o_rO fun _ => none) else none) (o_pin_row5 n (o_rR m n nb a b 0) o_nx5 o_nx5 (rcP (clsV nb b m) 2 n nb) (rrV m a b))
noncomputable def o_cfg_rall (m n nb : Int) (a b : Int → Nat → Int) : QR.CfgK := o_cfg_row [o_inv_row5 n (fun _ => o_rB m n nb a b) o_r1 o_r1 (rwG n (rrI m a b)) (rrV m a b)] (fun _ => none) (o_pin_row5 n (o_rB m n nb a b) o_r1 o_r1 (rcP 0 0 n nb) (rrV m a b))
noncomputable def o_cfg_rs (m n nb : Int) (a b : Int → Nat → Int) : QR.CfgK := ⟨QR.noLoops, fun _ => none, fun q => bif Nat.beq q 6 then some (o_inl_row5 4 o_rO (o_cfg_ral m n nb a b)) else bif Nat.beq q 8 then some (o_inl_runs5 4 o_rO (o_cfg_rrp m n nb a b)) else bif Nat.beq q 9 then some (o_inl_row5 4 o_rO (o_cfg_rall m n nb a b)) else none, fun _ => none, 500⟩
def o_rsO : QR.Oracle := QR.orc [(34, s_scls)]
end Go.Proofs.YtpjhdjakpbabhaaGreatDoor
