import Derived.Test.YthkidembkknoeaaDoorPk11
import Derived.Test.YthkidembkknoeaaDoorPk23
import Derived.Test.YthkidembkknoeaaDoorPk15
import Derived.Test.YthkidembkknoeaaDoorPk17
import Derived.Test.YthkidembkknoeaaDoorPk14
namespace Go.Proofs.YthkidembkknoeaaDoor
open Go.RowKit PR QR
set_option linter.unusedVariables false
set_option linter.unusedSimpArgs false
def scR (b x0 y0 x1 y1 tw th n:Int) (r:QR.Row):Sc:=⟨b,x0,y0,x1,y1,tw,th,0,fun _=>0,0,imAt (.zer []),n,ovAt r⟩
noncomputable def chRE (b x0 y0 x1 y1 tw th n:Int) (r:QR.Row):Int:=chE (scR b x0 y0 x1 y1 tw th n r)
noncomputable def chRN (b x0 y0 x1 y1 tw th n:Int) (r:QR.Row):Int:=chN (scR b x0 y0 x1 y1 tw th n r)
noncomputable def ckRE (b x0 y0 x1 y1 tw th n:Int) (r:QR.Row):Int:=chkE (scR b x0 y0 x1 y1 tw th n r)
noncomputable def ckRN (b x0 y0 x1 y1 tw th n:Int) (r:QR.Row):Int:=chkN (scR b x0 y0 x1 y1 tw th n r)
noncomputable def vn7:List AV→Option QR.Ans
  | [.x (.agg [.v (.int .i64 b),.v (.int .i64 x0),.v (.int .i64 y0),.v (.int .i64 x1),.v (.int .i64 y1),.v (.int .i64 tw),.v (.int .i64 th),.v (.slice none 0 0),.v (.slice none 0 0),pc])]=>match jf4 12 pc with
    | some (n,r)=>some ⟨[.c (.v (.int .i64 (chRE b x0 y0 x1 y1 tw th n r))),.c (.v (.int .i64 (chRN b x0 y0 x1 y1 tw th n r)))],[],[ja8 n r,ile 0 n=true]⟩
    | none=>none
  | _=>none
noncomputable def q53:List AV→Option QR.Ans
  | [.x (.agg [.v (.int .i64 b),.v (.int .i64 x0),.v (.int .i64 y0),.v (.int .i64 x1),.v (.int .i64 y1),.v (.int .i64 tw),.v (.int .i64 th),.v (.slice none 0 0),.v (.slice none 0 0),pc])]=>match jf4 12 pc with
    | some (n,r)=>some ⟨[.c (.v (.int .i64 (ckRE b x0 y0 x1 y1 tw th n r))),.c (.v (.int .i64 (ckRN b x0 y0 x1 y1 tw th n r)))],[],[ja8 n r,ile 0 n=true]⟩
    | none=>none
  | _=>none
def jn7:List AV→Option QR.Ans
  | []=>some ⟨[.c (.v (.bool true))],[],[]⟩
  | _=>none
noncomputable def yc3:QR.ja7:=QR.orc [(12,vn7),(13,q53)]
def zz951:QR.Row:=(QR.Row.upd (QR.Row.upd (QR.Row.upd (QR.Row.upd (QR.Row.upd (QR.Row.upd (QR.Row.upd (QR.Row.upd (QR.Row.upd (QR.Row.upd (QR.Row.upd (QR.Row.upd (QR.Row.zer [Value.int .i64 0,Value.int .i64 0,Value.int .i64 0,Value.int .i64 0,Value.int .i64 0,Value.int .i64 0,Value.int .i64 0,Value.int .u16 0,Value.int .i64 0,Value.int .i64 0,Value.bool false,Value.bool false]) 0 0 (CV.v (Value.int .i64 3))) 0 1 (CV.v (Value.int .i64 0))) 0 2 (CV.v (Value.int .i64 0))) 0 3 (CV.v (Value.int .i64 0))) 0 4 (CV.v (Value.int .i64 0))) 0 5 (CV.v (Value.int .i64 0))) 0 6 (CV.v (Value.int .i64 0))) 0 7 (CV.v (Value.int .u16 0))) 0 8 (CV.v (Value.int .i64 0))) 0 9 (CV.v (Value.int .i64 0))) 0 10 (CV.v (Value.bool false))) 0 11 (CV.v (Value.bool false)))
def zz952:QR.Row:=(QR.Row.upd (QR.Row.upd (QR.Row.upd (QR.Row.upd (QR.Row.upd (QR.Row.upd (QR.Row.upd (QR.Row.upd (QR.Row.upd (QR.Row.upd (QR.Row.upd (QR.Row.upd (QR.Row.zer [Value.int .i64 0,Value.int .i64 0,Value.int .i64 0,Value.int .i64 0,Value.int .i64 0,Value.int .i64 0,Value.int .i64 0,Value.int .u16 0,Value.int .i64 0,Value.int .i64 0,Value.bool false,Value.bool false]) 0 0 (CV.v (Value.int .i64 2))) 0 1 (CV.v (Value.int .i64 0))) 0 2 (CV.v (Value.int .i64 0))) 0 3 (CV.v (Value.int .i64 0))) 0 4 (CV.v (Value.int .i64 0))) 0 5 (CV.v (Value.int .i64 0))) 0 6 (CV.v (Value.int .i64 0))) 0 7 (CV.v (Value.int .u16 0))) 0 8 (CV.v (Value.int .i64 4))) 0 9 (CV.v (Value.int .i64 1))) 0 10 (CV.v (Value.bool false))) 0 11 (CV.v (Value.bool false)))
set_option maxRecDepth 100000 in
theorem vs9 (V:List QR.XV→List (List QR.CV)→Prop):QR.ja5 Tryd.prog (yc3) (QR.ja4) (Tryd.f14.body.getD .skip) Tryd.f14.results.toList Tryd.f14.ntmps [] V=(True∧True∧∀(i:Int),i=chRE 8 0 0 1 1 1 1 0 (QR.Row.zer [])→∀(i_1:Int),i_1=chRN 8 0 0 1 1 1 1 0 (QR.Row.zer [])→(ja8 0 (QR.Row.zer [])∧true=true∧True)∧True∧∀(i_2:Int),i_2=chRE 8 0 0 1 1 1 1 1 zz951→∀(i_3:Int),i_3=chRN 8 0 0 1 1 1 1 1 zz951→(ja8 1 zz951∧true=true∧True)∧True∧∀(i_4:Int),i_4=ckRE 8 0 0 1 1 1 1 1 zz952→∀(i_5:Int),i_5=ckRN 8 0 0 1 1 1 1 1 zz952→(ja8 1 zz952∧true=true∧True)∧ja0 (ieq i 0) (ja0 (ieq i_2 18) (ja0 (ieq i_3 0) (ja0 (ieq i_4 18) (True∧True∧V [XV.c (CV.v (Value.bool (ieq i_5 1)))] []) (True∧True∧V [XV.c (CV.v (Value.bool false))] [])) (True∧True∧V [XV.c (CV.v (Value.bool false))] [])) (True∧True∧V [XV.c (CV.v (Value.bool false))] [])) (True∧True∧V [XV.c (CV.v (Value.bool false))] [])):=by
  delta zz951 zz952
  try delta yc3
  try delta vn7
  try delta q53
  generalize @chRE=chRE
  generalize @chRN=chRN
  generalize @ckRE=ckRE
  generalize @ckRN=ckRN
  generalize @ja8=ja8
  kernel_rfl
noncomputable def q54:QR.ja7:=QR.orc [(20,QR.jx6 jj8),(15,qi9),(14,jn7)]
set_option maxRecDepth 100000 in
theorem jr1 (w x y:Int) (V:List QR.XV→List (List QR.CV)→Prop):QR.ja5 Tryd.prog (q54) (QR.ja4) (Tryd.f9.body.getD .skip) Tryd.f9.results.toList Tryd.f9.ntmps [.x (.c (.v (.int .i64 w))),.x (.c (.v (.int .i64 x))),.x (.c (.v (.int .i64 y)))] V=(True∧∀(i:Int),i=gmod w 4096→(jb8 4096=true∧True)∧True∧(ine (iadd IntKind.i64 1 i) 0=true∧True)∧True∧True∧∀(i_1:Int),i_1=frV { b:=8,x0:=0,y0:=0,x1:=iadd IntKind.i64 1 i,y1:=iadd IntKind.i64 (iquo IntKind.i64 16777216 (iadd IntKind.i64 1 i)) 1,tw:=iadd IntKind.i64 1 i,th:=iquo IntKind.i64 16777216 (iadd IntKind.i64 1 i),on:=0,ol:=fun (i:Int)=>0,mn:=0,ml:=fun (i:Int)=>{ w:=0,h:=0,sol:=false,c0:=0,c1:=0,c2:=0,a:=0,f:=0,p0:={ w:=0,h:=0,s:=0,n:=0,l:=fun (a:Int)=>0 },p1:={ w:=0,h:=0,s:=0,n:=0,l:=fun (a:Int)=>0 },p2:={ w:=0,h:=0,s:=0,n:=0,l:=fun (a:Int)=>0 },p3:={ w:=0,h:=0,s:=0,n:=0,l:=fun (a:Int)=>0 },p4:={ w:=0,h:=0,s:=0,n:=0,l:=fun (a:Int)=>0 } },pn:=0,pl:=fun (i:Int)=>{ kd:=0,im:=0,x:=0,y:=0,msk:=0,mx:=0,my:=0,op:=0,opr:=0,md:=0,iso:=false,kno:=false } }→(intRow IntKind.i64 1 0 (QR.Row.zer [])∧jc5 0 (QR.Row.zer [])∧ja8 0 (QR.Row.zer [])∧true=true∧true=true∧true=true∧True)∧True∧∀(i_2:Int),i_2=frV { b:=8,x0:=0,y0:=0,x1:=iadd IntKind.i64 1 i,y1:=iquo IntKind.i64 16777216 (iadd IntKind.i64 1 i),tw:=iadd IntKind.i64 1 i,th:=iquo IntKind.i64 16777216 (iadd IntKind.i64 1 i),on:=0,ol:=fun (i:Int)=>0,mn:=0,ml:=fun (i:Int)=>{ w:=0,h:=0,sol:=false,c0:=0,c1:=0,c2:=0,a:=0,f:=0,p0:={ w:=0,h:=0,s:=0,n:=0,l:=fun (a:Int)=>0 },p1:={ w:=0,h:=0,s:=0,n:=0,l:=fun (a:Int)=>0 },p2:={ w:=0,h:=0,s:=0,n:=0,l:=fun (a:Int)=>0 },p3:={ w:=0,h:=0,s:=0,n:=0,l:=fun (a:Int)=>0 },p4:={ w:=0,h:=0,s:=0,n:=0,l:=fun (a:Int)=>0 } },pn:=0,pl:=fun (i:Int)=>{ kd:=0,im:=0,x:=0,y:=0,msk:=0,mx:=0,my:=0,op:=0,opr:=0,md:=0,iso:=false,kno:=false } }→(intRow IntKind.i64 1 0 (QR.Row.zer [])∧jc5 0 (QR.Row.zer [])∧ja8 0 (QR.Row.zer [])∧true=true∧true=true∧true=true∧True)∧∀(i:Int),i=gmod x 3→∀(i_3:Int),i_3=gmod y 3→(jb8 3=true∧jb8 3=true∧True)∧True∧True∧∀(i_4:Int),i_4=frV { b:=8,x0:=isub IntKind.i64 (iadd IntKind.i64 1048576 i) 1,y0:=isub IntKind.i64 (iadd IntKind.i64 (-1048576) i_3) 1,x1:=iadd IntKind.i64 (isub IntKind.i64 (iadd IntKind.i64 1048576 i) 1) 2,y1:=iadd IntKind.i64 (isub IntKind.i64 (iadd IntKind.i64 (-1048576) i_3) 1) 2,tw:=2,th:=2,on:=0,ol:=fun (i:Int)=>0,mn:=0,ml:=fun (i:Int)=>{ w:=0,h:=0,sol:=false,c0:=0,c1:=0,c2:=0,a:=0,f:=0,p0:={ w:=0,h:=0,s:=0,n:=0,l:=fun (a:Int)=>0 },p1:={ w:=0,h:=0,s:=0,n:=0,l:=fun (a:Int)=>0 },p2:={ w:=0,h:=0,s:=0,n:=0,l:=fun (a:Int)=>0 },p3:={ w:=0,h:=0,s:=0,n:=0,l:=fun (a:Int)=>0 },p4:={ w:=0,h:=0,s:=0,n:=0,l:=fun (a:Int)=>0 } },pn:=0,pl:=fun (i:Int)=>{ kd:=0,im:=0,x:=0,y:=0,msk:=0,mx:=0,my:=0,op:=0,opr:=0,md:=0,iso:=false,kno:=false } }→(intRow IntKind.i64 1 0 (QR.Row.zer [])∧jc5 0 (QR.Row.zer [])∧ja8 0 (QR.Row.zer [])∧true=true∧true=true∧true=true∧True)∧ja0 (ieq i_1 2) (ja0 (ieq i_2 0) (ja0 (ile (isub IntKind.i64 (iadd IntKind.i64 1048576 i) 1) 1048576) (ja0 (beq' (ieq i_4 0) (ige (isub IntKind.i64 (iadd IntKind.i64 (-1048576) i_3) 1) (-1048576))) (ja0 (ieq i_4 0) (True∧True∧V [XV.c (CV.v (Value.bool true))] []) (True∧True∧V [XV.c (CV.v (Value.bool (ieq i_4 2)))] [])) (True∧True∧V [XV.c (CV.v (Value.bool false))] [])) (ja0 (beq' (ieq i_4 0) false) (ja0 (ieq i_4 0) (True∧True∧V [XV.c (CV.v (Value.bool true))] []) (True∧True∧V [XV.c (CV.v (Value.bool (ieq i_4 2)))] [])) (True∧True∧V [XV.c (CV.v (Value.bool false))] []))) (True∧True∧V [XV.c (CV.v (Value.bool false))] [])) (True∧True∧V [XV.c (CV.v (Value.bool false))] [])):=by
  try delta q54
  try delta jj8
  try delta qi9
  try delta jn7
  try delta ji1
  generalize @frV=frV
  generalize @gmod=gmod
  generalize @jc5=jc5
  generalize @intRow=intRow
  generalize @jb8=jb8
  generalize @ja8=ja8
  kernel_rfl
end Go.Proofs.YthkidembkknoeaaDoor
namespace Go.Proofs.YthkidembkknoeaaDoor
open Go.RowKit PR QR
set_option linter.unusedVariables false
set_option linter.unusedSimpArgs false
set_option maxRecDepth 20000
theorem yq9 {b x0 y0 x1 y1 tw th n:Int} {pc:CV} {r:QR.Row} (e:jf4 12 pc=some (n,r)) (hr:ja8 n r):eqCs [.v (.int .i64 b),.v (.int .i64 x0),.v (.int .i64 y0),.v (.int .i64 x1),.v (.int .i64 y1),.v (.int .i64 tw),.v (.int .i64 th),.v (.slice none 0 0),.v (.slice none 0 0),pc] (ji8 (scR b x0 y0 x1 y1 tw th n r)) :=
  ⟨.v _,.v _,.v _,.v _,.v _,.v _,.v _,.nil (by decide) rfl,.nil (by decide) rfl,jl1 e (by decide) hr,trivial⟩
theorem y92:ja6 12 vn7:=by
  intro al ans h hq
  unfold vn7 at h
  split at h <;> try (simp at h;done)
  rename_i b x0 y0 x1 y1 tw th pc
  cases e:jf4 12 pc with
  | none=>simp [e] at h
  | some p =>
    obtain ⟨n,r⟩:=p
    simp only [e,Option.some.injEq] at h
    subst h
    obtain ⟨hr,h0,_⟩:=asked hq
    refine jd4 (al':=[.x (.agg (ji8 (scR b x0 y0 x1 y1 tw th n r)))]) ⟨yq9 e hr,trivial⟩ (qr7 _ (Int.le_refl 0) (Int.le_refl 0) (je6 h0) (fun i hi=>?_) _)
    have hi:(i:Int) < 0:=hi
    omega
theorem yz9:ja6 13 q53:=by
  intro al ans h hq
  unfold q53 at h
  split at h <;> try (simp at h;done)
  rename_i b x0 y0 x1 y1 tw th pc
  cases e:jf4 12 pc with
  | none=>simp [e] at h
  | some p =>
    obtain ⟨n,r⟩:=p
    simp only [e,Option.some.injEq] at h
    subst h
    obtain ⟨hr,h0,_⟩:=asked hq
    exact jd4 (al':=[.x (.agg (ji8 (scR b x0 y0 x1 y1 tw th n r)))]) ⟨yq9 e hr,trivial⟩ (qx3 _ (Int.le_refl 0) (Int.le_refl 0) (je6 h0) _)
theorem vn8 (n:Int) (r:QR.Row) (h:n≤4096):frV (scR 8 0 0 1 1 1 1 n r)=0:=by
  have a:smOk 8=true:=by decide
  have b:plcB 0 0 1 1=true:=by decide
  have c:tiB 0 0 1 1 1 1=true:=by decide
  show (bif smOk 8 then bif plcB 0 0 1 1 then bif tiB 0 0 1 1 1 1 then bif ordB 0 _ _ then bif ile 0 64 && ile n 4096 then 0 else 5 else 4 else 3 else 2 else 1)=_
  rw [a,b,c,jb1 h];rfl
theorem jv7:ja6 14 jn7:=by
  intro al ans h hq
  unfold jn7 at h
  split at h <;> try (simp at h;done)
  skip
  simp only [Option.some.injEq] at h
  subst h
  have hq:=asked hq
  refine QR.ja2 (O:=yc3) (QR.ja3 y92 (QR.ja3 yz9 QR.jb4)) mixed (QR.ja4) Tryd.func14 (by kernel_rfl) (by kernel_rfl) (by simp) ?_
  rw [vs9]
  delta zz951 zz952
  simp only [forall_eq,true_and,and_true,ja1]
  have c0:chRE 8 0 0 1 1 1 1 0 (.zer [])=0:=by unfold chRE chE chP;rw [vn8 _ _ (by decide)];rfl
  generalize hP:QR.Row.upd (QR.Row.upd (QR.Row.upd (QR.Row.upd (QR.Row.upd (QR.Row.upd (QR.Row.upd (QR.Row.upd (QR.Row.upd (QR.Row.upd (QR.Row.upd (QR.Row.upd (QR.Row.zer [Value.int .i64 0,Value.int .i64 0,Value.int .i64 0,Value.int .i64 0,Value.int .i64 0,Value.int .i64 0,Value.int .i64 0,Value.int .u16 0,Value.int .i64 0,Value.int .i64 0,Value.bool false,Value.bool false]) 0 0 (CV.v (Value.int .i64 3))) 0 1 (CV.v (Value.int .i64 0))) 0 2 (CV.v (Value.int .i64 0))) 0 3 (CV.v (Value.int .i64 0))) 0 4 (CV.v (Value.int .i64 0))) 0 5 (CV.v (Value.int .i64 0))) 0 6 (CV.v (Value.int .i64 0))) 0 7 (CV.v (Value.int .u16 0))) 0 8 (CV.v (Value.int .i64 0))) 0 9 (CV.v (Value.int .i64 0))) 0 10 (CV.v (Value.bool false))) 0 11 (CV.v (Value.bool false))=P
  generalize hQ:QR.Row.upd (QR.Row.upd (QR.Row.upd (QR.Row.upd (QR.Row.upd (QR.Row.upd (QR.Row.upd (QR.Row.upd (QR.Row.upd (QR.Row.upd (QR.Row.upd (QR.Row.upd (QR.Row.zer [Value.int .i64 0,Value.int .i64 0,Value.int .i64 0,Value.int .i64 0,Value.int .i64 0,Value.int .i64 0,Value.int .i64 0,Value.int .u16 0,Value.int .i64 0,Value.int .i64 0,Value.bool false,Value.bool false]) 0 0 (CV.v (Value.int .i64 2))) 0 1 (CV.v (Value.int .i64 0))) 0 2 (CV.v (Value.int .i64 0))) 0 3 (CV.v (Value.int .i64 0))) 0 4 (CV.v (Value.int .i64 0))) 0 5 (CV.v (Value.int .i64 0))) 0 6 (CV.v (Value.int .i64 0))) 0 7 (CV.v (Value.int .u16 0))) 0 8 (CV.v (Value.int .i64 4))) 0 9 (CV.v (Value.int .i64 1))) 0 10 (CV.v (Value.bool false))) 0 11 (CV.v (Value.bool false))=Q
  have oP:ovAt P 0=⟨3,0,0,0,0,0,0,0,0,0,false,false⟩:=by subst hP;rfl
  have oQ:ovAt Q 0=⟨2,0,0,0,0,0,0,0,4,1,false,false⟩:=by subst hQ;rfl
  have rP:ja8 1 P:=fun i j hi hj=>by
    obtain rfl:i=0:=by omega
    subst hP
    match j,hj with
    | 0,_ | 1,_ | 2,_ | 3,_ | 4,_ | 5,_ | 6,_ | 7,_ | 8,_ | 9,_ | 10,_ | 11,_=>exact .v _
    | n + 12,h=>omega
  have rQ:ja8 1 Q:=fun i j hi hj=>by
    obtain rfl:i=0:=by omega
    subst hQ
    match j,hj with
    | 0,_ | 1,_ | 2,_ | 3,_ | 4,_ | 5,_ | 6,_ | 7,_ | 8,_ | 9,_ | 10,_ | 11,_=>exact .v _
    | n + 12,h=>omega
  clear hP hQ
  have vP:vopI (scR 8 0 0 1 1 1 1 1 P) 0=18:=by
    show opE 8 0 (ovAt P 0) 0 _=18
    rw [oP];rfl
  have vQ:vopI (scR 8 0 0 1 1 1 1 1 Q) 0=0:=by
    show opE 8 0 (ovAt Q 0) 0 _=0
    rw [oQ];rfl
  have pP:=vj2 (scR 8 0 0 1 1 1 1 1 P) (Int.le_refl 0) (show (0:Int) < 1 by decide) rfl (by rw [vP];decide)
  have nQ:vsE (scR 8 0 0 1 1 1 1 1 Q) 1=none:=(yl3 (scR 8 0 0 1 1 1 1 1 Q) (Int.le_refl 0) rfl).trans (by rw [vQ];rfl)
  have pQ:=q52 (scR 8 0 0 1 1 1 1 1 Q) nQ
  have sQ:stkI (scR 8 0 0 1 1 1 1 1 Q) 1=[ovAt Q 0]:=(yq7 (scR 8 0 0 1 1 1 1 1 Q) (Int.le_refl 0)).trans (by
    show (bif ieq (ovAt Q 0).kd 2 then [] ++ [ovAt Q 0] else _)=_
    rw [oQ];rfl)
  rw [show (scR 8 0 0 1 1 1 1 1 Q).pn=1 from rfl,sQ] at pQ
  have c1:chP (scR 8 0 0 1 1 1 1 1 P)=(18,0):=by unfold chP;rw [vn8 _ _ (by decide),show qr6 (scR 8 0 0 1 1 1 1 1 P) (scR 8 0 0 1 1 1 1 1 P).mn.toNat=none from rfl,pP,vP];rfl
  have c2:chRE 8 0 0 1 1 1 1 1 P=18:=congrArg Prod.fst c1
  have c3:chRN 8 0 0 1 1 1 1 1 P=0:=congrArg Prod.snd c1
  have c4:ckRE 8 0 0 1 1 1 1 1 Q=18:=by unfold ckRE chkE qe0;rw [vn8 _ _ (by decide),pQ];rfl
  have c5:ckRN 8 0 0 1 1 1 1 1 Q=1:=by unfold ckRN chkN qe1;rw [vn8 _ _ (by decide),pQ];rfl
  simp only [c0,c2,c3,c4,c5,show ieq (0:Int) 0=true from rfl,show ieq (18:Int) 18=true from rfl,show ieq (1:Int) 1=true from rfl]
  refine ⟨fun i j hi _=>by omega,rP,rQ,?_⟩
  simp [jb5,eqXs,eqX,eqo,eqLo,eqc,veq,eqUs]
theorem y00 {s:Sc} (h0:s.on=0) (h1:s.mn=0) (h2:s.pn=0) (hb:s.b=8):frV s=bif plcB s.x0 s.y0 s.x1 s.y1 then bif tiB s.x0 s.y0 s.x1 s.y1 s.tw s.th then 0 else 3 else 2:=by
  unfold frV ordB
  rw [h0,h1,h2,hb,show smOk 8=true by decide]
  cases plcB s.x0 s.y0 s.x1 s.y1 <;> cases tiB s.x0 s.y0 s.x1 s.y1 s.tw s.th <;> rfl
theorem ze7 (x0 y0 x1 y1 tw th:Int) (ol:Int→Int) (ml:Int→Im) (pl:Int→Ov):frV ⟨8,x0,y0,x1,y1,tw,th,0,ol,0,ml,0,pl⟩=bif plcB x0 y0 x1 y1 then bif tiB x0 y0 x1 y1 tw th then 0 else 3 else 2:=y00 rfl rfl rfl rfl
theorem vn9 {a b c d:Int} (h:(F30 a∧F30 b∧F30 c∧F30 d)∧a < c∧b < d):reB a b c d=false:=re_f.2 h
theorem y94 {k:Int} (h:1≤k∧k≤4096):iquo .i64 16777216 k=16777216 / k∧4096≤16777216 / k∧16777216 / k≤16777216∧k * (16777216 / k)≤16777216∧16777216 < k * (16777216 / k + 1):=by
  have e:=Int.mul_ediv_add_emod 16777216 k
  have m0:=Int.emod_nonneg 16777216 (show k≠0 by omega)
  have m1:=Int.emod_lt_of_pos 16777216 (show 0 < k by omega)
  have a:4096≤16777216 / k:=by
    rw [Int.le_ediv_iff_mul_le (by omega)];omega
  have b:16777216 / k≤16777216:=Int.ediv_le_self _ (by omega)
  refine ⟨ve1 (by omega) (by omega) (by omega),a,b,by omega,?_⟩
  rw [Int.mul_add];omega
set_option linter.unusedVariables false in
theorem jo3 (n x y:Int) (w0:(Lit.int .i64 n).wf=true) (w1:(Lit.int .i64 x).wf=true) (w2:(Lit.int .i64 y).wf=true) (w:World) {F:Nat→Prop} (hG:QR.Laid F w) (hF:∀k,F k→k < w.heap.size) :
    Calls Tryd.prog 9 #[.int .i64 n,.int .i64 x,.int .i64 y] w fun e w'=>e=.returned (.bool true)∧Below w.heap.size w w':=by
  refine vh7 (O:=q54) (QR.ja3 (up qb4) (QR.ja3 yb1 (QR.ja3 jv7 QR.jb4))) mixed (QR.ja4) Tryd.func9 (by kernel_rfl) (vs:=[.int .i64 n,.int .i64 x,.int .i64 y]) (xs:=[.c (.v (.int .i64 n)),.c (.v (.int .i64 x)),.c (.v (.int .i64 y))]) (args:=[.x (.c (.v (.int .i64 n))),.x (.c (.v (.int .i64 x))),.x (.c (.v (.int .i64 y)))]) rfl rfl (by simp) ?_ w hG hF
  rw [jr1]
  have V:∀b,b=true→jb5 ⟨[.c (.v (.bool true))],[],[]⟩ [.c (.v (.bool b))] []:=fun b e=>by subst e;simp [jb5,eqXs,eqX,eqo,eqLo,eqc,veq,eqUs]
  have VF:∀{P:Prop},False→P:=fun h=>h.elim
  generalize jb5 ⟨[.c (.v (.bool true))],[],[]⟩=G at *
  have g0:=jc2 n (k:=4096) (by decide)
  have g1:=jc2 x (k:=3) (by decide)
  have g2:=jc2 y (k:=3) (by decide)
  simp only [forall_eq,true_and,and_true,ja1,ze7]
  have ea:iadd .i64 1 (gmod n 4096)=1 + gmod n 4096:=IntWalk.i64_in _ (by omega)
  rw [ea]
  have k0:1≤1 + gmod n 4096∧1 + gmod n 4096≤4096:=by omega
  generalize 1 + gmod n 4096=k at *
  obtain ⟨eq,h0,h1,h2,h3⟩:=y94 k0
  rw [eq]
  generalize (16777216:Int) / k=h at *
  have e1:iadd .i64 h 1=h + 1:=IntWalk.i64_in _ (by omega)
  have e2:isub .i64 (iadd .i64 1048576 (gmod x 3)) 1=1048575 + gmod x 3:=by
    have:iadd .i64 1048576 (gmod x 3)=1048576 + gmod x 3:=IntWalk.i64_in _ (by omega)
    rw [this]
    exact (IntWalk.i64_in _ (by omega)).trans (by omega)
  have e3:isub .i64 (iadd .i64 (-1048576) (gmod y 3)) 1=gmod y 3 - 1048577:=by
    have:iadd .i64 (-1048576) (gmod y 3)=-1048576 + gmod y 3:=IntWalk.i64_in _ (by omega)
    rw [this]
    exact (IntWalk.i64_in _ (by omega)).trans (by omega)
  rw [e2,e3,e1]
  have hu:1048575≤1048575 + gmod x 3∧1048575 + gmod x 3≤1048577:=by omega
  generalize 1048575 + gmod x 3=u at *
  have hv : -1048577≤gmod y 3 - 1048577∧gmod y 3 - 1048577≤-1048575:=by omega
  generalize gmod y 3 - 1048577=v at *
  have e4:iadd .i64 u 2=u + 2:=IntWalk.i64_in _ (by omega)
  have e5:iadd .i64 v 2=v + 2:=IntWalk.i64_in _ (by omega)
  rw [e4,e5]
  have n0:jg1 0=true:=by decide
  have r1:reB 0 0 k h=false:=vn9 ⟨⟨by unfold F30;omega,by unfold F30;omega,by unfold F30;omega,by unfold F30;omega⟩,by omega,by omega⟩
  have p1:plcB 0 0 k (h + 1)=false:=by
    unfold plcB
    rw [decide_eq_false (fun c=>by have:=c.2;rw [show k - 0=k by omega,show h + 1 - 0=h + 1 by omega] at this;omega)];rfl
  have p2:plcB 0 0 k h=true:=by
    unfold plcB
    rw [decide_eq_true (⟨r1,by rw [show k - 0=k by omega,show h - 0=h by omega];exact h2⟩:_∧_),n0];rfl
  have t2:tiB 0 0 k h k h=true:=decide_eq_true ⟨r1,by omega,by omega⟩
  have r3:reB u v (u + 2) (v + 2)=false:=vn9 ⟨⟨by unfold F30;omega,by unfold F30;omega,by unfold F30;omega,by unfold F30;omega⟩,by omega,by omega⟩
  have t3:tiB u v (u + 2) (v + 2) 2 2=true:=decide_eq_true ⟨r3,by omega,by omega⟩
  have p3:plcB u v (u + 2) (v + 2)=(ile u 1048576 && ige v (-1048576)):=by
    unfold plcB jg1
    rw [decide_eq_true (⟨r3,by rw [show u + 2 - u=2 by omega,show v + 2 - v=2 by omega];decide⟩:_∧_),Bool.true_and]
    rw [Bool.eq_iff_iff]
    simp only [Bool.and_eq_true,decide_eq_true_eq,ile,ige]
    omega
  simp only [p1,p2,t2,p3,t3,cond_true,cond_false]
  have w0:ine k 0=true:=vd7 (by omega)
  have mk:jb8 4096=true∧jb8 3=true:=⟨rfl,rfl⟩
  have ow:intRow .i64 1 0 (.zer [])∧jc5 0 (.zer [])∧ja8 0 (.zer []):=⟨fun i j hi _=>by omega,fun i j hi _=>by omega,fun i j hi _=>by omega⟩
  obtain ⟨o1,o2,o3⟩:=ow
  cases ile u 1048576 <;> cases ige v (-1048576) <;> simp [w0,mk,o1,o2,o3,ieq,V,beq']
end Go.Proofs.YthkidembkknoeaaDoor
namespace Go.Proofs.YthkidembkknoeaaDoor
open Go.RowKit PR QR
set_option linter.unusedVariables false
set_option linter.unusedSimpArgs false
set_option maxRecDepth 20000
theorem zb0 (l:Int→Nat→Int) {n:Int} (h0:0≤n):orI 0 l n n :=
  ⟨⟨h0,Int.le_refl n⟩,fun j j0 j1=>⟨by rw [vt1];omega,fun k _ hk=>by rw [vt1,vt1];omega⟩⟩
theorem y10 (m:Int) (l:Int→Nat→Int) {n:Int} (h0:0≤n) (h1:n≤64):orB (pmN m n) (fun i _=>pmO m l n n i) n=true:=by
  refine qg4.2 ⟨⟨h0,by omega⟩,?_⟩
  unfold pmN
  by_cases c:pmB m n=true
  · rw [if_pos c]
    by_cases z:n=0
    · subst z;exact ⟨Or.inl rfl,zb0 _ (Int.le_refl 0)⟩
    · exact ⟨Or.inr rfl,ym6 m l (by omega)⟩
  · rw [if_neg c]
    exact ⟨Or.inl rfl,zb0 _ h0⟩
end Go.Proofs.YthkidembkknoeaaDoor
