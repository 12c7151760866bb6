import Derived.Test.YthkidembkknoeaaDoorPk24
import Derived.Test.YthkidembkknoeaaDoorPk25
import Derived.Test.YthkidembkknoeaaDoorPk20
import Derived.Test.YthkidembkknoeaaDoorPk13
import Derived.Test.YthkidembkknoeaaDoorPk11
namespace Go.Proofs.YthkidembkknoeaaDoor
open Go.RowKit PR QR
set_option linter.unusedVariables false
set_option linter.unusedSimpArgs false
set_option maxRecDepth 20000
theorem y97:ja6 12 vo0:=by
  intro al ans h hq
  unfold vo0 at h
  split at h <;> try (simp at h;done)
  rename_i b x0 y0 x1 y1 tw th oc mc pc
  split at h <;> try (simp at h;done)
  rename_i on o mn m pn p e1 e2 e3
  simp only [Option.some.injEq] at h
  subst h
  obtain ⟨hg,h1,h2,h3,h4,h5,h6,_⟩:=asked hq
  exact jd4 (al':=[.x (.agg (ji8 (scB b x0 y0 x1 y1 tw th on o mn m pn p)))]) ⟨⟨.v _,.v _,.v _,.v _,.v _,.v _,.v _,qd9 e1 h1,jl1 e2 (by decide) h2,jl1 e3 (by decide) h3,trivial⟩,trivial⟩ (qr7 (scB b x0 y0 x1 y1 tw th on o mn m pn p) (je6 h4) (je6 h5) (je6 h6) hg _)
theorem yl6 (s:Sn) (h0:0≤s.m) (h1:0≤s.pn) (h2:0≤s.rn):scW (gscV s):=by
  have n:=qq7 s
  have tl:=vc6 s
  have M:=vh8 s
  have N:=vh9 h1
  have cv:=yq3 s
  obtain ⟨f1,f2,f3,f4,f5⟩:=vm5 h1 h2 (lenO (gstB s (gstE s)))
  have pN:0≤pmN s.m (gscA s)∧pmN s.m (gscA s)≤gscA s:=by unfold pmN;split <;> omega
  have p:1 * 1≤gscW s * gscH s:=Int.mul_le_mul n.2.2.1.1 n.2.2.2.1.1 (by omega) (by omega)
  have q:gscW s * gscH s≤5 * 4:=Int.mul_le_mul n.2.2.1.2 n.2.2.2.1.2 (by omega) (by omega)
  have r:reB (gscX s) (gscY s) (jd8 s) (jd9 s)=false:=re_f.2 ⟨⟨by unfold F30;omega,by unfold F30;omega,by unfold F30;omega,by unfold F30;omega⟩,by omega,by omega⟩
  have pl:plcB (gscX s) (gscY s) (jd8 s) (jd9 s)=true:=by
    unfold plcB jg1
    rw [decide_eq_true (show reB (gscX s) (gscY s) (jd8 s) (jd9 s)=false∧(jd8 s - gscX s) * (jd9 s - gscY s)≤16777216 from ⟨r,by rw [show jd8 s - gscX s=gscW s by omega,show jd9 s - gscY s=gscH s by omega];omega⟩),decide_eq_true (by omega),decide_eq_true (by omega)];rfl
  have ti:tiB (gscX s) (gscY s) (jd8 s) (jd9 s) (gscT s) (gscU s)=true:=decide_eq_true ⟨r,by omega,by omega⟩
  have sm:smOk (isel (igt (gscM s) 255) 16 8)=true∧smV (isel (igt (gscM s) 255) 16 8)=gscM s:=by
    rcases M.2 with e | e <;> rw [e] <;> exact ⟨by decide,by decide⟩
  refine ⟨⟨sm.1,pl,ti,?_⟩,?_,?_,fun i a b=>?_,?_⟩
  · show ordB (pmN s.m (gscA s)) (gscO s) (tiX (gscX s) (gscY s) (jd8 s) (jd9 s) (gscT s) (gscU s) * tiY (gscX s) (gscY s) (jd8 s) (jd9 s) (gscT s) (gscU s))=true
    have e:gscA s=tiX (gscX s) (gscY s) (jd8 s) (jd9 s) (gscT s) (gscU s) * tiY (gscX s) (gscY s) (jd8 s) (jd9 s) (gscT s) (gscU s):=(yb0 ti pl).2
    rw [← e,← y85 (by omega)]
    exact y10 s.m (fun a _=>s.ol a) (n:=gscA s) (by omega) (by omega)
  · show 0≤pmN s.m (gscA s)∧pmN s.m (gscA s)≤100;omega
  · show 1≤gscN s∧gscN s≤4;omega
  · show imG (gscQ s i)∧imE (gscQ s i) (smV (isel (igt (gscM s) 255) 16 8))=0
    rw [sm.2]
    unfold gscQ
    cases ieq s.pn 0
    · rw [cond_false]
      obtain ⟨g1,g2,g3,g4⟩:=yn9 (s.pq i).W (s.pq i).H (s.pq i).S (s.pq i).md (s.pq i).n (s.pq i).q M.1 cv
      exact ⟨g1.1,vp2 g1.2.1 g4⟩
    · rw [cond_true]
      have f:=jg6.2 (show 1≤gscW s∧1≤gscH s∧gscW s * gscH s≤16777216 from ⟨by omega,by omega,by omega⟩)
      have g:=vp1 (c1:=0) (c2:=0) f M.1 rfl rfl M.1 M.1
      refine ⟨g.1,vp2 g.2.1 ?_⟩
      rw [qe5 f rfl]
      have m0:=jk7.1 M.1
      exact qs5.2 ⟨Int.le_refl _,m0.1,m0.1,Int.le_refl _,Int.le_refl _⟩
  · show 0≤lenO (gstF s (lenO (gstB s (gstE s))))∧lenO (gstF s (lenO (gstB s (gstE s))))≤100
    have:=f2 f4
    omega
theorem fr_W {s:Sc} (h:scW s) (k:Int) (f:Int→Ov) (hk:k≤4096) (m:Int) (g:Int→Im) (hm:m≤64):frV ⟨s.b,s.x0,s.y0,s.x1,s.y1,s.tw,s.th,s.on,s.ol,m,g,k,f⟩=0:=by
  obtain ⟨⟨a,b,c,d⟩,_⟩:=h
  show (bif smOk s.b then bif plcB s.x0 s.y0 s.x1 s.y1 then bif tiB s.x0 s.y0 s.x1 s.y1 s.tw s.th then bif ordB s.on s.ol (tiX s.x0 s.y0 s.x1 s.y1 s.tw s.th * tiY s.x0 s.y0 s.x1 s.y1 s.tw s.th) then bif ile m 64 && ile k 4096 then 0 else 5 else 4 else 3 else 2 else 1)=_
  rw [a,b,c,d,jb1 hm,jb1 hk];rfl
end Go.Proofs.YthkidembkknoeaaDoor
namespace Go.Proofs.YthkidembkknoeaaDoor
open Go.RowKit PR QR
set_option linter.unusedVariables false
set_option linter.unusedSimpArgs false
set_option maxRecDepth 20000
theorem vo1 (n:Int) (f:Int→Rw):ji0 n (vc4 f):=fun i j hi hj=>by
  have hj':j=0∨j=1∨j=2∨j=3∨j=4∨j=5∨j=6∨j=7∨j=8∨j=9∨j=10:=by omega
  rcases hj' with rfl | rfl | rfl | rfl | rfl | rfl | rfl | rfl | rfl | rfl | rfl <;> exact .v _
theorem q64 (s:Sc):∀n:Nat,(∀i:Int,0≤i→i < n→vopI s i=0)→vsE s n=none
  | 0,_=>rfl
  | n + 1,h=>by
    have a:=q64 s n fun i a b=>h i a (by omega)
    have e:=yl3 s (i:=(n:Int)) (by omega) (by rw [Int.toNat_natCast];exact a)
    rw [show ((n:Int) + 1).toNat=n + 1 by omega,h n (by omega) (by omega)] at e
    exact e
theorem yr0 (b:Int):0≤smV b:=by unfold smV;split <;> (try split) <;> omega
theorem za0 {b n k:Int} {q:Ov} (hn:0≤n):opE b n ⟨2,0,0,0,0,0,0,0,4,1,false,false⟩ k q=bif ile 64 k then 17 else 0:=by
  have r:refB ⟨2,0,0,0,0,0,0,0,4,1,false,false⟩ n=true:=decide_eq_true ⟨fun h=>absurd h (by decide),by decide,hn⟩
  show (bif true then bif true then bif false then _ else elE b n ⟨2,0,0,0,0,0,0,0,4,1,false,false⟩ k q else 10 else 9)=_
  simp only [cond_true,cond_false]
  unfold elE
  rw [r,show ile 0 (smV b)=true from jb1 (yr0 b)]
  rfl
theorem ze8 {b n k:Int} {q:Ov}:opE b n ⟨3,0,0,0,0,0,0,0,0,0,false,false⟩ k q=bif ieq k 0 then 18 else 0:=rfl
theorem q65 {d i:Int} (h:i < d):nstO d i=⟨2,0,0,0,0,0,0,0,4,1,false,false⟩:=by unfold nstO;rw [jg9 h];rfl
theorem vj4 {d i:Int} (h:d≤i):nstO d i=⟨3,0,0,0,0,0,0,0,0,0,false,false⟩:=by unfold nstO;rw [jn6 h];rfl
theorem yc6 {s:Sc} {d:Int} (hp:s.pl=nstO d):∀i:Nat,(i:Int)≤d→lenO (stk s.pl i)=i
  | 0,_=>rfl
  | i + 1,h=>by
    have a:=yc6 hp i (by omega)
    unfold stk
    rw [hp,q65 (show (i:Int) < d by omega),← hp]
    show lenO (stk s.pl i ++ [_])=_
    rw [js3,a];omega
theorem q66 {s:Sc} {d:Int} (h0:0≤d) (hp:s.pl=nstO d):∀j:Nat,(j:Int)≤d→lenO (stk s.pl (d.toNat + j))=d - j
  | 0,_=>by have:=yc6 hp d.toNat (by omega);rw [Nat.add_zero,this];omega
  | j + 1,h=>by
    have a:=q66 h0 hp j (by omega)
    rw [show d.toNat + (j + 1)=(d.toNat + j) + 1 by omega]
    unfold stk
    rw [hp,vj4 (show d≤((d.toNat + j:Nat):Int) by omega),← hp]
    show lenO (stk s.pl (d.toNat + j)).dropLast=_
    rw [qr0 _ (by omega),a];omega
theorem y01 {s:Sc} {d k:Int} (fr:frV s=0) (hm:0≤s.mn) (hd:60≤d∧d≤69) (hk:0≤k∧k≤2) (hp:s.pl=nstO d) (hn:s.pn=d + (d - k)) :
    (64 < d→chkE s=17∧chkN s=64)∧(d≤64→0 < k→chkE s=18∧chkN s=s.pn)∧(d≤64→k=0→chkE s=0∧chkN s=0):=by
  have vi:∀i:Int,0≤i→i < s.pn→vopI s i=opE s.b s.mn (nstO d i) (lenO (stkI s i)) (jl6 (nthO (stkI s i)) (lenO (stkI s i))):=fun i a b=>by
    unfold vopI opV;rw [decide_eq_true (show 0≤i∧i < s.pn from ⟨a,b⟩),cond_true,hp]
  have up:∀i:Int,0≤i→i < d→vopI s i=bif ile 64 i then 17 else 0:=fun i a b=>by
    have l:=yc6 hp i.toNat (by omega)
    rw [vi i a (by omega),q65 b,za0 hm]
    unfold stkI;rw [l,Int.toNat_of_nonneg a]
  have dn:∀i:Int,d≤i→i < s.pn→vopI s i=0:=fun i a b=>by
    have l:=q66 (by omega) hp (i - d).toNat (by omega)
    rw [show d.toNat + (i - d).toNat=i.toNat by omega] at l
    rw [vi i (by omega) b,vj4 a,ze8]
    unfold stkI;rw [l,show ieq (d - ((i - d).toNat:Int)) 0=false from decide_eq_false (by omega)];rfl
  have ce:∀a b,vsP s=(a,b)→chkE s=a∧chkN s=b:=fun a b h=>by
    unfold chkE chkN qe0 qe1;rw [fr,h];exact ⟨rfl,rfl⟩
  have fin:lenO (stkI s s.pn)=k:=by
    have l:=q66 (by omega) hp (d - k).toNat (by omega)
    unfold stkI
    rw [show s.pn.toNat=d.toNat + (d - k).toNat by omega,l];omega
  have small:d≤64→vsE s s.pn.toNat=none:=fun c=>q64 s _ fun i a b=>by
    by_cases q:i < d
    · rw [up i a q,show ile 64 i=false from decide_eq_false (by omega)];rfl
    · exact dn i (by omega) (by omega)
  refine ⟨fun c=>?_,fun c c2=>?_,fun c c2=>?_⟩
  · have v:=up 64 (by omega) (by omega)
    rw [show ile 64 64=true from rfl,cond_true] at v
    have n:=q64 s 64 fun i a b=>by rw [up i a (by omega),show ile 64 i=false from decide_eq_false (by omega)];rfl
    have e:=vj2 s (i:=64) (by omega) (by omega) n (by rw [v];decide)
    rw [v] at e
    exact ce _ _ e
  · have e:=q52 s (small c)
    rw [fin,show ieq k 0=false from decide_eq_false (by omega)] at e
    exact ce _ _ e
  · have e:=q52 s (small c)
    rw [fin,c2] at e
    exact ce _ _ e
set_option linter.unusedVariables false in
theorem jy0 (sb sx sy sw sh st su:Int) (on:Nat) (ol:Int→Nat→Int) (pn:Nat) (pW pH pS pd:Int→Int) (pc:Int→Nat) (pl:Int→Int→Nat→Int) (un:Nat) (u0 u1 u2 u3 u4 u5 u6 u7 u8 u9 u10:Int→Int) (n' m':Int) (w0:(Lit.int .i64 sb).wf=true) (w1:(Lit.int .i64 sx).wf=true) (w2:(Lit.int .i64 sy).wf=true) (w3:(Lit.int .i64 sw).wf=true) (w4:(Lit.int .i64 sh).wf=true) (w5:(Lit.int .i64 st).wf=true) (w6:(Lit.int .i64 su).wf=true) (z0:on≤maxLen) (w7:∀i j:Nat,i < on→j < 1→(Lit.int .i64 (ol i j)).wf=true) (z1:pn≤maxLen) (w8:∀i:Nat,i < pn→(Lit.int .i64 (pW i)).wf=true) (w9:∀i:Nat,i < pn→(Lit.int .i64 (pH i)).wf=true) (w10:∀i:Nat,i < pn→(Lit.int .i64 (pS i)).wf=true) (w11:∀i:Nat,i < pn→(Lit.int .i64 (pd i)).wf=true) (w12:∀i a b:Nat,i < pn→a < pc i→b < 5→(Lit.int .i64 (pl i a b)).wf=true) (z1_pc:∀i:Nat,i < pn→pc i≤maxLen) (z2:un≤maxLen) (w13:∀i:Nat,i < un→(Lit.int .i64 (u0 i)).wf=true) (w14:∀i:Nat,i < un→(Lit.int .i64 (u1 i)).wf=true) (w15:∀i:Nat,i < un→(Lit.int .i64 (u2 i)).wf=true) (w16:∀i:Nat,i < un→(Lit.int .i64 (u3 i)).wf=true) (w17:∀i:Nat,i < un→(Lit.int .i64 (u4 i)).wf=true) (w18:∀i:Nat,i < un→(Lit.int .i64 (u5 i)).wf=true) (w19:∀i:Nat,i < un→(Lit.int .i64 (u6 i)).wf=true) (w20:∀i:Nat,i < un→(Lit.int .i64 (u7 i)).wf=true) (w21:∀i:Nat,i < un→(Lit.int .i64 (u8 i)).wf=true) (w22:∀i:Nat,i < un→(Lit.int .i64 (u9 i)).wf=true) (w23:∀i:Nat,i < un→(Lit.int .i64 (u10 i)).wf=true) (w24:(Lit.int .i64 n').wf=true) (w25:(Lit.int .i64 m').wf=true) (w:World) {F:Nat→Prop} (hG:QR.Laid F w) (hF:∀k,F k→k < w.heap.size) (x0:Value) (r0:QR.Rep F w (.slc 1 ((on:Nat):Int) (.fn fun i j=>.v (.int .i64 (ol i j)))) x0) (x1:Value) (r1:QR.Rep F w (.slc 5 ((pn:Nat):Int) (.col 0 (fun i=>.v (.int .i64 (pW i))) (.col 1 (fun i=>.v (.int .i64 (pH i))) (.col 2 (fun i=>.v (.int .i64 (pS i))) (.col 3 (fun i=>.v (.int .i64 (pd i))) (.col 4 (fun i=>.slc 5 ((pc i:Nat):Int) (.fn fun a b=>.v (.int .i64 (pl i a b)))) (.zer []))))))) x1) (x2:Value) (r2:QR.Rep F w (.slc 11 ((un:Nat):Int) (.col 0 (fun i=>.v (.int .i64 (u0 i))) (.col 1 (fun i=>.v (.int .i64 (u1 i))) (.col 2 (fun i=>.v (.int .i64 (u2 i))) (.col 3 (fun i=>.v (.int .i64 (u3 i))) (.col 4 (fun i=>.v (.int .i64 (u4 i))) (.col 5 (fun i=>.v (.int .i64 (u5 i))) (.col 6 (fun i=>.v (.int .i64 (u6 i))) (.col 7 (fun i=>.v (.int .i64 (u7 i))) (.col 8 (fun i=>.v (.int .i64 (u8 i))) (.col 9 (fun i=>.v (.int .i64 (u9 i))) (.col 10 (fun i=>.v (.int .i64 (u10 i))) (.zer []))))))))))))) x2) :
    Calls Tryd.prog 7 #[.agg #[.int .i64 sb,.int .i64 sx,.int .i64 sy,.int .i64 sw,.int .i64 sh,.int .i64 st,.int .i64 su,x0,x1,x2],.int .i64 n',.int .i64 m'] w fun e w'=>e=.returned (.bool true)∧Below w.heap.size w w':=by
  refine js4 (O:=q61) (QR.qd4 vm7 (QR.ja3 (up qb4) (QR.ja3 yl5 (QR.ja3 yz8 (QR.ja3 jv7 QR.jb4))))) mixed ((fun n=>bif Nat.beq n 700002 then some (.cut (qr8 n' m')) else bif Nat.beq n 5 then some (.ownF [(7,some 9,12)] fun _=>[qr9 n' m']) else bif Nat.beq n 9 then some (.invs [qs0 n' m']) else none)) Tryd.func7 (by kernel_rfl) (vs:=[.agg #[.int .i64 sb,.int .i64 sx,.int .i64 sy,.int .i64 sw,.int .i64 sh,.int .i64 st,.int .i64 su,x0,x1,x2],.int .i64 n',.int .i64 m']) (args:=[.x (.agg [.v (.int .i64 sb),.v (.int .i64 sx),.v (.int .i64 sy),.v (.int .i64 sw),.v (.int .i64 sh),.v (.int .i64 st),.v (.int .i64 su),.slc 1 ((on:Nat):Int) (.fn fun i j=>.v (.int .i64 (ol i j))),.slc 5 ((pn:Nat):Int) (.col 0 (fun i=>.v (.int .i64 (pW i))) (.col 1 (fun i=>.v (.int .i64 (pH i))) (.col 2 (fun i=>.v (.int .i64 (pS i))) (.col 3 (fun i=>.v (.int .i64 (pd i))) (.col 4 (fun i=>.slc 5 ((pc i:Nat):Int) (.fn fun a b=>.v (.int .i64 (pl i a b)))) (.zer [])))))),.slc 11 ((un:Nat):Int) (.col 0 (fun i=>.v (.int .i64 (u0 i))) (.col 1 (fun i=>.v (.int .i64 (u1 i))) (.col 2 (fun i=>.v (.int .i64 (u2 i))) (.col 3 (fun i=>.v (.int .i64 (u3 i))) (.col 4 (fun i=>.v (.int .i64 (u4 i))) (.col 5 (fun i=>.v (.int .i64 (u5 i))) (.col 6 (fun i=>.v (.int .i64 (u6 i))) (.col 7 (fun i=>.v (.int .i64 (u7 i))) (.col 8 (fun i=>.v (.int .i64 (u8 i))) (.col 9 (fun i=>.v (.int .i64 (u9 i))) (.col 10 (fun i=>.v (.int .i64 (u10 i))) (.zer []))))))))))))]),.x (.c (.v (.int .i64 n'))),.x (.c (.v (.int .i64 m')))]) (by simp) ?_ w hG hF ⟨⟨[.int .i64 sb,.int .i64 sx,.int .i64 sy,.int .i64 sw,.int .i64 sh,.int .i64 st,.int .i64 su,x0,x1,x2],rfl,⟨.v rfl,.v rfl,.v rfl,.v rfl,.v rfl,.v rfl,.v rfl,r0,r1,r2,trivial⟩⟩,.v rfl,.v rfl,rfl⟩
  rw [qe2]
  delta zz953 zz955 zz958 zz960 zz962 zz964 zz971 zz972 imsE opsE
  have VT:∀b:Bool,b=true→jb5 ⟨[.c (.v (.bool true))],[],[]⟩ [.c (.v (.bool b))] []:=fun b e=>by subst e;simp [jb5,eqXs,eqX,eqo,eqLo,eqc,veq,eqUs]
  generalize jb5 _=V at *
  simp only [forall_eq,true_and,and_true,and_self,implies_true,or_false,false_or,false_and,and_false,exists_const,exists_false,ja1,qq9,qq8,qi7,false_implies]
  have G:=yl6 ⟨sb,sx,sy,sw,sh,st,su,on,fun i=>ol i 0,pn,fun i=>⟨pW i,pH i,pS i,pd i,pc i,pl i⟩,un,fun i=>⟨u0 i,u1 i,u2 i,u3 i,u4 i,u5 i,u6 i,u7 i,u8 i,u9 i,u10 i⟩⟩ (Int.natCast_nonneg on) (Int.natCast_nonneg pn) (Int.natCast_nonneg un)
  have AS:intRow .i64 1 (on:Int) (.fn fun i j=>.v (.int .i64 (ol i j)))∧jh9 (pn:Int) (vc5 fun i=>⟨pW i,pH i,pS i,pd i,pc i,pl i⟩)∧ji0 (un:Int) (vc4 fun i=>⟨u0 i,u1 i,u2 i,u3 i,u4 i,u5 i,u6 i,u7 i,u8 i,u9 i,u10 i⟩)∧jv4 (pn:Int) (fun i=>⟨pW i,pH i,pS i,pd i,pc i,pl i⟩)∧ile 0 (on:Int)=true∧ile 0 (pn:Int)=true∧ile 0 (un:Int)=true:=⟨fun i j _ _=>rfl,vm6 _ (fun i=>⟨pW i,pH i,pS i,pd i,pc i,pl i⟩),vo1 _ (fun i=>⟨u0 i,u1 i,u2 i,u3 i,u4 i,u5 i,u6 i,u7 i,u8 i,u9 i,u10 i⟩),fun i _ _=>Int.natCast_nonneg _,jb1 (Int.natCast_nonneg _),jb1 (Int.natCast_nonneg _),jb1 (Int.natCast_nonneg _)⟩
  refine ⟨⟨AS,_,G,?_⟩,fun s hs=>?_⟩
  · repeat' apply And.intro
    all_goals first | rfl | (intro n hn;first | rfl | exact EqC.slc fun _ _ _ _=>.v _)
  clear G AS
  have g1:=jc2 n' (k:=10) (by decide)
  have g2:=jc2 m' (k:=3) (by decide)
  have hd:nsD n'=60 + gmod n' 10:=IntWalk.i64_in _ (by omega)
  have hk:nsK m'=gmod m' 3:=rfl
  have d0:60≤nsD n'∧nsD n'≤69:=by omega
  have k0:0≤nsK m'∧nsK m'≤2:=by omega
  refine ⟨⟨rfl,rfl⟩,⟨⟨s,0⟩,⟨hs,Int.le_refl 0,by show 0≤nsD n';omega⟩,⟨rfl,rfl,rfl⟩,⟨rfl,rfl,rfl,rfl,rfl,rfl,rfl,rfl,rfl,rfl⟩,⟨rfl,fun _ _=>rfl⟩,⟨rfl,?_⟩,rfl⟩,fun x hx=>?_⟩
  · repeat' apply And.intro
    all_goals (intro n hn;first | rfl | exact EqC.slc fun _ _ _ _=>.v _)
  clear hs
  obtain ⟨s,i⟩:=x
  obtain ⟨hs,i0,i1⟩:=hx
  dsimp only at hs i0 i1 ⊢
  refine ⟨fun c=>?_,fun c=>?_⟩
  · have lt:=jh6 c
    have ia:iadd .i64 i 1=i + 1:=IntWalk.i64_in _ (by omega)
    refine ⟨jb1 (by unfold jd2 addZ;omega),⟨s,i + 1⟩,⟨hs,by show 0≤i + 1;omega,by show i + 1≤nsD n';omega⟩,⟨ia,⟨rfl,rfl,rfl,rfl,rfl,rfl,rfl,rfl,rfl,rfl⟩,⟨rfl,fun _ _=>rfl⟩,⟨rfl,?_⟩,rfl,?_⟩,?_⟩
    · repeat' apply And.intro
      all_goals (intro n hn;first | rfl | exact EqC.slc fun _ _ _ _=>.v _)
    · have ad:∀n:Nat,ilt (Int.ofNat n) (addZ i 1)=true→(ilt (Int.ofNat n) i=true)∨(ilt (Int.ofNat n) i=false∧ieq (subZ (Int.ofNat n) i) 0=true∧Int.ofNat n=i):=fun n h=>by
        have h:(n:Int) < i + 1:=of_decide_eq_true h
        by_cases q:(n:Int) < i
        · exact Or.inl (jg9 q)
        · have e:Int.ofNat n=i:=by show (n:Int)=i;omega
          exact Or.inr ⟨jn6 (show i≤(n:Int) by omega),by rw [e];exact decide_eq_true (show i - i=0 by omega),e⟩
      have nx:=q65 lt
      repeat' apply And.intro
      all_goals (intro n hn;rcases ad n hn with k | ⟨k1,k2,k3⟩ <;> first | (rw [k];rfl) | (rw [k1,k2,k3,nx];rfl))
    · show je0 (nsD n') (i + 1) < je0 (nsD n') i
      unfold je0;omega
  have e:i=nsD n':=by have:=jy7 c;omega
  subst e
  clear c i0 i1
  refine ⟨⟨⟨s,nsK m'⟩,⟨hs,Int.le_refl _,by show nsK m'≤nsD n';omega⟩,rfl,⟨rfl,rfl,rfl,rfl,rfl,rfl,rfl,rfl,rfl,by show nsD n'=nsD n' + (nsK m' - nsK m');omega⟩,⟨rfl,fun _ _=>rfl⟩,⟨rfl,?_⟩,by show nsD n'=nsD n' + (nsK m' - nsK m');omega⟩,fun x hx=>?_⟩
  · repeat' apply And.intro
    all_goals (intro n hn;first | rfl | exact EqC.slc fun _ _ _ _=>.v _)
  clear hs
  obtain ⟨s,i⟩:=x
  obtain ⟨hs,i0,i1⟩:=hx
  dsimp only at hs i0 i1 ⊢
  have eL:nsL n' m' i=nsD n' + (i - nsK m'):=rfl
  refine ⟨fun c=>?_,fun c=>?_⟩
  · have lt:=jh6 c
    have ia:iadd .i64 i 1=i + 1:=IntWalk.i64_in _ (by omega)
    have l1:addZ (nsL n' m' i) 1=nsL n' m' (i + 1):=by show nsD n' + (i - nsK m') + 1=nsD n' + (i + 1 - nsK m');omega
    rw [l1]
    refine ⟨jb1 (by rw [← l1];unfold jd2 addZ;omega),⟨s,i + 1⟩,⟨hs,by show nsK m'≤i + 1;omega,by show i + 1≤nsD n';omega⟩,⟨ia,⟨rfl,rfl,rfl,rfl,rfl,rfl,rfl,rfl,rfl,rfl⟩,⟨rfl,fun _ _=>rfl⟩,⟨rfl,?_⟩,rfl,?_⟩,?_⟩
    · repeat' apply And.intro
      all_goals (intro n hn;first | rfl | exact EqC.slc fun _ _ _ _=>.v _)
    · have ad:∀n:Nat,ilt (Int.ofNat n) (nsL n' m' (i + 1))=true→(ilt (Int.ofNat n) (nsL n' m' i)=true)∨(ilt (Int.ofNat n) (nsL n' m' i)=false∧ieq (subZ (Int.ofNat n) (nsL n' m' i)) 0=true∧nstO (nsD n') (Int.ofNat n)=⟨3,0,0,0,0,0,0,0,0,0,false,false⟩):=fun n h=>by
        have h:(n:Int) < nsL n' m' (i + 1):=of_decide_eq_true h
        rw [← l1] at h
        have h:(n:Int) < nsL n' m' i + 1:=h
        by_cases q:(n:Int) < nsL n' m' i
        · exact Or.inl (jg9 q)
        · have e:Int.ofNat n=nsL n' m' i:=by show (n:Int)=nsL n' m' i;omega
          exact Or.inr ⟨jn6 (show nsL n' m' i≤(n:Int) by omega),by rw [e];exact decide_eq_true (show nsL n' m' i - nsL n' m' i=0 by omega),by rw [e];exact vj4 (by omega)⟩
      repeat' apply And.intro
      all_goals (intro n hn;rcases ad n hn with k | ⟨k1,k2,k3⟩ <;> first | (rw [k];rfl) | (rw [k1,k2,k3];rfl))
    · show je0 (nsD n') (i + 1) < je0 (nsD n') i
      unfold je0;omega
  have e:i=nsD n':=by have:=jy7 c;omega
  subst e
  clear c i0 i1
  obtain ⟨o0,m0⟩:(0≤s.on∧s.on≤100)∧(1≤s.mn∧s.mn≤4):=⟨hs.2.1,hs.2.2.1⟩
  obtain ⟨A1,A2,A3⟩:=y01 (s:=⟨s.b,s.x0,s.y0,s.x1,s.y1,s.tw,s.th,s.on,s.ol,s.mn,s.ml,nsL n' m' (nsD n'),nstO (nsD n')⟩) (d:=nsD n') (k:=nsK m') (fr_W hs _ _ (by omega) _ _ (by omega)) (show 0≤s.mn by omega) d0 k0 rfl eL
  have eI:∀a:Int,ieq a a=true:=fun a=>by simp [ieq]
  have gB:∀a b:Int,igt a b=true→b < a:=fun a b h=>of_decide_eq_true h
  have gF:∀a b:Int,igt a b=false→a≤b:=fun a b h=>by have:¬ a > b:=of_decide_eq_false h;omega
  refine ⟨⟨ji7 _ _ _,vd9 _ _,qg2 _ _,jb1 o0.1,jb1 (by omega),jb1 (by omega)⟩,fun c=>?_,fun c=>⟨fun c2=>?_,fun c2=>?_⟩⟩
  · obtain ⟨e1,e2⟩:=A1 (gB _ _ c)
    rw [e1,e2]
    exact ⟨fun _=>VT _ (eI _),fun q=>by rw [eI] at q;cases q⟩
  · obtain ⟨e1,e2⟩:=A2 (gF _ _ c) (gB _ _ c2)
    rw [e1,e2]
    exact ⟨fun _=>VT _ (eI _),fun q=>by rw [eI] at q;cases q⟩
  · obtain ⟨e1,e2⟩:=A3 (gF _ _ c) (by have:=gF _ _ c2;omega)
    rw [e1,e2]
    exact ⟨fun _=>VT _ (eI _),fun q=>by rw [eI] at q;cases q⟩
end Go.Proofs.YthkidembkknoeaaDoor
namespace Go.Proofs.YthkidembkknoeaaDoor
open Go.RowKit PR QR
set_option linter.unusedVariables false
set_option linter.unusedSimpArgs false
set_option maxRecDepth 20000
set_option linter.unusedVariables false in
theorem jv9 (sb sx sy sw sh st su:Int) (on:Nat) (ol:Int→Nat→Int) (pn:Nat) (pW pH pS pd:Int→Int) (pc:Int→Nat) (pl:Int→Int→Nat→Int) (un:Nat) (u0 u1 u2 u3 u4 u5 u6 u7 u8 u9 u10:Int→Int) (q0 q1 q2 q3 q4 q5 q6 q7 q8 q9:Int) (qa qb:Bool) (kind at' deep:Int) (gn:Nat) (g0 g1 g2 g3 g4 g5 g6 g7 g8 g9:Int→Int) (ga gb:Int→Bool) (w0:(Lit.int .i64 sb).wf=true) (w1:(Lit.int .i64 sx).wf=true) (w2:(Lit.int .i64 sy).wf=true) (w3:(Lit.int .i64 sw).wf=true) (w4:(Lit.int .i64 sh).wf=true) (w5:(Lit.int .i64 st).wf=true) (w6:(Lit.int .i64 su).wf=true) (z0:on≤maxLen) (w7:∀i j:Nat,i < on→j < 1→(Lit.int .i64 (ol i j)).wf=true) (z1:pn≤maxLen) (w8:∀i:Nat,i < pn→(Lit.int .i64 (pW i)).wf=true) (w9:∀i:Nat,i < pn→(Lit.int .i64 (pH i)).wf=true) (w10:∀i:Nat,i < pn→(Lit.int .i64 (pS i)).wf=true) (w11:∀i:Nat,i < pn→(Lit.int .i64 (pd i)).wf=true) (w12:∀i a b:Nat,i < pn→a < pc i→b < 5→(Lit.int .i64 (pl i a b)).wf=true) (z1_pc:∀i:Nat,i < pn→pc i≤maxLen) (z2:un≤maxLen) (w13:∀i:Nat,i < un→(Lit.int .i64 (u0 i)).wf=true) (w14:∀i:Nat,i < un→(Lit.int .i64 (u1 i)).wf=true) (w15:∀i:Nat,i < un→(Lit.int .i64 (u2 i)).wf=true) (w16:∀i:Nat,i < un→(Lit.int .i64 (u3 i)).wf=true) (w17:∀i:Nat,i < un→(Lit.int .i64 (u4 i)).wf=true) (w18:∀i:Nat,i < un→(Lit.int .i64 (u5 i)).wf=true) (w19:∀i:Nat,i < un→(Lit.int .i64 (u6 i)).wf=true) (w20:∀i:Nat,i < un→(Lit.int .i64 (u7 i)).wf=true) (w21:∀i:Nat,i < un→(Lit.int .i64 (u8 i)).wf=true) (w22:∀i:Nat,i < un→(Lit.int .i64 (u9 i)).wf=true) (w23:∀i:Nat,i < un→(Lit.int .i64 (u10 i)).wf=true) (w24:(Lit.int .i64 q0).wf=true) (w25:(Lit.int .i64 q1).wf=true) (w26:(Lit.int .i64 q2).wf=true) (w27:(Lit.int .i64 q3).wf=true) (w28:(Lit.int .i64 q4).wf=true) (w29:(Lit.int .i64 q5).wf=true) (w30:(Lit.int .i64 q6).wf=true) (w31:(Lit.int .u16 q7).wf=true) (w32:(Lit.int .i64 q8).wf=true) (w33:(Lit.int .i64 q9).wf=true) (w34:(Lit.int .i64 kind).wf=true) (w35:(Lit.int .i64 at').wf=true) (w36:(Lit.int .i64 deep).wf=true) (z3:gn≤maxLen) (w37:∀i:Nat,i < gn→(Lit.int .i64 (g0 i)).wf=true) (w38:∀i:Nat,i < gn→(Lit.int .i64 (g1 i)).wf=true) (w39:∀i:Nat,i < gn→(Lit.int .i64 (g2 i)).wf=true) (w40:∀i:Nat,i < gn→(Lit.int .i64 (g3 i)).wf=true) (w41:∀i:Nat,i < gn→(Lit.int .i64 (g4 i)).wf=true) (w42:∀i:Nat,i < gn→(Lit.int .i64 (g5 i)).wf=true) (w43:∀i:Nat,i < gn→(Lit.int .i64 (g6 i)).wf=true) (w44:∀i:Nat,i < gn→(Lit.int .u16 (g7 i)).wf=true) (w45:∀i:Nat,i < gn→(Lit.int .i64 (g8 i)).wf=true) (w46:∀i:Nat,i < gn→(Lit.int .i64 (g9 i)).wf=true) (w:World) {F:Nat→Prop} (hG:QR.Laid F w) (hF:∀k,F k→k < w.heap.size) (x0:Value) (r0:QR.Rep F w (.slc 1 ((on:Nat):Int) (.fn fun i j=>.v (.int .i64 (ol i j)))) x0) (x1:Value) (r1:QR.Rep F w (.slc 5 ((pn:Nat):Int) (.col 0 (fun i=>.v (.int .i64 (pW i))) (.col 1 (fun i=>.v (.int .i64 (pH i))) (.col 2 (fun i=>.v (.int .i64 (pS i))) (.col 3 (fun i=>.v (.int .i64 (pd i))) (.col 4 (fun i=>.slc 5 ((pc i:Nat):Int) (.fn fun a b=>.v (.int .i64 (pl i a b)))) (.zer []))))))) x1) (x2:Value) (r2:QR.Rep F w (.slc 11 ((un:Nat):Int) (.col 0 (fun i=>.v (.int .i64 (u0 i))) (.col 1 (fun i=>.v (.int .i64 (u1 i))) (.col 2 (fun i=>.v (.int .i64 (u2 i))) (.col 3 (fun i=>.v (.int .i64 (u3 i))) (.col 4 (fun i=>.v (.int .i64 (u4 i))) (.col 5 (fun i=>.v (.int .i64 (u5 i))) (.col 6 (fun i=>.v (.int .i64 (u6 i))) (.col 7 (fun i=>.v (.int .i64 (u7 i))) (.col 8 (fun i=>.v (.int .i64 (u8 i))) (.col 9 (fun i=>.v (.int .i64 (u9 i))) (.col 10 (fun i=>.v (.int .i64 (u10 i))) (.zer []))))))))))))) x2) (x3:Value) (r3:QR.Rep F w (.slc 12 ((gn:Nat):Int) (.col 0 (fun i=>.v (.int .i64 (g0 i))) (.col 1 (fun i=>.v (.int .i64 (g1 i))) (.col 2 (fun i=>.v (.int .i64 (g2 i))) (.col 3 (fun i=>.v (.int .i64 (g3 i))) (.col 4 (fun i=>.v (.int .i64 (g4 i))) (.col 5 (fun i=>.v (.int .i64 (g5 i))) (.col 6 (fun i=>.v (.int .i64 (g6 i))) (.col 7 (fun i=>.v (.int .u16 (g7 i))) (.col 8 (fun i=>.v (.int .i64 (g8 i))) (.col 9 (fun i=>.v (.int .i64 (g9 i))) (.col 10 (fun i=>.v (.bool (ga i))) (.col 11 (fun i=>.v (.bool (gb i))) (.zer [])))))))))))))) x3) :
    Calls Tryd.prog 5 #[.agg #[.int .i64 sb,.int .i64 sx,.int .i64 sy,.int .i64 sw,.int .i64 sh,.int .i64 st,.int .i64 su,x0,x1,x2],.agg #[.int .i64 q0,.int .i64 q1,.int .i64 q2,.int .i64 q3,.int .i64 q4,.int .i64 q5,.int .i64 q6,.int .u16 q7,.int .i64 q8,.int .i64 q9,.bool qa,.bool qb],.int .i64 kind,.int .i64 at',.int .i64 deep,x3] w fun e w'=>e=.returned (.bool true)∧Below w.heap.size w w':=by
  refine js4 (O:=jx3) (QR.qd4 vm7 (QR.ja3 (up qb4) (QR.ja3 yb5 (QR.ja3 yb7 (QR.ja3 jv7 QR.jb4))))) mixed ((fun n=>bif Nat.beq n 700002 then some (.cut (q55 kind at' deep gn (fun i=>⟨g0 i,g1 i,g2 i,g3 i,g4 i,g5 i,g6 i,g7 i,g8 i,g9 i,ga i,gb i⟩) ⟨q0,q1,q2,q3,q4,q5,q6,q7,q8,q9,qa,qb⟩)) else bif Nat.beq n 700004 then some (.cut (q56 kind at' deep gn (fun i=>⟨g0 i,g1 i,g2 i,g3 i,g4 i,g5 i,g6 i,g7 i,g8 i,g9 i,ga i,gb i⟩) ⟨q0,q1,q2,q3,q4,q5,q6,q7,q8,q9,qa,qb⟩)) else bif Nat.beq n 700005 then some (.cut (q57 at' deep gn (fun i=>⟨g0 i,g1 i,g2 i,g3 i,g4 i,g5 i,g6 i,g7 i,g8 i,g9 i,ga i,gb i⟩))) else none)) Tryd.func5 (by kernel_rfl) (vs:=[.agg #[.int .i64 sb,.int .i64 sx,.int .i64 sy,.int .i64 sw,.int .i64 sh,.int .i64 st,.int .i64 su,x0,x1,x2],.agg #[.int .i64 q0,.int .i64 q1,.int .i64 q2,.int .i64 q3,.int .i64 q4,.int .i64 q5,.int .i64 q6,.int .u16 q7,.int .i64 q8,.int .i64 q9,.bool qa,.bool qb],.int .i64 kind,.int .i64 at',.int .i64 deep,x3]) (args:=[.x (.agg [.v (.int .i64 sb),.v (.int .i64 sx),.v (.int .i64 sy),.v (.int .i64 sw),.v (.int .i64 sh),.v (.int .i64 st),.v (.int .i64 su),.slc 1 ((on:Nat):Int) (.fn fun i j=>.v (.int .i64 (ol i j))),.slc 5 ((pn:Nat):Int) (.col 0 (fun i=>.v (.int .i64 (pW i))) (.col 1 (fun i=>.v (.int .i64 (pH i))) (.col 2 (fun i=>.v (.int .i64 (pS i))) (.col 3 (fun i=>.v (.int .i64 (pd i))) (.col 4 (fun i=>.slc 5 ((pc i:Nat):Int) (.fn fun a b=>.v (.int .i64 (pl i a b)))) (.zer [])))))),.slc 11 ((un:Nat):Int) (.col 0 (fun i=>.v (.int .i64 (u0 i))) (.col 1 (fun i=>.v (.int .i64 (u1 i))) (.col 2 (fun i=>.v (.int .i64 (u2 i))) (.col 3 (fun i=>.v (.int .i64 (u3 i))) (.col 4 (fun i=>.v (.int .i64 (u4 i))) (.col 5 (fun i=>.v (.int .i64 (u5 i))) (.col 6 (fun i=>.v (.int .i64 (u6 i))) (.col 7 (fun i=>.v (.int .i64 (u7 i))) (.col 8 (fun i=>.v (.int .i64 (u8 i))) (.col 9 (fun i=>.v (.int .i64 (u9 i))) (.col 10 (fun i=>.v (.int .i64 (u10 i))) (.zer []))))))))))))]),.x (.agg [.v (.int .i64 q0),.v (.int .i64 q1),.v (.int .i64 q2),.v (.int .i64 q3),.v (.int .i64 q4),.v (.int .i64 q5),.v (.int .i64 q6),.v (.int .u16 q7),.v (.int .i64 q8),.v (.int .i64 q9),.v (.bool qa),.v (.bool qb)]),.x (.c (.v (.int .i64 kind))),.x (.c (.v (.int .i64 at'))),.x (.c (.v (.int .i64 deep))),.x (.c (.slc 12 ((gn:Nat):Int) (.col 0 (fun i=>.v (.int .i64 (g0 i))) (.col 1 (fun i=>.v (.int .i64 (g1 i))) (.col 2 (fun i=>.v (.int .i64 (g2 i))) (.col 3 (fun i=>.v (.int .i64 (g3 i))) (.col 4 (fun i=>.v (.int .i64 (g4 i))) (.col 5 (fun i=>.v (.int .i64 (g5 i))) (.col 6 (fun i=>.v (.int .i64 (g6 i))) (.col 7 (fun i=>.v (.int .u16 (g7 i))) (.col 8 (fun i=>.v (.int .i64 (g8 i))) (.col 9 (fun i=>.v (.int .i64 (g9 i))) (.col 10 (fun i=>.v (.bool (ga i))) (.col 11 (fun i=>.v (.bool (gb i))) (.zer [])))))))))))))))]) (by simp) ?_ w hG hF ⟨⟨[.int .i64 sb,.int .i64 sx,.int .i64 sy,.int .i64 sw,.int .i64 sh,.int .i64 st,.int .i64 su,x0,x1,x2],rfl,⟨.v rfl,.v rfl,.v rfl,.v rfl,.v rfl,.v rfl,.v rfl,r0,r1,r2,trivial⟩⟩,⟨[.int .i64 q0,.int .i64 q1,.int .i64 q2,.int .i64 q3,.int .i64 q4,.int .i64 q5,.int .i64 q6,.int .u16 q7,.int .i64 q8,.int .i64 q9,.bool qa,.bool qb],rfl,⟨.v rfl,.v rfl,.v rfl,.v rfl,.v rfl,.v rfl,.v rfl,.v rfl,.v rfl,.v rfl,.v rfl,.v rfl,trivial⟩⟩,.v rfl,.v rfl,.v rfl,r3,rfl⟩
  rw [j06]
  delta zz953 zz954 zz955 zz957 zz958 zz959 zz960 zz961 zz962 zz964 zz966 zz967 zz968 zz972 zz973 imsE opsE
  have VT:∀b:Bool,b=true→jb5 ⟨[.c (.v (.bool true))],[],[]⟩ [.c (.v (.bool b))] []:=fun b e=>by subst e;simp [jb5,eqXs,eqX,eqo,eqLo,eqc,veq,eqUs]
  generalize jb5 _=V at *
  simp only [forall_eq,true_and,and_true,and_self,implies_true,or_false,false_or,false_and,and_false,exists_const,exists_false,ja1,qq9,qq8,qi7,false_implies]
  have G:=yl6 ⟨sb,sx,sy,sw,sh,st,su,on,fun i=>ol i 0,pn,fun i=>⟨pW i,pH i,pS i,pd i,pc i,pl i⟩,un,fun i=>⟨u0 i,u1 i,u2 i,u3 i,u4 i,u5 i,u6 i,u7 i,u8 i,u9 i,u10 i⟩⟩ (Int.natCast_nonneg on) (Int.natCast_nonneg pn) (Int.natCast_nonneg un)
  have AS:intRow .i64 1 (on:Int) (.fn fun i j=>.v (.int .i64 (ol i j)))∧jh9 (pn:Int) (vc5 fun i=>⟨pW i,pH i,pS i,pd i,pc i,pl i⟩)∧ji0 (un:Int) (vc4 fun i=>⟨u0 i,u1 i,u2 i,u3 i,u4 i,u5 i,u6 i,u7 i,u8 i,u9 i,u10 i⟩)∧jv4 (pn:Int) (fun i=>⟨pW i,pH i,pS i,pd i,pc i,pl i⟩)∧ile 0 (on:Int)=true∧ile 0 (pn:Int)=true∧ile 0 (un:Int)=true:=⟨fun i j _ _=>rfl,vm6 _ (fun i=>⟨pW i,pH i,pS i,pd i,pc i,pl i⟩),vo1 _ (fun i=>⟨u0 i,u1 i,u2 i,u3 i,u4 i,u5 i,u6 i,u7 i,u8 i,u9 i,u10 i⟩),fun i _ _=>Int.natCast_nonneg _,jb1 (Int.natCast_nonneg _),jb1 (Int.natCast_nonneg _),jb1 (Int.natCast_nonneg _)⟩
  refine ⟨⟨AS,_,G,?_⟩,fun s hs=>?_⟩
  · repeat' apply And.intro
    all_goals first | rfl | (intro n hn;first | rfl | exact EqC.slc fun _ _ _ _=>.v _)
  clear G AS
  have gd:=jc2 deep (k:=4) (by decide)
  have pn0:0≤s.pn∧s.pn≤100:=hs.2.2.2.2
  refine ⟨⟨rfl,fun _=>⟨rfl,⟨s,gmod kind 4⟩,hs,rfl,?_⟩,fun _=>⟨⟨s,q0⟩,hs,rfl,?_⟩⟩,fun x hx=>⟨?_,fun s hs=>?_⟩⟩
  · repeat' apply And.intro
    all_goals first | rfl | (intro n hn;first | rfl | exact EqC.slc fun _ _ _ _=>.v _)
  · repeat' apply And.intro
    all_goals first | rfl | (intro n hn;first | rfl | exact EqC.slc fun _ _ _ _=>.v _)
  · clear hs pn0
    obtain ⟨s,kd⟩:=x
    dsimp only at hx ⊢
    have bx:(0≤s.on∧s.on≤100)∧(1≤s.mn∧s.mn≤4):=⟨hx.2.1,hx.2.2.1⟩
    have pn0:0≤s.pn∧s.pn≤100:=hx.2.2.2.2
    refine ⟨⟨jb1 (by unfold jd2 addZ;omega),jb1 (by unfold jd2;omega)⟩,⟨s.b,s.x0,s.y0,s.x1,s.y1,s.tw,s.th,s.on,s.ol,s.mn,s.ml,s.pn + 1,appO s.pl s.pn ⟨kd,q1,q2,q3,q4,q5,q6,q7,q8,q9,qa,qb⟩⟩,⟨⟨bx.1.1,show 0≤s.mn by omega⟩,show 1≤s.pn + 1 by omega,show s.pn + 1≤101 by omega⟩,⟨rfl,rfl,rfl,rfl,rfl,rfl,rfl,rfl,rfl,rfl⟩,⟨rfl,fun _ _=>rfl⟩,⟨rfl,?_⟩,rfl,?_⟩
    · repeat' apply And.intro
      all_goals (intro n hn;first | rfl | exact EqC.slc fun _ _ _ _=>.v _)
    · generalize ho:(⟨kd,q1,q2,q3,q4,q5,q6,q7,q8,q9,qa,qb⟩:Ov)=o
      have ad:∀n:Nat,ilt (Int.ofNat n) (addZ s.pn 1)=true→(ilt (Int.ofNat n) s.pn=true∧appO s.pl s.pn o (Int.ofNat n)=s.pl (Int.ofNat n))∨(ilt (Int.ofNat n) s.pn=false∧ieq (subZ (Int.ofNat n) s.pn) 0=true∧appO s.pl s.pn o (Int.ofNat n)=o):=fun n h=>by
        have h:(n:Int) < s.pn + 1:=of_decide_eq_true h
        unfold appO
        by_cases q:(n:Int) < s.pn
        · refine Or.inl ⟨jg9 q,?_⟩
          rw [show ilt (Int.ofNat n) s.pn=true from jg9 q];rfl
        · have e:Int.ofNat n=s.pn:=by show (n:Int)=s.pn;omega
          have f:ilt (Int.ofNat n) s.pn=false:=jn6 (show s.pn≤(n:Int) by omega)
          refine Or.inr ⟨f,by rw [e];exact decide_eq_true (show s.pn - s.pn=0 by omega),?_⟩
          rw [f];rfl
      subst ho
      repeat' apply And.intro
      all_goals (intro n hn;rcases ad n hn with ⟨k1,k2⟩ | ⟨k1,k2,k3⟩ <;> dsimp only <;> first | (rw [k1,k2];rfl) | (rw [k1,k2,k3];rfl))
  clear hx pn0
  obtain ⟨⟨on0,mn0⟩,pn0,pn1⟩:=hs
  have gl:gn≤maxLen:=by assumption
  unfold maxLen at gl
  have e1:iadd .i64 s.pn 2=s.pn + 2:=IntWalk.i64_in _ (by omega)
  have e2:iadd .i64 62 (gmod deep 4)=62 + gmod deep 4:=IntWalk.i64_in _ (by omega)
  rw [e1,e2]
  have d0:62≤62 + gmod deep 4∧62 + gmod deep 4≤65:=by omega
  generalize 62 + gmod deep 4=d at *
  have eI:∀a:Int,ieq a a=true:=fun a=>by simp [ieq]
  have O0:∀r,ja8 0 r:=fun r i j hi _=>by omega
  have Og:ja8 (gn:Int) (je8 fun i=>⟨g0 i,g1 i,g2 i,g3 i,g4 i,g5 i,g6 i,g7 i,g8 i,g9 i,ga i,gb i⟩):=qg2 _ _
  have Od:ja8 d (.zer [.int .i64 0,.int .i64 0,.int .i64 0,.int .i64 0,.int .i64 0,.int .i64 0,.int .i64 0,.int .u16 0,.int .i64 0,.int .i64 0,.bool false,.bool false]):=fun i j _ hj=>by
    match j,hj with
    | 0,_ | 1,_ | 2,_ | 3,_ | 4,_ | 5,_ | 6,_ | 7,_ | 8,_ | 9,_ | 10,_ | 11,_=>exact .v _
    | n + 12,h=>omega
  have W:intRow .i64 1 s.on (.fn fun a _=>.v (.int .i64 (s.ol a))):=ji7 _ _ _
  have I:=vd9 s.mn s.ml
  have Op:=qg2 s.pn s.pl
  have z0:=jb1 on0
  have z1:=jb1 mn0
  have z2:ile 0 s.pn=true:=jb1 (by omega)
  have z3:ile 0 (gn:Int)=true:=jb1 (by omega)
  have z4:ile (gn:Int) 9223372036854775807=true:=jb1 (by omega)
  have z5:ile 0 d=true:=jb1 (by omega)
  have z6:ile d 9223372036854775807=true:=jb1 (by omega)
  simp only [eI,reduceCtorEq,false_implies,true_implies,and_true,true_and]
  refine ⟨decide_eq_true (by omega),⟨z5,jb1 (by omega),jb1 (by unfold jd2;omega),jb1 (by omega),rfl⟩,?_,VT _ rfl⟩
  repeat' apply And.intro
  all_goals first | exact O0 _ | exact W | exact z0 | exact z1 | exact z2 | exact z3 | exact z4 | exact z5 | exact z6 | exact Og | exact Od | exact I | exact Op
end Go.Proofs.YthkidembkknoeaaDoor
