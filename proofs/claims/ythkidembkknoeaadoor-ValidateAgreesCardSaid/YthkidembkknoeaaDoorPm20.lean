import Derived.Test.YthkidembkknoeaaDoorPm11
import Derived.Test.YthkidembkknoeaaDoorPm19
import Derived.Test.YthkidembkknoeaaDoorPm10
import Derived.RangeFuncNested
import Derived.RangeFuncBound
import Derived.RangeFuncCalls
import Derived.RangeFuncLeaves
import Derived.Shelf.Abstract
import Derived.Shelf.RegionOpen
import Derived.WalkKit
import Derived.OwnWalkIn
import Derived.TacticsInMore
import Derived.LoopNIn
import Derived.LoopIn
namespace Go.Proofs.YthkidembkknoeaaDoor
open Go Go.RowKit Go.Shelf PR QR
set_option linter.unusedVariables false
set_option linter.unusedSimpArgs false
set_option maxRecDepth 20000
theorem y67 {p:QR.Inl->Prop} {k:Nat} {I:QR.Inl} (h:p I):∀n c,(bif Nat.beq n k then some I else none)=some c->p c:=by
 intro n c e
 cases q:Nat.beq n k
 ·rw [q] at e;simp at e
 ·rw [q,cond_true,Option.some.injEq] at e;rw [<- e];exact h
theorem yu2 {p:QR.Inl->Prop}:∀(n:Nat) (c:QR.Inl),none=some c->p c:=λ n c e=>by simp at e
theorem qu4 (n:Int) (l:Int->Int):EqC (.slc 1 n (.fn λ i _=>.v (.int .u16 (l i)))) (.slc 1 n (.fn λ i _=>.v (.int .u16 (l i))))=True:=eq_true (.slc λ i j _ _=>.v _)
theorem vf4 (z:Nat) (n:Int) (q:Int->Nat->Int):EqC (.slc z n (.fn λ i j=>.v (.int .u16 (q i j)))) (.slc z n (.fn λ i j=>.v (.int .u16 (q i j))))=True:=eq_true (.slc λ i j _ _=>.v _)
theorem yu3:ja6 74 qg8:=by
 intro al ans h hq
 unfold qg8 at h
 split at h <;> try (simp at h;done)
 rename_i w h
 simp only [Option.some.injEq] at h
 subst h
 have hq:=asked hq
 refine QR.ja2 (O:=(QR.orc [])) QR.jb1 mixed (QR.ja4) Tryd.func74 (by kernel_rfl) (by kernel_rfl) (by simp) ?_
 rw [y64]
 obtain ⟨iw,ih,_⟩:=hq
 have iw:=ql8.1 iw
 simp only [qu4,vf4,jb4,eqXs,eqX,eqo,eqLo,eqc,veq,eqUs,ja1,ige,ile,decide_eq_true_eq,decide_eq_false_iff_not,true_and,and_true]
 refine ⟨λ h1=>⟨λ h2=>⟨ve4 (by omega),?_⟩,λ h2=>?_⟩,λ h1=>?_⟩
 ·rw [vo3 (by omega) (by omega),Bool.eq_iff_iff,decide_eq_true_eq,jg7,<- yb3 (by omega) (by omega)]
  exact ⟨λ k=>⟨by omega,by omega,k⟩,λ k=>k.2.2⟩
 ·exact (decide_eq_false λ k=>by omega).symm
 ·exact (decide_eq_false λ k=>by omega).symm
theorem yr0:ja6 77 q84:=by
 intro al ans hh hq
 unfold q84 at hh
 split at hh <;> try (simp at hh;done)
 rename_i l
 cases em:ji3 l with
 | none=>simp [em] at hh
 | some pm =>
 obtain ⟨m,Am⟩:=pm
 simp only [em] at hh
 simp only [Option.some.injEq] at hh
 subst hh
 refine jx2 (al':=[.ref 0 (imC m)]) ⟨⟨rfl,jw1 em λ p hp=>hq p (by simp [hp])⟩,trivial⟩ ?_
 have hq:=asked hq
 refine QR.ja2 (O:=(QR.orc [])) QR.jb1 mixed (QR.ja4) Tryd.func77 (by kernel_rfl) (by kernel_rfl) (by simp) ?_
 rw [yh5]
 delta zz13
 simp [qu4,vf4,jb4,eqXs,eqX,eqo,eqLo,eqL,eqc,veq,eqUs,imC]
theorem y68:ja6 53 qm0:=by
 intro al ans hh hq
 unfold qm0 at hh
 split at hh <;> try (simp at hh;done)
 rename_i l
 cases em:ji3 l with
 | none=>simp [em] at hh
 | some pm =>
 obtain ⟨m,Am⟩:=pm
 simp only [em] at hh
 simp only [Option.some.injEq] at hh
 subst hh
 refine jx2 (al':=[.ref 0 (imC m)]) ⟨⟨rfl,jw1 em λ p hp=>hq p (by simp [hp])⟩,trivial⟩ ?_
 have hq:=asked hq
 refine QR.ja2 (O:=yh6) (QR.ja3 yr0 QR.jb1) mixed (QR.ja4) Tryd.func53 (by kernel_rfl) (by kernel_rfl) (by simp) ?_
 rw [yq7]
 delta zz13 zz44
 have e1:vaW m=bif m.sol then 1 else m.w:=rfl
 have e2:vaH m=bif m.sol then 1 else m.h:=rfl
 cases hs:m.sol <;> simp [qu4,vf4,jb4,eqXs,eqX,eqo,eqLo,eqL,eqc,veq,eqUs,imC,ja1,hs,e1,e2,jf5]
theorem ze5:ja6 52 vr4:=by
 intro al ans h hq
 unfold vr4 at h
 split at h <;> try (simp at h;done)
 rename_i a b c d
 simp only [Option.some.injEq] at h
 subst h
 have hq:=asked hq
 refine QR.ja2 (O:=(QR.orc [])) QR.jb1 mixed (QR.ja4) Tryd.func52 (by kernel_rfl) (by kernel_rfl) (by simp) ?_
 rw [y65]
 simp [qu4,vf4,jb4,eqXs,eqX,eqo,eqLo,eqL,eqc,veq,eqUs]
theorem yr1:ja6 55 qm1:=by
 intro al ans hh hq
 unfold qm1 at hh
 split at hh <;> try (simp at hh;done)
 rename_i l x y
 cases em:ji3 l with
 | none=>simp [em] at hh
 | some pm =>
 obtain ⟨m,Am⟩:=pm
 simp only [em] at hh
 simp only [Option.some.injEq] at hh
 subst hh
 refine jx2 (al':=[.ref 0 (imC m),.x (.c (.v (.int .i64 x))),.x (.c (.v (.int .i64 y)))]) ⟨⟨rfl,jw1 em λ p hp=>hq p (by simp [hp])⟩,.v _,.v _,trivial⟩ ?_
 have hq:=asked hq
 refine QR.ja2 (O:=(QR.orc [])) QR.jb1 mixed ((λ n=>bif Nat.beq n 5 then some (.rounds 6) else none)) Tryd.func55 (by kernel_rfl) (by kernel_rfl) (by simp) ?_
 rw [y66]
 delta zz13 zz140
 obtain ⟨hG,hi,_⟩:=hq
 have pv:∀k,pxV m k x y=bif m.sol then yg5 m k else (imPl m k).l (patI (imPl m k).s x y):=λ _=>rfl
 cases hs:m.sol
 ·obtain ⟨a0,b0,c0⟩:=qv9 hi hs (k:=0) (by decide)
  obtain ⟨a1,b1,c1⟩:=qv9 hi hs (k:=1) (by decide)
  obtain ⟨a2,b2,c2⟩:=qv9 hi hs (k:=2) (by decide)
  obtain ⟨a3,b3,c3⟩:=qv9 hi hs (k:=3) (by decide)
  obtain ⟨a4,b4,c4⟩:=qv9 hi hs (k:=4) (by decide)
  simp only [imPl] at a0 b0 c0 a1 b1 c1 a2 b2 c2 a3 b3 c3 a4 b4 c4
  simp [qu4,vf4,jb4,eqXs,eqX,eqo,eqLo,eqL,eqc,veq,eqUs,ja1,hs,pv,imPl,imC,a0,b0,c0,a1,b1,c1,a2,b2,c2,a3,b3,c3,a4,b4,c4]
 ·simp [qu4,vf4,jb4,eqXs,eqX,eqo,eqLo,eqL,eqc,veq,eqUs,ja1,hs,pv,yg5,imC]
theorem y69:QR.qg3 Tryd.prog jr8/\QR.GB<=jr8.T :=
 QR.ym8 (O:=vr5) (QR.ja3 zg9 QR.jb1) mixed QR.ja4 (J':=λ _=>none) yu2 (j:=6) Tryd.func75 (by kernel_rfl) (by kernel_rfl)
theorem vf5:QR.CfgOK Tryd.prog jj5 500:=⟨y67 y69,yu2,.inl λ _=>rfl⟩
theorem qu5 {m:Im} {p:Pl} {b:Int} {Q:Prop} (no:plW m p≠true->7=b) (yes:plW m p=true->Q):(ieq p.w m.w=true->(ieq p.h m.h=true->(plB p.w p.h p.s p.n=false->7=b)/\(plB p.w p.h p.s p.n=true->Q))/\(ieq p.h m.h=false->7=b))/\(ieq p.w m.w=false->7=b):=by
 refine ⟨λ h1=>⟨λ h2=>⟨λ h3=>no λ k=>?_,λ h3=>yes (jq2.2 ⟨h3,of_decide_eq_true h1,of_decide_eq_true h2⟩)⟩,λ h2=>no λ k=>of_decide_eq_false h2 (jq2.1 k).2.2⟩,λ h1=>no λ k=>of_decide_eq_false h1 (jq2.1 k).2.1⟩
 rw [(jq2.1 k).1] at h3;simp at h3
theorem qu6 {p:Pl} {b:Int} {Q:Prop} (no:plZ p≠true->7=b) (yes:plZ p=true->Q):(ieq p.w 0=true->(ieq p.h 0=true->(ieq p.s 0=true->∀i:Int,i=p.n->(ieq i 0=false->7=b)/\(ieq i 0=true->Q))/\(ieq p.s 0=false->7=b))/\(ieq p.h 0=false->7=b))/\(ieq p.w 0=false->7=b) :=
 ⟨λ h1=>⟨λ h2=>⟨λ h3 i hi=>⟨λ h4=>no λ k=>of_decide_eq_false h4 (hi▸(jq3.1 k).2.2.2),λ h4=>yes (jq3.2 ⟨of_decide_eq_true h1,of_decide_eq_true h2,of_decide_eq_true h3,hi▸of_decide_eq_true h4⟩)⟩,λ h3=>no λ k=>of_decide_eq_false h3 (jq3.1 k).2.2.1⟩,λ h2=>no λ k=>of_decide_eq_false h2 (jq3.1 k).2.1⟩,λ h1=>no λ k=>of_decide_eq_false h1 (jq3.1 k).1⟩
theorem yr2:ja6 51 q83:=by
 intro al ans hh hq
 unfold q83 at hh
 split at hh <;> try (simp at hh;done)
 rename_i l
 cases em:ji3 l with
 | none=>simp [em] at hh
 | some p =>
 obtain ⟨m,A⟩:=p
 simp only [em] at hh
 simp only [Option.some.injEq] at hh
 subst hh
 have hG:imG m:=hq _ (by simp)
 refine jx2 (al':=[.ref 0 (imC m)]) ⟨⟨rfl,jw1 em λ p hp=>hq p (by simp [hp])⟩,trivial⟩ ?_
 obtain ⟨⟨iw,ih⟩,_,⟨w0,h0,s0,n0,_⟩,⟨w1,h1,s1,n1,_⟩,⟨w2,h2,s2,n2,_⟩,⟨w3,h3,s3,n3,_⟩,w4,h4,s4,n4,_⟩:=hG
 have e:imFt m=bif fitB m.w m.h then (bif imF m then 0 else 7) else 6:=rfl
 generalize imFt m=b at e ⊢
 have nz:∀(n:Int),ile 0 n=true->ieq n 0=decide (n=0):=λ n _=>rfl
 cases hs:m.sol
 ·rw [q80 hs]
  refine QR.qe0 (O:=vw1) (QR.ja3 yu3 QR.jb1) mixed (C:=jj5) vf5 yc0 Tryd.func51 (by kernel_rfl) (by kernel_rfl) (by simp) ?_
  rw [yq9]
  delta zz3 zz61 zz62 zz63 zz64 zz70
  simp only [qu4,vf4,jb4,eqXs,eqX,eqo,eqLo,eqL,eqc,veq,eqUs,imC,ja1,bnot,band,jf5,iw,ih,w0,h0,s0,n0,w1,h1,s1,n1,w2,h2,s2,n2,w3,h3,s3,n3,w4,h4,s4,n4,true_and,and_true,implies_true,true_implies,reduceCtorEq,false_implies,and_self,Bool.not_true,Bool.false_eq_true,Bool.not_false]
  have mm:∀q:Bool,(!q)=true↔q=false:=λ q=>by cases q <;> simp
  have m2:∀q:Bool,(!q)=false↔q=true:=λ q=>by cases q <;> simp
  simp only [mm,m2]
  refine ⟨λ f=>by rw [e,f];rfl,λ f=>?_⟩
  rw [f,cond_true] at e
  have no:∀k:Nat,k < 5->plW m (imPl m k)≠true->7=b:=λ k hk h=>by rw [e,yg7 hs hk (Bool.eq_false_iff.2 h)];rfl
  refine ⟨λ c=>?_,λ c=>qu5 (no 0 (by decide)) λ x0=>qu5 (no 1 (by decide)) λ x1=>qu5 (no 2 (by decide)) λ x2=>qu5 (no 3 (by decide)) λ x3=>qu5 (no 4 (by decide)) λ x4=>?_⟩
  ·have:imF m=false:=by
    have cz:colZ m=false:=by rw [<- c];unfold colZ ieq;rw [Bool.eq_iff_iff];simp [and_assoc]
    unfold imF;rw [hs,cz];simp
   rw [e,this];rfl
  ·have:imF m=true:=by
    have cz:colZ m=true:=by rw [<- c];unfold colZ ieq;rw [Bool.eq_iff_iff];simp [and_assoc]
    rw [vl0 hs λ k hk=>by match k,hk with | 0,_=>exact x0 | 1,_=>exact x1 | 2,_=>exact x2 | 3,_=>exact x3 | 4,_=>exact x4,cz]
   rw [e,this];rfl
 ·rw [q80 hs]
  refine QR.qe0 (O:=vw1) (QR.ja3 yu3 QR.jb1) mixed (C:=jj5) vf5 yc0 Tryd.func51 (by kernel_rfl) (by kernel_rfl) (by simp) ?_
  rw [yq8]
  delta zz2
  simp only [qu4,vf4,jb4,eqXs,eqX,eqo,eqLo,eqL,eqc,veq,eqUs,imC,ja1,bnot,band,jf5,iw,ih,w0,h0,s0,n0,w1,h1,s1,n1,w2,h2,s2,n2,w3,h3,s3,n3,w4,h4,s4,n4,true_and,and_true,implies_true,true_implies,reduceCtorEq,false_implies,and_self,Bool.not_true,Bool.false_eq_true,Bool.not_false]
  have mm:∀q:Bool,(!q)=true↔q=false:=λ q=>by cases q <;> simp
  have m2:∀q:Bool,(!q)=false↔q=true:=λ q=>by cases q <;> simp
  simp only [mm,m2]
  refine ⟨λ f=>by rw [e,f];rfl,λ f=>?_⟩
  rw [f,cond_true] at e
  have no:∀k:Nat,k < 5->plZ (imPl m k)≠true->7=b:=λ k hk h=>by rw [e,yg8 hs hk (Bool.eq_false_iff.2 h)];rfl
  refine qu6 (no 0 (by decide)) λ x0=>qu6 (no 1 (by decide)) λ x1=>qu6 (no 2 (by decide)) λ x2=>qu6 (no 3 (by decide)) λ x3=>qu6 (no 4 (by decide)) λ x4=>?_
  rw [e,vq8 hs λ k hk=>by match k,hk with | 0,_=>exact x0 | 1,_=>exact x1 | 2,_=>exact x2 | 3,_=>exact x3 | 4,_=>exact x4];rfl
attribute [local go_sem] Oper.semAt_some
def vf6 (a b c d:Int) (v:List Int):Prop:=∃x y:Int,v=[x,y]/\(a<=x/\x < c)/\b<=y/\y < d
abbrev PlR (a b c d:Int):={ v:List Int // vf6 a b c d v }
def yh7 (a b c:Int) (i:Nat):List Int:=[a + (i:Int) % (c - a),b + (i:Int) / (c - a)]
def qk0 (a b c d:Int) (k:Int) (pre:List (PlR a b c d)):Prop:=(pre.length:Int)=k/\∀(i:Nat) (v:PlR a b c d),pre[i]?=some v->v.1=yh7 a b c i
theorem y70 (a b c d:Int):qk0 a b c d 0 []:=⟨rfl,λ i v e=>by simp at e⟩
theorem yr3 {a b c d k x y:Int} {pre:List (PlR a b c d)} (hp:qk0 a b c d k pre) (hk:k=(y - b) * (c - a) + (x - a)) (hx:a<=x/\x < c) (hy:b<=y/\y < d):qk0 a b c d (k + 1) (pre ++ [⟨[x,y],x,y,rfl,hx,hy⟩]):=by
 refine ⟨by simp [hp.1],λ i v e=>?_⟩
 rw [List.getElem?_append] at e
 split at e
 ·exact hp.2 i v e
 ·rename_i q
  have hl:=hp.1
  cases h:i - pre.length with
  | succ j=>rw [h] at e;simp at e
  | zero =>
   rw [h] at e
   simp only [List.getElem?_cons_zero,Option.some.injEq] at e
   subst e
   have hi:(i:Int)=(y - b) * (c - a) + (x - a):=by omega
   unfold yh7
   rw [hi,Int.add_comm ((y - b) * (c - a)),Int.add_mul_emod_self_right,Int.emod_eq_of_lt (by omega) (by omega),Int.add_mul_ediv_right _ _ (by omega),Int.ediv_eq_zero_of_lt (by omega) (by omega)]
   simp only [List.cons.injEq,and_true]
   exact ⟨by omega,by omega⟩
def ze6 (h:Int):Value->Nat
 | .int _ y=>(h - y).toNat
 | _=>0
set_option maxRecDepth 100000 in
set_option maxHeartbeats 1000000 in
theorem yh8 {a b c d:Int} (hac:a<=c/\-1099511627776<=a/\c<=1099511627776) (hbd:b<=d/\-1099511627776<=b/\d<=1099511627776) (W0:World) (b1:Nat) (t1:TypeId) (e1:W0.heap[b1]?=some (.cells #[.int .i64 a,.int .i64 b,.int .i64 c,.int .i64 d] t1 (0,0))) (n:Nat) :
  SeqStopsK (α:=PlR a b c d) Fence.wide n Tryd.prog 76 #[.pointer (some ⟨b1,0,none⟩)] (λ v=>(v.1.map λ x=>Value.int .i64 x).toArray) (λ W W'=>∀b∈[b1],W'.heap[b]?=W.heap[b]?)
   (λ xs=>qk0 a b c d ((d - b) * (c - a)) xs) (λ _=>True) ((d - b) * (c - a)).toNat W0:=λ l J Jx W hW hJ hJx hY h0=>by
 have l1:b1 < W0.heap.size:=(Array.getElem?_eq_some_iff.1 e1).1
 have c0:∀{V:World},V.heap[b1]?=some (.cells #[.int .i64 a,.int .i64 b,.int .i64 c,.int .i64 d] t1 (0,0))->V.cell? ⟨b1,0,none⟩=some (.int .i64 a):=λ e=>by simp [World.cell?,e]
 have c1:∀{V:World},V.heap[b1]?=some (.cells #[.int .i64 a,.int .i64 b,.int .i64 c,.int .i64 d] t1 (0,0))->V.cell? ⟨b1,1,none⟩=some (.int .i64 b):=λ e=>by simp [World.cell?,e]
 have c2:∀{V:World},V.heap[b1]?=some (.cells #[.int .i64 a,.int .i64 b,.int .i64 c,.int .i64 d] t1 (0,0))->V.cell? ⟨b1,2,none⟩=some (.int .i64 c):=λ e=>by simp [World.cell?,e]
 have c3:∀{V:World},V.heap[b1]?=some (.cells #[.int .i64 a,.int .i64 b,.int .i64 c,.int .i64 d] t1 (0,0))->V.cell? ⟨b1,3,none⟩=some (.int .i64 d):=λ e=>by simp [World.cell?,e]
 have f1:W.heap[b1]?=some (.cells #[.int .i64 a,.int .i64 b,.int .i64 c,.int .i64 d] t1 (0,0)):=by rw [hW.block b1 l1];exact e1
 refine callsIn_of_wp Tryd.func76 rfl trivial ?_ rfl
 have r1:=c1 f1
 have cw:0<=c - a:=by omega
 simp only [Tryd.ntmps76,List.size_toArray,List.length_cons,List.length_nil,Nat.reduceAdd,Nat.reduceSub,Array.replicate_succ,Array.replicate_zero,List.push_toArray,List.append_toArray,List.nil_append,List.cons_append]
 gi_wp2
 gi_loopw [3] (λ p wr=>∃(y:Int) (pre:List (PlR a b c d)),p=.int .i64 y/\(b<=y/\y<=d)/\qk0 a b c d ((y - b) * (c - a)) pre/\J pre wr/\wr.heap[b1]?=some (.cells #[.int .i64 a,.int .i64 b,.int .i64 c,.int .i64 d] t1 (0,0)))
  (λ p wr=>ze6 d p)
 case atStart=>exact ⟨b,[],rfl,⟨by omega,by omega⟩,by rw [Int.sub_self,Int.zero_mul];exact y70 a b c d,h0,f1⟩
 case round =>
  obtain ⟨y,pre,rfl,hy,hp,hJs,g1⟩:=hrel
  have r0:=c0 g1
  have r3:=c3 g1
  by_cases hlt:y < d
  ·have hlt':decide (y < d)=true:=decide_eq_true hlt
   gi_wp2
   gi_loopw [4] (λ p wr=>∃(x:Int) (pre:List (PlR a b c d)),p=.int .i64 x/\(a<=x/\x<=c)/\qk0 a b c d ((y - b) * (c - a) + (x - a)) pre/\J pre wr/\wr.heap[b1]?=some (.cells #[.int .i64 a,.int .i64 b,.int .i64 c,.int .i64 d] t1 (0,0)))
    (λ p wr=>ze6 c p)
   case atStart=>exact ⟨a,pre,rfl,⟨by omega,by omega⟩,by rw [Int.sub_self,Int.add_zero];exact hp,hJs,g1⟩
   case round =>
    obtain ⟨x,pre,rfl,hx,hp,hJs,g1⟩:=hrel
    have r2:=c2 g1
    by_cases hxt:x < c
    ·have hxt':decide (x < c)=true:=decide_eq_true hxt
     have m0:=Int.mul_nonneg (show 0<=y - b by omega) cw
     have m1:=Int.mul_le_mul_of_nonneg_right (show y - b<=d - b - 1 by omega) cw
     have m2:(d - b - 1) * (c - a)=(d - b) * (c - a) - (c - a):=by rw [Int.sub_mul,Int.one_mul]
     obtain ⟨fn,tmps,assign,body,hy',hR⟩:=hY pre ⟨[x,y],x,y,rfl,⟨hx.1,hxt⟩,hy.1,hlt⟩ wr hJs (by rw [<- Int.ofNat_lt,hp.1,Int.toNat_of_nonneg (by omega)];omega)
     dsimp only [List.map] at hy'
     gi_wp2
     refine ⟨λ h=>(by cases h),hR.mono ?_⟩
     rintro e W3 (⟨rfl,hJ3,hk3⟩ | ⟨rfl,hJx3⟩)
     ·have g13:=(hk3 b1 (by simp)).trans g1
      have ia:iadd .i64 x 1=x + 1:=IntWalk.i64_in _ (by omega)
      gi_wp2
      exact ⟨⟨x + 1,_,rfl,⟨by omega,by omega⟩,by rw [show x + 1 - a=(x - a) + 1 by omega,<- Int.add_assoc];exact yr3 hp rfl ⟨hx.1,hxt⟩ ⟨hy.1,hlt⟩,hJ3,g13⟩,by show (c - (x + 1)).toNat < (c - x).toNat;omega⟩
     ·gi_wp2
      refine bodyPost_ret (results_none rfl _ _ _) rfl ?_
      exact ⟨⟨_,rfl⟩,.inr ⟨_,trivial,hJx3⟩⟩
    ·have hxt':decide (x < c)=false:=decide_eq_false hxt
     gi_wp2
     obtain rfl:x=c:=by omega
     exact ⟨⟨y + 1,pre,rfl,⟨by omega,by omega⟩,by rw [show y + 1 - b=(y - b) + 1 by omega,Int.add_mul,Int.one_mul];exact hp,hJs,g1⟩,by show (d - (y + 1)).toNat < (d - y).toNat;omega⟩
  ·have hlt':decide (y < d)=false:=decide_eq_false hlt
   gi_wp2
   obtain rfl:y=d:=by omega
   go_end0
   exact ⟨⟨_,rfl⟩,.inl ⟨pre,hp,hJs⟩⟩
def qf1 (a b c d:Int) (p:List (List Int)):Prop:=lnI p=(d - b) * (c - a)/\∀(i:Nat) (v:List Int),p[i]?=some v->v=yh7 a b c i
theorem ze7 {a b c d:Int} (hac:a<=c/\-1099511627776<=a/\c<=1099511627776) (hbd:b<=d/\-1099511627776<=b/\d<=1099511627776):itP 76 [[.int .i64 a,.int .i64 b,.int .i64 c,.int .i64 d]] (vf6 a b c d) (qf1 a b c d) ((d - b) * (c - a)).toNat:=by
 refine ⟨enters_of Tryd.func76 (by kernel_rfl) rfl,λ W bs hb n=>?_⟩
 match bs,hb with
 | [b1],⟨⟨t1,e1⟩,_⟩ =>
  have:=yh8 hac hbd W b1 t1 e1 n
  have eS:(λ xs:List (PlR a b c d)=>qf1 a b c d (xs.map (·.1)))=λ xs=>qk0 a b c d ((d - b) * (c - a)) xs:=by
   funext xs
   apply propext
   unfold qf1 qk0
   constructor
   ·rintro ⟨h1,h2⟩
    exact ⟨by unfold lnI at h1;simpa using h1,λ i v e=>h2 i v.1 (by rw [List.getElem?_map,e];rfl)⟩
   ·rintro ⟨h1,h2⟩
    refine ⟨by unfold lnI;simpa using h1,λ i v e=>?_⟩
    rw [List.getElem?_map] at e
    cases ex:xs[i]? with
    | none=>rw [ex] at e;simp at e
    | some u=>rw [ex] at e;simp at e;rw [<- e];exact h2 i u ex
  rw [eS]
  exact this
end Go.Proofs.YthkidembkknoeaaDoor
namespace Go.Proofs.YthkidembkknoeaaDoor
open Go.RowKit PR QR
set_option linter.unusedVariables false
set_option linter.unusedSimpArgs false
set_option maxRecDepth 20000
def plrN (a b c d:Int):Nat:=((d - b) * (c - a)).toNat
def qa9 (m:Im) (t:Int) (pre:List (List Int)):Prop:=∀v∈pre,pxB m t (nthI v 0) (nthI v 1)=true
noncomputable def vf7 (m:Im) (t:Int):QR.RAnn where
 ok v:=vf6 0 0 (vaW m) (vaH m) v
 S p:=qf1 0 0 (vaW m) (vaH m) p
 N:=plrN 0 0 (vaW m) (vaH m)
 good p:=qa9 m t p
 slots:=QR.slotsOf Tryd.f30.ntmps [(2,.x (.c (.ptr 100000000000001000 0))),(3,.x (.c (.ptr 100000000000001001 0))),(4,.x (.c (.ptr 100000000000001002 0)))]
 blocks p:=[(100000000000001000,.cells (imC m)),(100000000000001001,.cells [.v (.int .u16 t)]),(100000000000001002,.cells [.v (.int .i64 0)])]
def yh9:QR.ja8:=QR.orc [(51,q83),(53,qm0),(52,vr4),(54,jl5),(55,qm1)]
set_option maxRecDepth 100000 in
theorem yr4 (m:Im) (t:Int) (V:List QR.XV->List (List QR.CV)->Prop):QR.ve2 Tryd.prog (yh9) (QR.ja4) (λ n=>bif Nat.beq n 7 then some (vf7 m t) else none) ((⟨itP,nthI,lnI,jx7,jt5⟩:QR.jx8)) (Tryd.f30.body.getD .skip) Tryd.f30.results.toList Tryd.f30.ntmps [.x (.agg (imC m)),.x (.c (.v (.int .u16 t)))] V=(True/\∀(i:Int),i=imFt m->(zz12 m)/\True/\ja0 (ine i 0) (True/\True/\V [XV.c (CV.v (Value.int .i64 i))] []) (∀(i:Int),i=0->∀(i_1:Int),i_1=0->∀(i_2:Int),i_2=vaW m->∀(i_3:Int),i_3=vaH m->(zz44 m)/\True/\true=true/\itP 76 [[Value.int .i64 i,Value.int .i64 i_1,Value.int .i64 i_2,Value.int .i64 i_3]] (λ (v:List Int)=>vf6 0 0 (vaW m) (vaH m) v) (λ (p:List (List Int))=>qf1 0 0 (vaW m) (vaH m) p) (plrN 0 0 (vaW m) (vaH m))/\jt5 (λ (v:List Int)=>vf6 0 0 (vaW m) (vaH m) v) 2/\qa9 m t []/\(true=true/\((true=true/\0=0/\0=0)/\(true=true/\1=1/\0=0)/\(true=true/\2=2/\0=0)/\True)/\(zz1 m)/\((IntKind.u16=IntKind.u16/\t=t)/\True)/\((IntKind.i64=IntKind.i64/\(0:Int)=0)/\True)/\True)/\(∀(pre:List (List Int)) (v:List Int),qa9 m t pre->ilt (lnI pre) (Int.ofNat (plrN 0 0 (vaW m) (vaH m)))=true->vf6 0 0 (vaW m) (vaH m) v->∀(i:Int),i=pxV m 0 (nthI v 0) (nthI v 1)->∀(i_4:Int),i_4=pxV m 1 (nthI v 0) (nthI v 1)->∀(i_5:Int),i_5=pxV m 2 (nthI v 0) (nthI v 1)->∀(i_6:Int),i_6=pxV m 3 (nthI v 0) (nthI v 1)->∀(i_7:Int),i_7=pxV m 4 (nthI v 0) (nthI v 1)->(zz108 m v)/\ja0 (bnot (pvB i i_4 i_5 i_6 i_7 t)) (True/\True/\true=true/\True/\V [XV.c (CV.v (Value.int .i64 8))] []) (True/\qa9 m t (jx7 pre v)/\true=true/\True/\true=true/\True/\(zz1 m)/\((IntKind.u16=IntKind.u16/\t=t)/\True)/\((IntKind.i64=IntKind.i64/\(0:Int)=0)/\True)/\True))/\∀(pre:List (List Int)),qf1 0 0 (vaW m) (vaH m) pre->qa9 m t pre->True/\True/\V [XV.c (CV.v (Value.int .i64 0))] [])):=by
 delta zz1 zz12 zz44 zz108
 try delta yh9
 try delta q83
 try delta qm0
 try delta vr4
 try delta jl5
 try delta qm1
 try delta ji3
 generalize @imFt=imFt
 generalize @imG=imG
 generalize @imIn=imIn
 generalize @intRow=intRow
 generalize @itP=itP
 generalize @jt5=jt5
 generalize @lnI=lnI
 generalize @nthI=nthI
 generalize @qf1=qf1
 generalize @plrN=plrN
 generalize @vf6=vf6
 generalize @pvB=pvB
 generalize @pxV=pxV
 generalize @qa9=qa9
 generalize @jx7=jx7
 generalize @vaH=vaH
 generalize @vaW=vaW
 generalize @w2=w2
 kernel_rfl
end Go.Proofs.YthkidembkknoeaaDoor
namespace Go.Proofs.YthkidembkknoeaaDoor
open Go.RowKit PR QR
set_option linter.unusedVariables false
set_option linter.unusedSimpArgs false
set_option maxRecDepth 20000
theorem zi7 (m:Im):imFt m=bif fitB m.w m.h then (bif imF m then 0 else 7) else 6:=rfl
theorem va_e {m:Im}:vaW m=(bif m.sol then 1 else m.w)/\vaH m=bif m.sol then 1 else m.h:=⟨rfl,rfl⟩
theorem ze8 {m:Im} (f:fitB m.w m.h=true):(1<=vaW m/\vaW m<=m.w)/\1<=vaH m/\vaH m<=m.h:=by
 have f4:=jg7.1 f
 rw [va_e.1,va_e.2]
 cases m.sol <;> simp <;> omega
theorem yu4 {m:Im} {t:Int} (f:fitB m.w m.h=true):qa3 m t=true↔∀x y:Int,0<=x->x < vaW m->0<=y->y < vaH m->pxB m t x y=true:=by
 have f4:=jg7.1 f
 rw [va_e.1,va_e.2]
 cases hs:m.sol
 ·exact jw2 f
 ·have pb:∀x y,pxB m t x y=pvB m.c0 m.c1 m.c2 m.a m.f t:=λ x y=>by unfold pxB pxV;rw [hs];rfl
  rw [qf0 f hs]
  exact ⟨λ h x y _ _ _ _=>by rw [pb];exact h,λ h=>by have:=h 0 0 (by omega) (by simp) (by omega) (by simp);rwa [pb] at this⟩
theorem y71 {w h:Int} {p:List (List Int)} (hp:qf1 0 0 w h p) (hw:1<=w) {x y:Int} (hx:0<=x/\x < w) (hy:0<=y/\y < h) : [x,y]∈p:=by
 obtain ⟨h1,h2⟩:=hp
 rw [Int.sub_zero,Int.sub_zero] at h1
 have m0:=Int.mul_nonneg hy.1 (show 0<=w by omega)
 have m1:=Int.mul_le_mul_of_nonneg_right (show y<=h - 1 by omega) (show 0<=w by omega)
 have m2:(h - 1) * w=h * w - w:=by rw [Int.sub_mul,Int.one_mul]
 have hl:(y * w + x).toNat < p.length:=by unfold lnI at h1;omega
 have e:=h2 _ _ (List.getElem?_eq_getElem hl)
 have:yh7 0 0 w (y * w + x).toNat=[x,y]:=by
  unfold yh7
  rw [Int.toNat_of_nonneg (by omega),Int.sub_zero,Int.add_comm (y * w),Int.add_mul_emod_self_right,Int.emod_eq_of_lt hx.1 hx.2,Int.add_mul_ediv_right _ _ (by omega),Int.ediv_eq_zero_of_lt hx.1 hx.2,Int.zero_add,Int.zero_add,Int.zero_add]
 rw [this] at e
 rw [<- e]
 exact List.getElem_mem hl
theorem zi8 {m:Im} (ok:imOk m=true) {x y:Int} (hx:0<=x/\x < vaW m) (hy:0<=y/\y < vaH m):imIn m x y=true:=by
 have:=ze8 (qu1.1 ok).1
 exact vr0.2 ⟨ok,⟨hx.1,by omega⟩,hy.1,by omega⟩
theorem a_iv:ja6 30 ve9:=by
 intro al ans hh hq
 unfold ve9 at hh
 split at hh <;> try (simp at hh;done)
 rename_i l t
 cases em:ji3 l with
 | none=>simp [em] at hh
 | some pm =>
 obtain ⟨m,Am⟩:=pm
 simp only [em] at hh
 simp only [Option.some.injEq] at hh
 subst hh
 refine jc0 (al':=[.x (.agg (imC m)),.x (.c (.v (.int .u16 t)))]) ⟨jw1 em λ p hp=>hq p (by simp [hp]),.v _,trivial⟩ ?_
 have hq:=asked hq
 refine QR.q50 (O:=yh9) (QR.ja3 yr2 (QR.ja3 y68 (QR.ja3 ze5 (QR.ja3 yg3 (QR.ja3 yr1 QR.jb1))))) mixed ((QR.ja4)) ((λ n=>bif Nat.beq n 7 then some (vf7 m t) else none)) yc0 Tryd.func30 (by kernel_rfl) (by kernel_rfl) (by simp) ?_
 rw [yr4]
 delta zz1 zz12 zz44 zz108
 have hG:=hq.1
 have e:imE m t=bif fitB m.w m.h then (bif imF m then (bif qa3 m t then 0 else 8) else 7) else 6:=rfl
 generalize imE m t=b at e ⊢
 have ef:=zi7 m
 cases f:fitB m.w m.h
 ·rw [f] at e ef
  simp [qu4,jb4,eqXs,eqX,eqo,eqLo,eqL,eqc,veq,eqUs,ja1,bnot,jf5,hG,f,e,ef,ine]
 cases g:imF m
 ·rw [f,g] at e ef
  simp [qu4,jb4,eqXs,eqX,eqo,eqLo,eqL,eqc,veq,eqUs,ja1,bnot,jf5,hG,f,g,e,ef,ine]
 rw [f,g] at e ef
 have ok:=qu1.2 ⟨f,g⟩
 have v1:=ze8 f
 have w1:=jy5 f
 have it:=ze7 (a:=0) (b:=0) (c:=vaW m) (d:=vaH m) ⟨by omega,by omega,by omega⟩ ⟨by omega,by omega,by omega⟩
 simp only [qu4,jb4,eqXs,eqX,eqo,eqLo,eqL,eqc,veq,eqUs,ja1,bnot,jf5,hG,f,g,ef,cond_true,ine,bne_self_eq_false,true_and,and_true,and_self,implies_true,true_implies,reduceCtorEq,false_implies,Bool.not_true,Bool.not_false,forall_eq,or_false,exists_eq_right,exists_eq_right',Bool.false_eq_true]
 refine ⟨it,λ v ⟨x,y,e,_⟩=>(by rw [e];rfl),λ v hv=>(by simp at hv),λ pre v hg hl hv=>?_,λ pre hp hg=>?_⟩
 ·obtain ⟨x,y,rfl,hx,hy⟩:=hv
  have hx':nthI [x,y] 0=x:=rfl
  have hy':nthI [x,y] 1=y:=rfl
  rw [hx',hy']
  refine ⟨zi8 ok hx hy,λ h=>?_,λ h u hu=>?_⟩
  ·have:qa3 m t=false:=by
    rw [<- Bool.not_eq_true,yu4 f]
    intro k
    have k:pvB _ _ _ _ _ _=true:=k x y hx.1 hx.2 hy.1 hy.2
    rw [k] at h;simp at h
   rw [e,this];rfl
  ·unfold jx7 at hu
   rcases List.mem_append.1 hu with hu | hu
   ·exact hg u hu
   ·simp only [List.mem_singleton] at hu
    subst hu
    show pvB _ _ _ _ _ _=true
    rw [hx',hy']
    cases q:pvB (pxV m 0 x y) (pxV m 1 x y) (pxV m 2 x y) (pxV m 3 x y) (pxV m 4 x y) t
    ·rw [q] at h;simp at h
    ·rfl
 ·have:qa3 m t=true:=by
   rw [yu4 f]
   intro x y x0 x1 y0 y1
   exact hg _ (y71 hp (by omega) ⟨x0,x1⟩ ⟨y0,y1⟩)
  rw [e,this];rfl
end Go.Proofs.YthkidembkknoeaaDoor
namespace Go.Proofs.YthkidembkknoeaaDoor
open Go.RowKit PR QR
structure Rw where
 kd:Int
 im:Int
 x:Int
 y:Int
 msk:Int
 mx:Int
 my:Int
 op:Int
 opr:Int
 md:Int
 fl:Int
structure Pc where
 W:Int
 H:Int
 S:Int
 md:Int
 n:Int
 q:Int->Nat->Int
structure Sn where
 b:Int
 x:Int
 y:Int
 w:Int
 h:Int
 tw:Int
 th:Int
 m:Int
 ol:Int->Int
 pn:Int
 pq:Int->Pc
 rn:Int
 rq:Int->Rw
structure Dx where
 b:Bool
 m:List Int
 i:Int
 n:Int
 on:Int
 ol:Int->Int
 mn:Int
 ml:Int->Im
 pn:Int
 pl:Int->Ov
end Go.Proofs.YthkidembkknoeaaDoor
