/-
  Package hier: each of its laws for every argument; no conditions. The last text states which.
-/
import Derived.Test.YtdaglldahidmbaaGAHL
import Derived.Test.YtdaglldahidmbaaGVG
import Derived.Test.YtdaglldahidmbaaGVB
import Derived.Test.YtdaglldahidmbaaGAmTn
set_option linter.unusedVariables false
set_option linter.unusedSimpArgs false
open Go Go.Am Go.Proofs
namespace Go.Proofs.Ytdaglldahidmbaa
set_option maxRecDepth 100000
def qP(nx:Nat)(l:List E4)(S:Value)(M:aA):Prop:=(S=fL/\l= [])\/ ∃b,S=aC b 0 l.length l.length/\0<l.length/\nx<=b/\M.get b=some ⟨(l.map bJ).flatten,37,4,0,true⟩
def Xc(x:Nat×List E4)(nx:Nat)(v:Value)(M:aA):Prop:= ∃S,v= .agg ⟨[i64 (x.1:Int),S]⟩/\qP nx x.2 S M
instance:AQ Xc:=⟨fun hE ⟨S,h1,h2⟩=>⟨S,h1,h2.imp id fun⟨b,q1,q2,q3,q4⟩=>⟨b,q1,q2,q3,hE _ _ q4⟩⟩⟩
theorem Wz{M0 M M':aA}{S:Value}{l:List E4}{p r6:Nat}(h:cX 37 4 M0 [p,r6] l.length ((l.map bJ).flatten) S M)(hk: ∀id,id≠r6->M'.get id=M.get id):qP M0.next l S M':=by
 rcases h with⟨rfl,h0,_⟩|⟨b,rfl,h2,_,h3,h5,h6⟩
 ·exact .inl ⟨rfl,List.eq_nil_of_length_eq_zero h0⟩
 ·exact .inr ⟨b,rfl,h2,h3,(hk b (fun e=>h5 (by simp [e]))).trans h6⟩
theorem w9b(size:Int)(a4:Option Addr)(a5:Nat)(ns:List Int)(md:Int){M:aA}(hM:aB M)(e6:aN ns (.slice a4 ns.length a5) M): ∃v_ M',Ev Try.prog [] 10 [i64 size,.slice a4 ns.length a5,i64 md] M v_ M'/\Ext M M'/\aB M'/\Xc (dN size,rF size ns md) M.next v_ M':=by
 obtain⟨b1,M2,c5,d8,g5,E6,e4⟩:=bE hM ⟨[i64 0,fL],26,2,0,true⟩
 have e8:M.next<=b1:=by rw[<-c5];exact(Ext.refl M).next
 have X9:=(Ext.refl M).trans E6
 obtain⟨f3,f4,c8,f1,e7,d7,c1,b2,c7⟩:=aM (x:=(size,12)) e4 kA (⟨⟨_,_,rfl,rfl,rfl⟩,rfl⟩)
 have c6:=c1.old g5
 have a7:f3=(i64 (aD size 12)):=c7
 subst a7
 have c4:=X9.trans c1
 obtain⟨d6,c9,a1,a6,d9,c2,b3⟩:=bE b2 ⟨[i64 0,fL],26,2,0,true⟩
 have a3:=mT a1 c4
 have a0:=fV c6 a1
 have e0:=c2.old c6
 have d2:=c4.trans c2
 obtain⟨d0,f2,e1,b8,d3,b4,e9⟩:=aY (o:=0) (v:=(.agg ⟨[i64 (IntKind.wrap .i64 ((1:Int)+(aD size 12))),fL]⟩)) (new:= [i64 (IntKind.wrap .i64 ((1:Int)+(aD size 12))),fL]) d2 a3 b3 wC d9 rfl rfl (Nat.zero_le _) (Nat.le_of_ble_eq_true rfl) rfl
 have e2:=(b8 _ a0).trans e0
 obtain⟨d1,b0,d4,b5,a8,a2,a9,c0⟩:=loop9 (md:=md) b4 d3 e6 a3 (N:=(dN size:Int)) (by rw[<-aAp];exact e1) e2 (Ne.symm a0) (by have:=dU size;simp only [Bool.and_eq_true,decide_eq_true_eq];omega)
 have e5:isCell a2=true:=cX.isCell c0
 obtain⟨c3,q49,e3,b9,d5,b6,f0⟩:=aY (o:=0) (v:=(.agg ⟨[i64 (dN size:Int),a2]⟩)) (new:= [i64 (dN size:Int),a2]) d4 e8 b5 wC a8 rfl (by show(isCell (i64 _)&&(isCell a2&&true))=true;rw[e5];rfl) (Nat.zero_le _) (Nat.le_of_ble_eq_true rfl) rfl
 have b7:=w9_raw size a4 a5 ns md M b1 M2 c8 d6 c9 d0 a2 d1 c3
 exact⟨.agg ⟨[i64 (dN size:Int),a2]⟩,c3,Ev.told_cell aF aE Try.func10 aAy (by kernel_rfl) rK10 (fun B=>Bm (hQ 19 Xu (iE _)) 0 b0) (fun _ h=>cO h) b7 (mS (a:=⟨b1,0,none⟩) Bc wC e3 rfl) (hk (bR (by rw[<-c5,<-d8];kernel_rfl) Nat.one_ne_zero) (hk (aJ rfl f1 e7 d7) (hk (bR (by rw[<-a1,<-a6];kernel_rfl) Nat.one_ne_zero) (hk (dA f2) (hk (fP rfl) (hk (lA ⟨Bc,wC⟩ a9 rfl) (hk (dA q49) hn))))))),d5,b6,⟨_,rfl,Wz c0 b9⟩⟩
abbrev Q10b:=FC (Vw pI aN pI) Xc (fun x:Int×List Int×Int=>(dN x.1,rF x.1 x.2.1 x.2.2))
theorem Zb{x:Int×List Int×Int}{lv:List Value}{M:aA}(hM:aB M)(h:(Vw pI aN pI) x lv M): ∃v M',lX Try.prog [] 10 Q10b lv M v M':=by
 refine FC.con h ?_
 obtain⟨g0,g1,g2,rfl,k0,k1,k2⟩:=h
 obtain⟨size,ns,md⟩:=x
 obtain rfl:=k0
 obtain rfl:=k2
 obtain⟨a,c,rfl⟩:=aI.form k1
 obtain⟨v,M',h1,h2,_,h3⟩:=w9b size a c ns md hM k1
 exact⟨v,M',h1,h2,h3⟩
abbrev Q9:=FC as0 (plain pB) (fun _=>true)
theorem con9{x:Unit}{lv:List Value}{M:aA}(hM:aB M)(h:as0 x lv M): ∃v M',lX Try.prog [] 9 Q9 lv M v M':=by
 refine FC.con h ?_
 obtain rfl:=h
 exact⟨_,M,Ev.of_spec Wu rfl,Ext.refl M,rfl⟩
theorem cW(z:Int):(!(z==z))=false:=by rw[beq_self_eq_true];rfl
theorem Wy{nx:Nat}{l:List E4}{S:Value}{M:aA}(h:qP nx l S M): ∀b o m c,S=aC b o m c->b<M.next:=by
 intro b o m c e
 rcases h with⟨rfl,_⟩|⟨b',rfl,_,_,h4⟩
 ·cases e
 ·cases e;exact aA.lt_of_get h4
theorem qP.ext{nx:Nat}{l:List E4}{S:Value}{M M':aA}(h:qP nx l S M)(hE: ∀id b,M.get id=some b->M'.get id=some b):qP nx l S M':=h.imp id fun⟨b,q1,q2,q3,q4⟩=>⟨b,q1,q2,q3,hE _ _ q4⟩
theorem qP.cell{nx:Nat}{l:List E4}{S:Value}{M:aA}(h:qP nx l S M):isCell S=true:=by
 rcases h with⟨rfl,_⟩|⟨b,rfl,_⟩<;>rfl
instance{nx:Nat}:AP (fun(l:List E4) S M=>qP nx l S M):=⟨fun{x y v M} h k=>by
 rcases h with⟨rfl,rfl⟩|⟨b,rfl,h1,h2,h3⟩
 ·rcases k with⟨_,rfl⟩|⟨b,hb,_⟩
  ·rfl
  ·cases hb
 ·rcases k with⟨hb,_⟩|⟨b',hb,k1,k2,k3⟩
  ·cases hb
  ·simp only [aC,Value.slice.injEq,Option.some.injEq,Addr.mk.injEq,and_true] at hb
   obtain⟨e1,e2,_⟩:=hb
   subst e1
   rw[h3] at k3
   have e3:(x.map bJ).flatten=(y.map bJ).flatten:=by simpa using k3
   clear h1 h2 h3 k1 k2 k3
   induction x generalizing y with
   |nil=>exact(List.eq_nil_of_length_eq_zero e2.symm).symm
   |cons a x ih=>cases y with
    |nil=>cases e2
    |cons c y=>
     simp only [List.map_cons,List.flatten_cons,bJ,List.cons_append,List.nil_append,List.cons.injEq] at e3
     obtain⟨q1,q2,q3,q4,q5⟩:=e3
     rw[ih (by simpa using e2) (by simpa using e2) q5]
     have:bJ a=bJ c:=by simp [bJ,q1,q2,q3,q4]
     rw[Vk.inj (g:=bJ) _ _ this],fun hE h=>qP.ext h hE⟩
theorem Uh{nx:Nat}{l:List E4}{S:Value}{M:aA}(h:qP nx l S M):qP nx l S (hid nx M):=h.imp id fun⟨b,q1,q2,q3,q4⟩=>⟨b,q1,q2,q3,jO q3 q4⟩
instance{nx:Nat}:AP (qP nx):=(inferInstance:AP (fun(l:List E4) S M=>qP nx l S M))
end Go.Proofs.Ytdaglldahidmbaa
