/-
  Package hier: each of its laws for every argument; no conditions. The last text states which.
-/
import Derived.Test.YtdaglldahidmbaaGreatGAmQ
import Derived.Test.YtdaglldahidmbaaGreatGAmLoop
set_option linter.unusedVariables false
set_option linter.unusedSimpArgs false
noncomputable section
namespace Go.Am
open Go
variable{P:Program}{GL:List Nat}
def wY(M:aB)(L:Value)(n:Nat)(rows:List (List Value)):Prop:=
 ((∃a,L= .slice a 0 0/\n=0):Prop)\/∃b o c blk pre post,L= .slice (some ⟨b,o,none⟩) n c/\M.get b=some blk/\blk.cs=pre++rows.flatten++post/\pre.length=o/\∀r∈rows,r.length=blk.esz
theorem wY.ext{M M':aB}(hE:∀id b,M.get id=some b->M'.get id=some b){L:Value}{n:Nat}{rows:List (List Value)}(h:wY M L n rows):wY M' L n rows:=by
 rcases h with h|⟨b,o,c,blk,pre,post,h1,h2,h3,h4⟩
 ·exact .inl h
 ·exact .inr ⟨b,o,c,blk,pre,post,h1,hE _ _ h2,h3,h4⟩
theorem Lz{n i:Nat}{rows:List (List Value)}{l:List Value}(hr:∀r∈rows,r.length=n)(hk:rows[i]?=some l)(post:List Value):dJ n ((rows.flatten++post).drop (i*n))=some l:=by
 induction rows generalizing i with
 |nil=>simp at hk
 |cons r rows ih=>
  have hl:r.length=n:=hr r (List.mem_cons_self ..)
  cases i with
  |zero=>
   simp at hk
   subst hk
   subst hl
   simp only [Nat.zero_mul,List.drop_zero,List.flatten_cons,List.append_assoc]
   exact yF _ _
  |succ i=>
   simp at hk
   rw[List.flatten_cons,Nat.succ_mul,Nat.add_comm,<-List.drop_drop,List.append_assoc]
   rw[show(r++(rows.flatten++post)).drop n=rows.flatten++post by rw[<-hl,List.drop_left]]
   exact ih (fun r h=>hr r (List.mem_cons_of_mem _ h)) hk
theorem Au{n:Nat}:∀{r1 r2:List (List Value)} {p1 p2:List Value},(∀r∈r1,r.length=n)->(∀r∈r2,r.length=n)->r1.length=r2.length->r1.flatten++p1=r2.flatten++p2->r1=r2
 | [],[],_,_,_,_,_,_=>rfl
 | [],_::_,_,_,_,_,h,_=>by simp at h
 |_::_,[],_,_,_,_,h,_=>by simp at h
 |a::r1,b::r2,p1,p2,h1,h2,hl,he=>by
  simp only [List.flatten_cons,List.append_assoc] at he;obtain⟨rfl,a0⟩:=List.append_inj he (by rw[h1 a (List.mem_cons_self ..),h2 b (List.mem_cons_self ..)]);rw[Au (fun r h=>h1 r (List.mem_cons_of_mem _ h)) (fun r h=>h2 r (List.mem_cons_of_mem _ h)) (by simpa using hl) a0]
theorem wY.unique{w:Nat}{M:aB}{L:Value}{n1 n2:Nat}{r1 r2:List (List Value)}(h1:wY M L n1 r1)(h2:wY M L n2 r2)(l1:r1.length=n1)(l2:r2.length=n2)(w1:∀r∈r1,r.length=w)(w2:∀r∈r2,r.length=w):n1=n2/\r1=r2:=by
 rcases h1 with⟨a,rfl,rfl⟩|⟨b,o,c,blk,pre,post,rfl,k2,k3,k4,_⟩
 ·have h0:n2=0:=by
   rcases h2 with⟨_,_,h0⟩|⟨b,o,c,blk,pre,post,k1,_⟩
   ·exact h0
   ·simp only [Value.slice.injEq] at k1;exact k1.2.1.symm
  subst h0;exact⟨rfl,by rw[List.eq_nil_of_length_eq_zero l1,List.eq_nil_of_length_eq_zero l2]⟩
 ·rcases h2 with⟨_,k1,h0⟩|⟨b',o',c',blk',pre',post',k1,q2,q3,q4,_⟩
  ·simp only [Value.slice.injEq] at k1;obtain⟨_,h1,_⟩:=k1;subst h0;subst h1;exact⟨rfl,by rw[List.eq_nil_of_length_eq_zero l1,List.eq_nil_of_length_eq_zero l2]⟩
  ·simp only [Value.slice.injEq,Option.some.injEq,Addr.mk.injEq] at k1;obtain⟨⟨rfl,rfl,_⟩,rfl,rfl⟩:=k1;rw[k2] at q2;cases q2;refine⟨rfl,?_⟩;rw[k3] at q3;rw[List.append_assoc,List.append_assoc] at q3;obtain⟨_,q5⟩:=List.append_inj q3 (by rw[k4,q4]);exact Au w1 w2 (by rw[l1,l2]) q5
theorem aO{M M':aB}(hE:Go.Am.Ext M M'){t:TypeId}{a:Addr}{v:Value}(h:bA P t a M=some v):bA P t a M'=some v:=by
 unfold bA at h⊢;split at h
 ·rename_i d b hd hb;simp only [hd,hE.old hb];exact h
 ·cases h
theorem wY.form{M:aB}{L:Value}{n:Nat}{rows:List (List Value)}(h:wY M L n rows):∃a c,L= .slice a n c:=by
 rcases h with⟨a,rfl,rfl⟩|⟨b,o,c,blk,pre,post,rfl,_⟩
 ·exact⟨_,_,rfl⟩
 ·exact⟨_,_,rfl⟩
theorem wY.ln{M:aB}{a:Option Addr}{n c m:Nat}{rows:List (List Value)}(h:wY M (.slice a n c) m rows):a.isNone=true->n=0/\c=0:=by
 intro ha;rcases h with⟨a',h,_⟩|⟨b,o,c',blk,pre,post,h,_⟩
 ·simp only [Value.slice.injEq] at h;exact⟨h.2.1,h.2.2⟩
 ·simp only [Value.slice.injEq] at h;obtain⟨rfl,_⟩:=h;cases ha
theorem aM{i:Nat}(h:i<9223372036854775807):IntKind.wrap .i64 (((i:Nat):Int)+1)=((i+1:Nat):Int):=by have h2:((i:Int)+1+9223372036854775808)%18446744073709551616=(i:Int)+1+9223372036854775808:=Int.emod_eq_of_lt (by omega) (by omega);simp only [IntKind.wrap,IntKind.bits,IntKind.signed];simp;omega
theorem Gv:∀{n j:Nat} {l r:List Value},dJ n l=some r->j<n->l[j]?=r[j]?
 |0,_,_,_,_,h=>absurd h (Nat.not_lt_zero _)
 |n+1,j,[],r,h,_=>by simp [dJ] at h
 |n+1,j,v::l,r,h,hj=>by
  simp only [dJ] at h;split at h
  ·rename_i r' hr;cases h;cases j with
   |zero=>rfl
   |succ j=>simpa using Gv hr (by omega)
  ·cases h
def hid(n:Nat)(M:aB):aB:={M with hide:=(0,n)::M.hide}
theorem xO{n:Nat}{M:aB}{id:Nat}{b:aR}:(hid n M).get id=some b↔n<=id/\M.get id=some b:=by
 rw[cB,cB];simp only [hid,bD];have h0:Nat.ble 0 id=true:=Nat.ble_eq_true_of_le (Nat.zero_le _);rw[h0];simp only [Bool.true_and,Bool.or_eq_false_iff];constructor
 ·rintro⟨h1,⟨h2,h3⟩,h4⟩;refine⟨?_,h1,h3,h4⟩;by_cases hh:n<=id
  ·exact hh
  ·have:Nat.blt id n=true:=Nat.ble_eq_true_of_le (by omega);rw[this] at h2;cases h2
 ·rintro⟨h1,h2,h3,h4⟩;refine⟨h2,⟨?_,h3⟩,h4⟩;cases hb:Nat.blt id n
  ·rfl
  ·have:=xAd hb;omega
theorem Vr{n:Nat}{M:aB}{id:Nat}{b:aR}(h:(hid n M).get id=some b):M.get id=some b:=(xO.1 h).2
def bS(H:List (Nat×Nat))(M:aB):aB:={M with hide:=H++M.hide}
theorem qD{a b n:Nat}{l:List (Nat×Nat)}:bD ((a,b)::l) n=true↔(a<=n/\n<b)\/bD l n=true:=by
 simp only [bD,Bool.or_eq_true,Bool.and_eq_true];constructor
 ·rintro(⟨h1,h2⟩|h)
  ·exact .inl ⟨xAd h1,xAd h2⟩
  ·exact .inr h
 ·rintro(⟨h1,h2⟩|h)
  ·exact .inl ⟨Nat.ble_eq_true_of_le h1,Nat.ble_eq_true_of_le h2⟩
  ·exact .inr h
theorem Da{l r:List (Nat×Nat)}{n:Nat}:bD (l++r) n=true↔bD l n=true\/bD r n=true:=by
 induction l with
 |nil=>simp [bD]
 |cons p l ih=>
  obtain⟨a,b⟩:=p
  rw[List.cons_append,qD,qD,ih,or_assoc]
theorem bM{H:List (Nat×Nat)}{M:aB}{id:Nat}{b:aR}:(bS H M).get id=some b↔ ¬bD H id=true/\M.get id=some b:=by
 rw[cB,cB];have h1:bD (bS H M).hide id=false↔ ¬bD H id=true/\bD M.hide id=false:=by
  show bD (H++M.hide) id=false↔_;cases hb:bD (H++M.hide) id
  ·have:¬(bD H id=true\/bD M.hide id=true):=fun h=>by rw[Da.2 h] at hb;cases hb
   simp only [not_or] at this;simp [this.1,this.2]
  ·have:=Da.1 hb;simp;intro h;rcases this with h2|h2
   ·rw[h] at h2;cases h2
   ·exact h2
 constructor
 ·rintro⟨a,b,c⟩;exact⟨(h1.1 b).1,a,(h1.1 b).2,c⟩
 ·rintro⟨a,b,c,d⟩;exact⟨b,h1.2 ⟨a,c⟩,d⟩
theorem Sz{H:List (Nat×Nat)}{M M':aB}(hE:Go.Am.Ext M M'){id:Nat}{b:aR}(h:(bS H M).get id=some b):(bS H M').get id=some b:=by rw[bM] at h⊢;exact⟨h.1,hE.old h.2⟩
theorem Ta{H:List (Nat×Nat)}{M M':aB}{x:Nat}(hx:M.next=x)(hE:Go.Am.Ext M M'){id:Nat}{b:aR}(h:(bS H M).get id=some b):(bS ((x,x+1)::H) M').get id=some b:=by
 rw[bM] at h⊢;refine⟨fun hh=>?_,hE.old h.2⟩;have:=aB.lt_of_get h.2;rcases qD.1 hh with hh|hh
 ·omega
 ·exact h.1 hh
theorem Qe{H:List (Nat×Nat)}{M M':aB}{x:Nat}(hk:∀id,id≠x->id<M.next->M'.get id=M.get id)(hx:∀id,¬bD H id=true->id≠x){id:Nat}{b:aR}(h:(bS H M).get id=some b):(bS H M').get id=some b:=by rw[bM] at h⊢;exact⟨h.1,(hk id (hx id h.1) (aB.lt_of_get h.2)).trans h.2⟩
theorem Tb{H:List (Nat×Nat)}{M:aB}{id:Nat}{b:aR}(h:(bS H M).get id=some b):M.get id=some b:=(bM.1 h).2
theorem tT{M M0:aB}{a:Nat}(hE:Go.Am.Ext M0 M)(ha:M0.next<=a)(hM:aA M)(blk:aR)(hm:dS blk=false:=by rfl):∃b M1,M.next=b/\(M.put a none).alloc blk=M1/\M1.get b=some blk/\Go.Am.Ext M0 M1/\aA M1/\(∀id,id≠a->id<M.next->M1.get id=M.get id):=by have a0:aA (M.put a none):=hM;refine⟨_,_,rfl,rfl,mW a0 blk hm,(hE.put none ha).trans (Go.Am.Ext.alloc _ _),a0.ext (Go.Am.Ext.alloc _ _),fun id h1 h2=>?_⟩;rw[Fv blk (show id<(M.put a none).next from h2),uT none h1]
theorem cV{deps id:Nat}:∀{dn:List jW},(∀d∈dn,d.loud≠0->id<d.lo)->¬bD (aP deps dn) id=true
 | [],_=>by simp [aP,bD]
 |x::dn,h=>by
  have ih:=cV (deps:=deps) (dn:=dn) fun d hd=>h d (List.mem_cons_of_mem _ hd)
  unfold aP;cases hq:(Nat.beq x.loud 0||deps.testBit x.ix||Nat.beq x.lo x.hi)<;>simp only [cond_true,cond_false]
  ·rw[qD];rintro(h1|h1)
   ·have hl:x.loud≠0:=fun h0=>by rw[h0] at hq;simp at hq
    have:=h x (List.mem_cons_self ..) hl;omega
   ·exact ih h1
  ·exact ih
theorem mkX{A B:aB}(k:Nat)(l)(h:B.hide=A.hide):aB.mk A.blks A.next (aP k l++B.hide) A.log=bS (aP k l) A:=by rw[h];rfl
end Go.Am
end

noncomputable section
namespace Go.Am
open Go
variable{P:Program}
theorem yA{w:Nat}:∀{rows:List (List Value)},(∀r∈rows,r.length=w)->rows.flatten.length=rows.length*w
 | [],_=>by simp
 |r::rows,h=>by
  rw[List.flatten_cons,List.length_append,yA fun r h'=>h r (List.mem_cons_of_mem _ h'),h r (List.mem_cons_self ..),List.length_cons,Nat.succ_mul];omega
end Go.Am
end

noncomputable section
namespace Go.Am
open Go Go.ChangeShapes Go.WideShapes
variable{P:Program}{w:World}
structure Ew(P:Program)(w:World)(n m:Nat)(bs:List (Nat×aR))(φ0:dX):Prop where
 le:n<=m
 dom:∀i e,φ0 i=some e->n<=i/\i<m
 ids:∀p∈bs,n<=p.1/\p.1<m
 nodup:(bs.map (·.1)).Nodup
 ro:∀p∈bs,p.2.app=false/\p.2.wf=p.2.cs.length
 rel:∀p∈bs,∃ent,φ0 p.1=some ent/\∀φ:dX,φ0.le φ->mS P w.heap.size φ w ent p.2
def Has(M:aB)(bs:List (Nat×aR)):Prop:=∀p∈bs,M.get p.1=some p.2
theorem Ew.nil(n:Nat):Ew P w n n [] (fun _=>Option.none):=by refine⟨Nat.le_refl _,fun i e h=>?_,fun p h=>?_,by simp,fun p h=>?_,fun p h=>?_⟩<;>cases h
section
variable{H:Type}{enc:TypeId×Value->H}{S E:TypeId}{k:Nat}{fs:Array Field}
theorem Ow{c:Array Value}{d:Nat}:∀{css:List (List Value)} {o:Nat},(∀i cs,css[i]?=some cs->cs.length=d/\∀j,j<d->c[o+i*d+j]?=cs[j]?)->∀j v,css.flatten[j]?=some v->c[o+j]?=some v
 | [],o,_,j,v,hv=>by simp at hv
 |cs::css,o,h,j,v,hv=>by
  obtain⟨h1,h2⟩:=h 0 cs rfl;simp only [List.flatten_cons] at hv;by_cases hj:j<d
  ·rw[List.getElem?_append_left (by omega)] at hv;have:=h2 j hj;rw[Nat.zero_mul,Nat.add_zero] at this;rw[this,hv]
  ·rw[List.getElem?_append_right (by omega)] at hv;have:=Ow (c:=c) (d:=d) (css:=css) (o:=o+d) (fun i cs' hi=>by
    obtain⟨k1,k2⟩:=h (i+1) cs' (by simpa using hi);refine⟨k1,fun j hj=>?_⟩;rw[<-k2 j hj];congr 1;rw[Nat.succ_mul];omega) (j-cs.length) v hv
   rw[h1] at this;rw[<-this];congr 1;omega
theorem Rn{a:Addr}(h:a.spot=none)(n:Nat):a.add n=⟨a.block,a.off+n,none⟩:=by cases a;simp only at h;subst h;exact tF _ _ _
end
end Go.Am
end

noncomputable section
namespace Go.Am
open Go Go.ChangeShapes Go.WideShapes
variable{P:Program}{GL:List Nat}{w:World}{φ:dX}
theorem Rz{f:FuncId}{args args':List Value}{v:Value}{M':aB}{l:List (Nat×aR)}{next:Nat}
  (hK:Hd P GL φ l next w) (h:Ev P GL f args (cR l next) v M') (ha:cE φ args args'):
  Calls P f args'.toArray w fun e w'=>∃φ' v',e= .returned v'/\Hc w w'/\bH φ' v v'/\φ.le φ'/\hI P GL w.heap.size φ' M' w':=by
 have hG:jP φ (cR l next) M':=fun id h1 _=>hK.fresh id h1
 have hc:=h.run w.heap.size φ w hK.rel hG args'.toArray ha
 refine hc.mono fun e w' ⟨L,φ',v',he,hlog,hp,hv'⟩=>⟨φ',v',he,⟨hp.fr.os,hp.fr.output,hp.fr.size,fun k hk=>?_⟩,hv',hp.le hG,hp.rel⟩
 rcases hp.fr.block k hk with h1|⟨h2,_⟩
 ·exact h1
 ·exact absurd h2.1 (Nat.not_le.2 hk)
theorem aA.start(l:List (Nat×aR))(n:Nat):aA (cR l n):=fun id h=>by simp [cR,bD] at h
theorem Ae:∀{l:List (Nat×aR)} {p:Nat×aR},(l.map (·.1)).Nodup->p∈l->(oE l).get p.1=some p.2
 | [],_,_,h=>by cases h
 |(i,b)::l,p,hn,h=>by
  simp only [List.map_cons,List.nodup_cons] at hn;unfold oE;rw[Tr.get_set];rcases List.mem_cons.1 h with h|h
  ·rw[h,if_pos rfl]
  ·have:p.1≠i:=fun he=>hn.1 (he▸List.mem_map.2 ⟨p,h,rfl⟩)
   rw[if_neg this];exact Ae hn.2 h
theorem Ew.has{m:Nat}{bs:List (Nat×aR)}{φ0:dX}(h:Ew P w 0 m bs φ0):Has (cR bs m) bs:=fun p hp=>
 cB.2 ⟨(h.ids p hp).2,rfl,Ae h.nodup hp,by unfold dS;rw[(h.ro p hp).1];rfl⟩
theorem Ew.knows{m:Nat}{bs:List (Nat×aR)}{φ0:dX}(h:Ew P w 0 m bs φ0):Hd P [] φ0 bs m w:=⟨fun p hp=>by
 obtain⟨e,h1,h2⟩:=h.rel p hp;exact⟨e,h1,h2 φ0 (dX.le_refl _)⟩,h.ro,fun g hg=>(by cases hg),fun id hid=>by
 cases hh:φ0 id with
 |none=>rfl
 |some e=>have:=h.dom id e hh;omega⟩
section
variable{H:Type}{enc:TypeId×Value->H}{S E:TypeId}{k:Nat}{fs:Array Field}{held:Bool}
end
end Go.Am
end

noncomputable section
namespace Go.Am
open Go Go.ChangeShapes Go.WideShapes
variable{P:Program}{w:World}{H:Type}{enc:TypeId×Value->H}{S E:TypeId}{k:Nat}{fs:Array Field}{held:Bool}
end Go.Am
end

noncomputable section
namespace Go.Am
open Go
variable{P:Program}
theorem uK{id k j:Nat}{g g':Code->St->Option (cT×St)}(h:eX id [k,j]=false):qB [(k,g),(j,g')] id=none:=by
 have ne:∀x:Nat,Nat.beq x id=false->Nat.beq id x=false:=fun x hx=>by
  cases hb:Nat.beq id x
  ·rfl
  ·rw[xBa hb] at hx;simp at hx
 simp only [eX,Bool.or_false,Bool.or_eq_false_iff] at h;unfold qB;rw[ne k h.1];exact bQ (by simp only [eX,Bool.or_false];exact h.2)
end Go.Am
end
noncomputable section
namespace Go.Am
open Go
variable{P:Program}
end Go.Am
end
noncomputable section
namespace Go.Am
open Go
end Go.Am
end

noncomputable section
namespace Go.Am
open Go Go.ChangeShapes Go.WideShapes
variable{P:Program}{w:World}{H:Type}{enc:TypeId×Value->H}{S E:TypeId}{d:Nat}
end Go.Am
end

noncomputable section
namespace Go.Am
open Go Go.ChangeShapes Go.WideShapes
variable{P:Program}{w:World}{H:Type}{enc:TypeId×Value->H}{S E:TypeId}{d:Nat}
theorem Gb:∀{a b:List Value},dU a=true->dU b=true->dU (a++b)=true
 | [],_,_,h=>h
 |v::a,b,h1,h2=>by
  simp only [List.cons_append,dU,Bool.and_eq_true] at h1⊢;exact⟨h1.1,Gb h1.2 h2⟩
structure aG{α:Type}(g:α->List Value)(w:Nat)(M:aB)(L:Value)(l:List α):Prop where
 at_:wY M L l.length (l.map g)
 wide:∀r∈l,(g r).length=w
 len:l.length<=9223372036854775807
section
variable{α:Type}{g:α->List Value}{w:Nat}{M M':aB}{L:Value}{l:List α}
theorem aG.ext(h:aG g w M L l)(hE:∀id b,M.get id=some b->M'.get id=some b):aG g w M' L l:=⟨h.at_.ext hE,h.wide,h.len⟩
theorem aG.form(h:aG g w M L l):∃a c,L= .slice a l.length c:=wY.form h.at_
theorem aG.ln{a:Option Addr}{n c:Nat}(h:aG g w M (.slice a n c) l):a.isNone=true->n=0/\c=0:=wY.ln h.at_
theorem Dk(hg:∀x y,g x=g y->x=y):∀{l1 l2:List α},l1.map g=l2.map g->l1=l2
 | [],[],_=>rfl
 | [],_::_,h=>by simp at h
 |_::_,[],h=>by simp at h
 |a::l1,b::l2,h=>by
  simp only [List.map_cons,List.cons.injEq] at h;rw[hg _ _ h.1,Dk hg h.2]
theorem aG.unique{l1 l2:List α}(hg:∀x y,g x=g y->x=y)(h1:aG g w M L l1)(h2:aG g w M L l2):l1=l2:=
 Dk hg (wY.unique h1.at_ h2.at_ (List.length_map _) (List.length_map _) (fun r hr=>by obtain⟨y,e,rfl⟩:=List.mem_map.1 hr;exact h1.wide y e) (fun r hr=>by obtain⟨y,e,rfl⟩:=List.mem_map.1 hr;exact h2.wide y e)).2
end
abbrev Rv(b:Bool):List Value:=[.bool b]
theorem Rw(x y:Bool)(h:Rv x=Rv y):x=y:=by simpa [Rv] using h
structure Ha{α:Type}(g:α->List Value)(enc:TypeId×Value->H)(P:Program)(S E:TypeId)(d:Nat):Prop where
 flat:∀r,dU (g r)=true
 us:P.underlying S=some (.slice E)
 cells:P.cellsOf E=d
 pos:0<d
 row:∀{w:World} {base nf:Nat} {held:Bool} {cs:List Value} {y:DataW H×List MemPlace},DataW.trod enc P w base (fun _=>true) held nf E cs=some y->∃r:α,(g r).length=d/\cs=g r
theorem Qd{base:Nat}{a7:Bool}{α:Type}{g:α->List Value}(hT:Ha g enc P S E d)(b1 n:Nat)(cs:List Value)(x:DataW H×List MemPlace)(h:DataW.trod enc P w base (fun _=>true) a7 b1 S cs=some x):
  ∃v,cs=[v]/\∃m bs φ0 l a c,Ew P w n m bs φ0/\(∀φ:dX,φ0.le φ->bH φ (.slice a l.length c) v)/\∀M,Has M bs->aG g d M (.slice a l.length c) l:=by
  rcases DataW.trod_slice hT.us h with⟨rfl,_⟩|⟨a,len,cap,elems,rest,nf,rfl,rfl,_,hb,hl,hm,hlen,hel,hsp,_⟩
  ·exact⟨_,rfl,n,[],fun _=>none,[],none,0,Ew.nil n,fun φ _=> .leaf rfl,fun M _=>⟨.inl ⟨none,rfl,rfl⟩,(fun r hr=>by cases hr),by simp⟩⟩
  ·refine⟨_,rfl,?_⟩;by_cases hcap:cap=0
   ·subst hcap;have h0:len=0:=by omega
    subst h0;exact⟨n,[],fun _=>none,[],some ⟨0,0,some 0⟩,0,Ew.nil n,fun φ _=> .hollow (by simp),fun M _=>⟨.inl ⟨_,rfl,rfl⟩,(fun r hr=>by cases hr),by simp⟩⟩
   ·obtain⟨hrl,hr⟩:=hsp rfl;have b9:=hT.pos;have a2:∀i,i<cap->∃cs' y,w.cells? base (a.add (i*d)) d=some cs'/\DataW.trod enc P w base (fun _=>true) a7 nf E cs'=some y:=fun i hi=>by
     by_cases b0:i<len
     ·have h1:=hel i b0;rw[hT.cells] at h1;rw[xAe (show i<elems.length by omega)] at h1;obtain⟨c',h2,h3⟩:=Option.bind_eq_some_iff.1 h1;exact⟨c',_,h2,h3⟩
     ·have h1:=hr (i-len) (by omega);rw[hT.cells,show len+(i-len)=i by omega] at h1;rw[xAe (show i-len<rest.length by omega)] at h1;obtain⟨c',h2,h3⟩:=Option.bind_eq_some_iff.1 h1;exact⟨c',_,h2,h3⟩
    obtain⟨c0,y0,b6,_⟩:=a2 0 (by omega);obtain⟨_,hc0l,b2⟩:=World.cells?_some b6;have a0:=b2 0 (by omega);rw[xAe (by omega)] at a0;have a9:∃c elem fr,w.heap[a.block]?=some (.cells c elem fr)/\a.spot=none:=by
     unfold World.cell? at a0;simp only [block_add] at a0;split at a0
     ·rename_i c elem fr hc;refine⟨c,elem,fr,hc,?_⟩;cases hs:a.spot with
      |none=>rfl
      |some s=>
       exfalso
       have:((a.add (0*d)).add 0).spot.isSome=true:=by
        simp [Addr.add,hs]
       rw[this] at a0
       simp at a0
     ·cases a0
    obtain⟨c,elem,fr,hc,a5⟩:=a9;have a1:∀i cs',w.cells? base (a.add (i*d)) d=some cs'->cs'.length=d/\∀j,j<d->c[a.off+i*d+j]?=cs'[j]?:=fun i cs' hi=>by
     obtain⟨_,h1,h2⟩:=World.cells?_some hi;refine⟨h1,fun j hj=>?_⟩;have:=h2 j hj;rw[Rn a5,tF] at this;unfold World.cell? at this;simp only [hc] at this;simpa using this
    let css:List (List Value):=(List.range len).map fun i=>(w.cells? base (a.add (i*d)) d).getD []
    have a3:∀i cs',css[i]?=some cs'->i<len/\w.cells? base (a.add (i*d)) d=some cs':=fun i cs' hi=>by
     have b0:i<len:=by
      have:=(xAg.1 hi).1;simpa [css] using this
     refine⟨b0,?_⟩;obtain⟨c',y,h1,h2⟩:=a2 i (by omega);simp only [css,List.getElem?_map,List.getElem?_range b0,Option.map_some,Option.some.injEq] at hi;rw[h1] at hi⊢;simpa using hi
    have a6:∀cs'∈css,∃r:α,(g r).length=d/\cs'=g r:=fun cs' hcs'=>by
     obtain⟨i,hi⟩:=List.getElem?_of_mem hcs';obtain⟨b0,h1⟩:=a3 i cs' hi;obtain⟨c',y,h2,h3⟩:=a2 i (by omega);rw[h1] at h2;cases h2;exact hT.row h3
    obtain⟨l,b3,b5⟩:∃l:List α,css=l.map g/\∀r∈l,(g r).length=d:=by
     clear a3;generalize css=X at a6;induction X with
     |nil=>exact⟨[],rfl,fun r hr=>by cases hr⟩
     |cons x X ihX=>
      obtain⟨zs,z1,rfl⟩:=a6 x (List.mem_cons_self ..)
      obtain⟨l,l1,l2⟩:=ihX fun y hy=>a6 y (List.mem_cons_of_mem _ hy)
      exact⟨zs::l,by rw[l1];rfl,fun r hr=>by
       rcases List.mem_cons.1 hr with rfl|hr
       ·exact z1
       ·exact l2 r hr⟩
    have k2:l.length=css.length:=by rw[b3,List.length_map]
    have b4:l.length=len:=by rw[k2];simp [css]
    have a8:=Ow (c:=c) (d:=d) (css:=css) (o:=a.off) fun i cs' hi=>a1 i cs' (a3 i cs' hi).2
    have hsz:a.off+cap*d<=c.size:=by
     obtain⟨c',y,h1,_⟩:=a2 (cap-1) (by omega);obtain⟨h2,h3⟩:=a1 (cap-1) c' h1;have h4:=h3 (d-1) (by omega);rw[xAe (by omega)] at h4;have h5:a.off+(cap-1)*d+(d-1)<c.size:=by
      by_cases hh:a.off+(cap-1)*d+(d-1)<c.size
      ·exact hh
      ·rw[Array.getElem?_eq_none (by omega)] at h4;cases h4
     have h6:cap*d=(cap-1)*d+d:=by
      have:=Nat.succ_mul (cap-1) d;rw[show(cap-1).succ=cap by omega] at this;exact this
     omega
    have b7:css.flatten.length=len*d:=by
     have:∀(l:List (List Value)),(∀r∈l,r.length=d)->l.flatten.length=l.length*d:=by
      intro l;induction l with
      |nil=>intro _;simp
      |cons r l ih=>
       intro hr
       rw[List.flatten_cons,List.length_append,ih fun r h=>hr r (List.mem_cons_of_mem _ h),hr r (List.mem_cons_self ..),List.length_cons,Nat.succ_mul]
       omega
     rw[this css fun r hr=>by
      obtain⟨i,hi⟩:=List.getElem?_of_mem hr;exact(a1 i r (a3 i r hi).2).1]
     simp [css]
    let ent:pW:=⟨a.block,a.off,c.size-a.off,d⟩
    let φb:dX:=fun i=>if i=n then some ent else none
    let blk:aR:=⟨css.flatten,elem,d,css.flatten.length,false⟩
    have a4:∀φ:dX,φb.le φ->φ n=some ent:=fun φ h=>h n ent (by simp [φb])
    have hlm:len*d<=cap*d:=Nat.mul_le_mul_right _ hl;have b8:dU css.flatten=true:=by
     rw[b3];have:∀(l:List α),dU (l.map g).flatten=true:=fun l=>by
      induction l with
      |nil=>rfl
      |cons r l ih=>
       rw[List.map_cons,List.flatten_cons]
       exact Gb (hT.flat r) ih
     exact this l
    refine⟨n+1,[(n,blk)],φb,l,some ⟨n,0,none⟩,len,⟨Nat.le_succ _,fun i e h=>?_,fun p hp=>?_,by simp,fun p hp=>?_,fun p hp=>?_⟩,fun φ hφ=>?_,fun M hM=>?_⟩
    ·simp only [φb] at h;split at h
     ·omega
     ·cases h
    ·rw[List.mem_singleton.1 hp];simp
    ·rw[List.mem_singleton.1 hp];exact⟨rfl,rfl⟩
    ·rw[List.mem_singleton.1 hp];refine⟨ent,a4 _ (dX.le_refl _),fun φ h=>?_⟩;refine mS.part hc ?_ (fun j v hv=>?_) (fun h0=>by have:=hT.pos;omega) (.inr (.inl (by have:=Nat.mul_pos (show 0<cap by omega) hT.pos;omega)))
     ·rw[b7];omega
     ·have h1:=cE.refl_flat φ _ b8;obtain⟨v',h2,h3⟩:=h1.get hv;exact⟨v',a8 j v' h2,h3⟩
    ·rw[b4];refine .slice ⟨rfl,a5,hl,.inl rfl,ent,a4 φ hφ,.inr ⟨rfl,rfl,?_⟩⟩;show 0+cap*d<=c.size-a.off;omega
    ·refine⟨?_,b5,?_⟩
     ·rw[b4];refine .inr ⟨n,0,len,blk,[],[],rfl,hM _ (List.mem_singleton.2 rfl),by simp [blk,b3],rfl,fun r hr=>by obtain⟨y,h1,rfl⟩:=List.mem_map.1 hr;exact b5 y h1⟩
     ·rw[b4];have:maxLen=9223372036854775807\/maxLen<=9223372036854775807:=by first|exact .inl rfl|exact .inr (by decide)
      rcases this with h1|h1<;>omega
end Go.Am
end
