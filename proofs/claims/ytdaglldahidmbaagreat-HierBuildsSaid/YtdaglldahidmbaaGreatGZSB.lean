/-
  Package hier: each of its laws for every argument; no conditions. The last text states which.
-/
import Derived.Test.YtdaglldahidmbaaGreatGZS1
import Derived.Test.YtdaglldahidmbaaGreatGAmMk
import Derived.Deep.DeepHandedRow
import Derived.OpenShut
import Derived.ProofKit
import Derived.Test.YtdaglldahidmbaaGreatRows
import Derived.Test.YtdaglldahidmbaaGreatChecked
set_option linter.unusedVariables false
set_option linter.unusedSimpArgs false
open Go Go.Am Go.Proofs Tryz
namespace Go.Proofs.YtdaglldahidmbaaGreat.hierBuilds
set_option maxRecDepth 100000
open Go.ChangeShapes Go.WideShapes Go.ChangeAt Go.RowKit
theorem law_all(size md:Int){ans:Option Addr}{cns:Nat}{ns:List Int}{M:aB}(hM:aA M)(hns:aH ns (.slice ans ns.length cns) M):∃v M',Ev prog [] 3 [i64 size,.slice ans ns.length cns,i64 md] M v M'/\v= .bool true:=by obtain⟨v,M',h1,_,_,h2⟩:=w3 size ans cns ns md hM hns;exact⟨v,M',h1,h2⟩
theorem contract(H:Type)(enc:TypeId×Value->H)(W:World)(base:Nat)(args:Array Value)(ds gs:List (DataW H))(a2:List MemPlace)
  (a0:∀(j:Nat) t v,Tryz.f3.params[j]?=some t->args[j]?=some v->Value.okWide prog W .any base t v)
  (hW:DataW.Whole enc prog Tryz.f3.params.toList Rows.hierBuildsSpec.vars false W args.toList ds gs a2):
  Calls prog 3 args W fun e W'=>∃v,e= .returned v/\Rows.hierBuildsSpec.post enc prog Tryz.f3 false true false false W args v W':=by
 have a7:=hW
 obtain⟨p,q,a6,hV,rfl,hfz,hnd⟩:=hW
 have a3:Tryz.f3.params= #[3,22,3]:=by kernel_rfl
 have hA:DataW.TrodAll enc prog W 0 (fun _=>true) true [3,22,3] args.toList ds p:=by rw[a3] at a6;exact a6
 rw[a3] at a0
 have a4:=hA
 obtain⟨v0,b8,d0,b5,p0,q0,hargs,rfl,rfl,h0,r0⟩:=trodAll_cons hA
 obtain⟨v1,b9,d1,b6,p1,q1,rfl,rfl,rfl,h1,r1⟩:=trodAll_cons r0
 obtain⟨v2,c0,d2,b7,p2,q2,rfl,rfl,rfl,h2,r2⟩:=trodAll_cons r1
 obtain⟨rfl,rfl,rfl⟩:=trodAll_nil r2
 obtain rfl:args= #[v0,v1,v2]:=by cases args;simp_all
 obtain⟨rfl,rfl⟩:=trodVars_none hV
 obtain⟨x0,rfl,_,_,_⟩:=open_int Tryz.underlying3 (a0 0 3 v0 rfl rfl) h0
 obtain⟨x2,rfl,_,_,_⟩:=open_int Tryz.underlying3 (a0 2 3 v2 rfl rfl) h2
 obtain⟨m1,b4,φ1,l1,a1,c1,b1,b2,b3⟩:=Ob (Ys (S:=22) (by kernel_rfl) Tryz.underlying3 (by kernel_rfl)) (n:=0) (a0 1 22 v1 rfl rfl) h1
 have J1:=b1
 have a5:=J1.has
 obtain⟨v',M',a8,b0⟩:=law_all x0 x2 (aA.start _ _) (b3 _ a5)
 subst b0
 have a9:cE φ1 [i64 x0,.slice a1 l1.length c1,i64 x2] [i64 x0,v1,i64 x2]:=(.cons (.leaf rfl) (.cons (b2 _ (dX.le_refl _)) (.cons (.leaf rfl) .nil)))
 refine(Rz J1.knows a8 a9).mono fun e W' ⟨φ',v',he,hk,hv,_,_⟩=>?_
 obtain rfl:=hv.bool_inv
 refine⟨_,he,Ip (pv:=[]) a7 (fun _ _ _=>trodAll_cons_mk (shut_bool Tryz.underlying4 _) trodAll_mk0) (fun sp hsp=>?_) (fun _ _=>rfl) rfl hk (ok_one (by kernel_rfl) rfl (okWide_bool_mk Tryz.underlying4 _))⟩
 rw[a3]
 exact yG Vu hk (Qz (by kernel_rfl)) a4 (fun p hp=>a7.lt p (List.mem_append_left _ hp)) (fun p hp=>hsp p (List.mem_append_left _ hp))
theorem lifted(os:Os)(a0:os.Started)(H:Type)(enc:TypeId×Value->H):
  ReturnsInHanded {} Tryz.checked os 3 .any (Rows.hierBuildsSpec.pre6 enc prog Tryz.f3 Rows.hierBuildsRow.domain false) (Rows.hierBuildsSpec.post enc prog Tryz.f3 false true false false):=by
 refine returnsInHanded_of_change (C:=Tryz.checked) own' a0 (by kernel_rfl) Tryz.func3
  (ChangeSpec.witness6 (enc:=enc) (C:=Tryz.checked) false ⟨#[],#[.int .i64 0,.slice none 0 0,.int .i64 0],[]⟩ 8 (by kernel_rfl) (by kernel_rfl) (by kernel_rfl) (by kernel_rfl)) ?_
 intro W base args ds gs before hval hW _ _
 exact contract H enc W base args ds gs before hval hW
theorem holds:Rows.HierBuildsSaid:=
 OpenClaim.holds_of_wide 3 Tryz.f3 rfl rfl rfl rfl rfl rfl rfl ⟨rfl,rfl,rfl,rfl,rfl⟩ rfl rfl rfl rfl rfl (by kernel_rfl) Tryz.func3 (by kernel_rfl)
  (of_decide_eq_true (by kernel_rfl)) (by unfold Func.isWrapper;first|(rw[if_pos (by decide+kernel)];kernel_rfl)|(rw[if_neg (by decide+kernel)];exact⟨rfl,rfl⟩))
  (fun os started H enc _=>lifted os started H enc)
#print axioms holds
end Go.Proofs.YtdaglldahidmbaaGreat.hierBuilds
