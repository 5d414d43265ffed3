/-
  NetWalks: whether any edges are a walk, its cost and its word, are the document's: of any network of at most twelve vertices that is made of the numbers handed in, and of any rows of edges, of at most sixty where they are handed in; the answer is true for every argument.
-/
import Derived.Test.YtlmifmodnkhidaaDoorGW40
import Derived.Test.YtlmifmodnkhidaaDoorGW18
import Derived.Test.YtlmifmodnkhidaaDoorRows
open Go Go.Am Go.Proofs
namespace Go.Proofs.YtlmifmodnkhidaaDoor.netWalks
set_option maxRecDepth 100000
open Go.ChangeShapes Go.WideShapes Go.ChangeAt Go.RowKit

def emb3 (a b c : Option Ent) : Emb := fun id => match id with | 0 => a | 1 => b | 2 => c | _ => none

theorem readable : ∀ t ∈ [3, 25, 3, 3, 25, 25], Tryd.prog.readableRec t = true ∧ t < Tryd.prog.types.size := by
  have h : [3, 25, 3, 3, 25, 25].all (fun t => Tryd.prog.readableRec t && decide (t < Tryd.prog.types.size)) = true := by kernel_rfl
  intro t ht
  have := List.all_eq_true.1 h t ht
  simpa using this
theorem laidOut : laidOutB Tryd.prog = true := by kernel_rfl
theorem params : Tryd.f7.params = #[3, 25, 3, 3, 25, 25] := by kernel_rfl

theorem contract (H : Type) (enc : TypeId × Value → H) (W : World) (base : Nat) (args : Array Value) (ds gs : List (DataW H)) (before : List MemPlace)
    (hval : ∀ (j : Nat) t v, Tryd.f7.params[j]? = some t → args[j]? = some v → Value.okWide Tryd.prog W .any base t v)
    (hW : DataW.Whole enc Tryd.prog Tryd.f7.params.toList Rows.netWalksSpec.vars false W args.toList ds gs before) :
    Calls Tryd.prog 7 args W fun e W' => ∃ v, e = .returned v ∧ Rows.netWalksSpec.post enc Tryd.prog Tryd.f7 false true false false W args v W' := by
  have hW' := hW
  have hlt := hW.lt
  obtain ⟨p, q, hA0, hV, rfl, hfz, hnd⟩ := hW
  have hA : DataW.TrodAll enc Tryd.prog W 0 (fun _ => true) true Tryd.f7.params.toList args.toList ds p := hA0
  have hA1 := hA0
  rw [params] at hA hval
  obtain ⟨rfl, rfl⟩ := trodVars_none hV
  obtain ⟨v0, vs0, d0, ds0, p0, q0, hargs, rfl, rfl, h0, r0⟩ := trodAll_cons hA
  obtain ⟨v1, vs1, d1, ds1, p1, q1, rfl, rfl, rfl, h1, r1⟩ := trodAll_cons r0
  obtain ⟨v2, vs2, d2, ds2, p2, q2, rfl, rfl, rfl, h2, r2⟩ := trodAll_cons r1
  obtain ⟨v3, vs3, d3, ds3, p3, q3, rfl, rfl, rfl, h3, r3⟩ := trodAll_cons r2
  obtain ⟨v4, vs4, d4, ds4, p4, q4, rfl, rfl, rfl, h4, r4⟩ := trodAll_cons r3
  obtain ⟨v5, vs5, d5, ds5, p5, q5, rfl, rfl, rfl, h5, r5⟩ := trodAll_cons r4
  obtain ⟨rfl, rfl, rfl⟩ := trodAll_nil r5
  obtain rfl : args = #[v0, v1, v2, v3, v4, v5] := by cases args; simp_all
  obtain ⟨sz, rfl, _, _, _⟩ := open_int Tryd.underlying3 (hval 0 3 v0 rfl rfl) h0
  obtain ⟨fr, rfl, _, _, _⟩ := open_int Tryd.underlying3 (hval 2 3 v2 rfl rfl) h2
  obtain ⟨tt, rfl, _, _, _⟩ := open_int Tryd.underlying3 (hval 3 3 v3 rfl rfl) h3
  clear hA
  simp only [List.append_nil] at hW' hlt hA1
  have main : ∃ (SP : Specs) (M' : Mem) (φ : Emb) (l : List (Nat × ABlk)) (args0 : List Value) (k : Nat), (∀ B, SpecsOk Tryd.prog [] B SP) ∧ Knows1 Tryd.prog [] φ l k W ∧ Go.Am.arun Tryd.prog [] SP 90 7 args0 (startMem l k) = some (.bool true, M') ∧
      LRel φ args0 [.int .i64 sz, v1, .int .i64 fr, .int .i64 tt, v4, v5] := by
    have knows : ∀ (a b c : Option Ent) (l : List (Nat × ABlk)) (k : Nat), (k = 3 ∨ k = 4) → (∀ p ∈ l, ∃ e, emb3 a b c p.1 = some e ∧ BRel Tryd.prog W.heap.size (emb3 a b c) W e p.2) → (∀ p ∈ l, p.2.app = false ∧ p.2.wf = p.2.cs.length) → Knows1 Tryd.prog [] (emb3 a b c) l k W := fun a b c l k hk h1 h2 =>
      ⟨h1, h2, fun g hg => (by cases hg), fun id hid => by
        unfold emb3
        split
        · omega
        · omega
        · omega
        · rfl⟩
    have iv : ∀ (φ : Emb) (z : Int), VRel φ (i64 z) (.int .i64 z) := fun φ z => VRel.refl_flat _ _ rfl
    -- what one row is
    have row : ∀ (id : Nat) (v : Value) {d : DataW H} {p : List MemPlace} {j : Nat}, Value.okWide Tryd.prog W .any base 25 v → DataW.Trod enc Tryd.prog W 0 (fun _ => true) true 25 v d p → ∃ (r : Row) (e : Option Ent), (r = none ∧ v = .slice none 0 0 ∨ ∃ el xs ent, r = some (el, xs) ∧ e = some ent ∧ (∀ φ, BRel Tryd.prog W.heap.size φ W ent (ro (ints xs) el 1)) ∧ ∀ φ : Emb, φ id = some ent → VRel φ (sl id xs.length) v) := fun id v d p j hv hd => by
      rcases arg_ints hv hd with rfl | ⟨a1, len1, cap1, xs, ent1, elem1, rfl, hl1, hb1, hv1⟩
      · exact ⟨none, none, .inl ⟨rfl, rfl⟩⟩
      · subst hl1
        exact ⟨some (elem1, xs), some ent1, .inr ⟨elem1, xs, ent1, rfl, rfl, hb1, fun φ h => hv1 φ id h⟩⟩
    obtain ⟨pn, en, hn⟩ := row 0 v1 (j := 0) (hval 1 25 v1 rfl rfl) h1
    obtain ⟨pp, ep, hp⟩ := row 1 v4 (j := 0) (hval 4 25 v4 rfl rfl) h4
    obtain ⟨pr, er, hr⟩ := row 2 v5 (j := 0) (hval 5 25 v5 rfl rfl) h5
    have hres : Res7 sz fr tt pn pp pr := by
      cases pn with
      | none =>
        cases pp with
        | none =>
          cases pr with
          | none => exact main7nnn sz fr tt
          | some pr => exact main7nns sz fr tt pr.1 pr.2
        | some pp =>
          cases pr with
          | none => exact main7nsn sz fr tt pp.1 pp.2
          | some pr => exact main7nss sz fr tt pp.1 pp.2 pr.1 pr.2
      | some pn =>
        cases pp with
        | none =>
          cases pr with
          | none => exact main7snn sz fr tt pn.1 pn.2
          | some pr => exact main7sns sz fr tt pn.1 pn.2 pr.1 pr.2
        | some pp =>
          cases pr with
          | none => exact main7ssn sz fr tt pn.1 pn.2 pp.1 pp.2
          | some pr => exact main7sss sz fr tt pn.1 pn.2 pp.1 pp.2 pr.1 pr.2
    obtain ⟨SP, M', k, hk, hSP, hrun⟩ := hres
    refine ⟨SP, M', emb3 en ep er, _, _, k, hSP, knows en ep er _ k hk (fun p hp' => ?_) (fun p hp' => ?_), hrun, .cons (iv _ _) (.cons ?_ (.cons (iv _ _) (.cons (iv _ _) (.cons ?_ (.cons ?_ .nil)))))⟩
    · rcases List.mem_append.1 hp' with hp' | hp'
      · rcases List.mem_append.1 hp' with hp' | hp'
        · rcases hn with ⟨rfl, _⟩ | ⟨el, xs, ent, rfl, rfl, hb, _⟩
          · cases hp'
          · rw [List.mem_singleton.1 hp']; exact ⟨ent, rfl, hb _⟩
        · rcases hp with ⟨rfl, _⟩ | ⟨el, xs, ent, rfl, rfl, hb, _⟩
          · cases hp'
          · rw [List.mem_singleton.1 hp']; exact ⟨ent, rfl, hb _⟩
      · rcases hr with ⟨rfl, _⟩ | ⟨el, xs, ent, rfl, rfl, hb, _⟩
        · cases hp'
        · rw [List.mem_singleton.1 hp']; exact ⟨ent, rfl, hb _⟩
    · rcases List.mem_append.1 hp' with hp' | hp'
      · rcases List.mem_append.1 hp' with hp' | hp'
        · rcases hn with ⟨rfl, _⟩ | ⟨el, xs, ent, rfl, rfl, hb, _⟩
          · cases hp'
          · rw [List.mem_singleton.1 hp']; exact ⟨rfl, rfl⟩
        · rcases hp with ⟨rfl, _⟩ | ⟨el, xs, ent, rfl, rfl, hb, _⟩
          · cases hp'
          · rw [List.mem_singleton.1 hp']; exact ⟨rfl, rfl⟩
      · rcases hr with ⟨rfl, _⟩ | ⟨el, xs, ent, rfl, rfl, hb, _⟩
        · cases hp'
        · rw [List.mem_singleton.1 hp']; exact ⟨rfl, rfl⟩
    · rcases hn with ⟨rfl, rfl⟩ | ⟨el, xs, ent, rfl, rfl, _, hv⟩
      · exact VRel.refl_flat _ _ rfl
      · exact hv _ rfl
    · rcases hp with ⟨rfl, rfl⟩ | ⟨el, xs, ent, rfl, rfl, _, hv⟩
      · exact VRel.refl_flat _ _ rfl
      · exact hv _ rfl
    · rcases hr with ⟨rfl, rfl⟩ | ⟨el, xs, ent, rfl, rfl, _, hv⟩
      · exact VRel.refl_flat _ _ rfl
      · exact hv _ rfl
  obtain ⟨SP, M', φ, l, args0, k, hSP, hK, hrun, ha⟩ := main
  refine (calls_start noNumP mixedP (hSP _) hK hrun ha).mono fun e W' ⟨φ', v', he, hk, hv, _⟩ => ?_
  obtain rfl := hv.bool_inv
  subst he
  refine ⟨_, rfl, post_of_kept (pv := []) hW' (fun _ _ _ => trodAll_cons_mk (shut_bool Tryd.underlying4 _) trodAll_mk0) (fun sp hsp => ?_) (fun _ _ => rfl) (List.append_nil _).symm hk (ok_one (by kernel_rfl) rfl (okWide_bool_mk Tryd.underlying4 _))⟩
  have hA2 := trodAll_kept (sp := sp) laidOut hk (fun t ht => readable t (by rw [params] at ht; exact ht)) hA1 hlt hsp
  exact hA2
end Go.Proofs.YtlmifmodnkhidaaDoor.netWalks
