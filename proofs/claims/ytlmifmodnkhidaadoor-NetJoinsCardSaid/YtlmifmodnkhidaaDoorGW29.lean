/-
  P103, NetJoins: for every two numbers and every two rows of numbers that are handed in the law answers true, and its arguments read as they did. No condition but the row's own.
-/
import Derived.Test.YtlmifmodnkhidaaDoorGW26
import Derived.Test.YtlmifmodnkhidaaDoorGW18
import Derived.Test.YtlmifmodnkhidaaDoorRows
open Go Go.Am Go.Proofs
namespace Go.Proofs.YtlmifmodnkhidaaDoor.netJoins
set_option maxRecDepth 100000
open Go.ChangeShapes Go.WideShapes Go.ChangeAt Go.RowKit

def emb2 (a b : Option Ent) : Emb := fun id => match id with | 0 => a | 1 => b | _ => none

theorem readable : ∀ t ∈ [3, 25, 25, 3], Tryd.prog.readableRec t = true ∧ t < Tryd.prog.types.size := by
  have h : [3, 25, 25, 3].all (fun t => Tryd.prog.readableRec t && decide (t < Tryd.prog.types.size)) = true := by kernel_rfl
  intro t ht
  have := List.all_eq_true.1 h t ht
  simpa using this
theorem laidOut : laidOutB Tryd.prog = true := by kernel_rfl

theorem contract (H : Type) (enc : TypeId × Value → H) (W : World) (base : Nat) (args : Array Value) (ds gs : List (DataW H)) (before : List MemPlace)
    (hval : ∀ (j : Nat) t v, Tryd.f8.params[j]? = some t → args[j]? = some v → Value.okWide Tryd.prog W .any base t v)
    (hW : DataW.Whole enc Tryd.prog Tryd.f8.params.toList Rows.netJoinsSpec.vars false W args.toList ds gs before) :
    Calls Tryd.prog 8 args W fun e W' => ∃ v, e = .returned v ∧ Rows.netJoinsSpec.post enc Tryd.prog Tryd.f8 false true false false W args v W' := by
  have hW' := hW
  have hlt := hW.lt
  obtain ⟨p, q, hA0, hV, rfl, hfz, hnd⟩ := hW
  have hA : DataW.TrodAll enc Tryd.prog W 0 (fun _ => true) true Tryd.f8.params.toList args.toList ds p := hA0
  have hA1 := hA0
  rw [Tryd.params8] at hA hval
  obtain ⟨rfl, rfl⟩ := trodVars_none hV
  obtain ⟨v0, vs0, d0, ds0, p0, q0, hargs, rfl, rfl, h0, r0⟩ := trodAll_cons hA
  obtain ⟨v1, vs1, d1, ds1, p1, q1, rfl, rfl, rfl, h1, r1⟩ := trodAll_cons r0
  obtain ⟨v2, vs2, d2, ds2, p2, q2, rfl, rfl, rfl, h2, r2⟩ := trodAll_cons r1
  obtain ⟨v3, vs3, d3, ds3, p3, q3, rfl, rfl, rfl, h3, r3⟩ := trodAll_cons r2
  obtain ⟨rfl, rfl, rfl⟩ := trodAll_nil r3
  obtain rfl : args = #[v0, v1, v2, v3] := by cases args; simp_all
  obtain ⟨sz, rfl, _, _, _⟩ := open_int Tryd.underlying3 (hval 0 3 v0 rfl rfl) h0
  obtain ⟨cut, rfl, _, _, _⟩ := open_int Tryd.underlying3 (hval 3 3 v3 rfl rfl) h3
  clear hA
  simp only [List.append_nil] at hW' hlt hA1
  have main : ∃ (SP : Specs) (M' : Mem) (φ : Emb) (l : List (Nat × ABlk)) (args0 : List Value), (∀ B, SpecsOk Tryd.prog [] B SP) ∧ Knows1 Tryd.prog [] φ l 2 W ∧ Go.Am.arun Tryd.prog [] SP 90 8 args0 (startMem l 2) = some (.bool true, M') ∧
      LRel φ args0 [.int .i64 sz, v1, v2, .int .i64 cut] := by
    have knows : ∀ (a b : Option Ent) (l : List (Nat × ABlk)), (∀ p ∈ l, ∃ e, emb2 a b p.1 = some e ∧ BRel Tryd.prog W.heap.size (emb2 a b) W e p.2) → (∀ p ∈ l, p.2.app = false ∧ p.2.wf = p.2.cs.length) → Knows1 Tryd.prog [] (emb2 a b) l 2 W := fun a b l h1 h2 =>
      ⟨h1, h2, fun g hg => (by cases hg), fun id hid => by
        unfold emb2
        split
        · omega
        · omega
        · rfl⟩
    have iv : ∀ (φ : Emb) (z : Int), VRel φ (i64 z) (.int .i64 z) := fun φ z => VRel.refl_flat _ _ rfl
    rcases arg_ints (hval 1 25 v1 rfl rfl) h1 with rfl | ⟨a1, len1, cap1, ns, ent1, elem1, rfl, hl1, hb1, hv1⟩
    · rcases arg_ints (hval 2 25 v2 rfl rfl) h2 with rfl | ⟨a2, len2, cap2, ps, ent2, elem2, rfl, hl2, hb2, hv2⟩
      · obtain ⟨SP, M', hSP, hrun⟩ := main8nn sz cut 0 0 [] []
        exact ⟨SP, M', _, _, _, hSP, knows none none [] (fun p hp => (by cases hp)) (fun p hp => (by cases hp)), hrun, LRel.refl_flat _ _ rfl⟩
      · subst hl2
        obtain ⟨SP, M', hSP, hrun⟩ := main8ns sz cut 0 elem2 [] ps
        exact ⟨SP, M', _, _, _, hSP, knows none (some ent2) _ (fun p hp => by rw [List.mem_singleton.1 hp]; exact ⟨ent2, rfl, hb2 _⟩) (fun p hp => by rw [List.mem_singleton.1 hp]; exact ⟨rfl, rfl⟩), hrun,
          .cons (iv _ _) (.cons (VRel.refl_flat _ _ rfl) (.cons (hv2 _ 1 rfl) (.cons (iv _ _) .nil)))⟩
    · subst hl1
      rcases arg_ints (hval 2 25 v2 rfl rfl) h2 with rfl | ⟨a2, len2, cap2, ps, ent2, elem2, rfl, hl2, hb2, hv2⟩
      · obtain ⟨SP, M', hSP, hrun⟩ := main8sn sz cut elem1 0 ns []
        exact ⟨SP, M', _, _, _, hSP, knows (some ent1) none _ (fun p hp => by rw [List.mem_singleton.1 hp]; exact ⟨ent1, rfl, hb1 _⟩) (fun p hp => by rw [List.mem_singleton.1 hp]; exact ⟨rfl, rfl⟩), hrun,
          .cons (iv _ _) (.cons (hv1 _ 0 rfl) (.cons (VRel.refl_flat _ _ rfl) (.cons (iv _ _) .nil)))⟩
      · subst hl2
        obtain ⟨SP, M', hSP, hrun⟩ := main8ss sz cut elem1 elem2 ns ps
        refine ⟨SP, M', _, _, _, hSP, knows (some ent1) (some ent2) _ (fun p hp => ?_) (fun p hp => ?_), hrun,
          .cons (iv _ _) (.cons (hv1 _ 0 rfl) (.cons (hv2 _ 1 rfl) (.cons (iv _ _) .nil)))⟩
        · simp only [List.mem_cons, List.not_mem_nil, or_false] at hp
          rcases hp with rfl | rfl
          · exact ⟨ent1, rfl, hb1 _⟩
          · exact ⟨ent2, rfl, hb2 _⟩
        · simp only [List.mem_cons, List.not_mem_nil, or_false] at hp
          rcases hp with rfl | rfl <;> exact ⟨rfl, rfl⟩
  obtain ⟨SP, M', φ, l, args0, hSP, hK, hrun, ha⟩ := main
  refine (calls_start noNumP mixedP (hSP _) hK hrun ha).mono fun e W' ⟨φ', v', he, hk, hv, _⟩ => ?_
  obtain rfl := hv.bool_inv
  subst he
  refine ⟨_, rfl, post_of_kept (pv := []) hW' (fun _ _ _ => trodAll_cons_mk (shut_bool Tryd.underlying4 _) trodAll_mk0) (fun sp hsp => ?_) (fun _ _ => rfl) (List.append_nil _).symm hk (ok_one (by kernel_rfl) rfl (okWide_bool_mk Tryd.underlying4 _))⟩
  have hA2 := trodAll_kept (sp := sp) laidOut hk (fun t ht => readable t (by rw [Tryd.params8] at ht; exact ht)) hA1 hlt hsp
  exact hA2
end Go.Proofs.YtlmifmodnkhidaaDoor.netJoins
