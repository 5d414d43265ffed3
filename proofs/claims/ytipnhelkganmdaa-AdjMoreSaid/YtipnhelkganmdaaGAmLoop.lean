/-
  Package adj: each of its laws for every argument; no conditions. The last text states which.
-/
import Derived.Test.YtipnhelkganmdaaAmMem
import Derived.LoopN
import Derived.Test.YtipnhelkganmdaaGAmTop
import Derived.Test.YtipnhelkganmdaaGAmEq
import Derived.IntWalk
import Derived.KernelRfl
import Derived.ChangeSlices
import Derived.WideKeyArgs
import Derived.ChangeSame
import Derived.Deep.DeepHandedRow
import Derived.OpenShut
import Derived.ProofKit
set_option linter.unusedVariables false
set_option linter.unusedSimpArgs false
noncomputable section
namespace Go.Am
open Go
abbrev Moves := List (Nat × Nat × Bool)
def toTgt : Moves → Nat → Option Nat
  | [], _ => none
  | (t, s, _) :: l, n => bif Nat.beq s n then some t else toTgt l n
def renAddr (ρ : Moves) (a : Addr) : Option Addr :=
  match a.spot, toTgt ρ a.block with
  | none, some t => some ⟨t, a.off, none⟩
  | _, _ => none
mutual
def renV (ρ : Moves) : Value → Option Value
  | .pointer (some a) => match renAddr ρ a with | some a => some (.pointer (some a)) | none => none
  | .slice (some a) l c => match renAddr ρ a with | some a => some (.slice (some a) l c) | none => none
  | .func fn first captured => bif isYield fn then none else match renA ρ first, renA ρ captured with | some x, some y => some (.func fn ⟨x⟩ ⟨y⟩) | _, _ => none
  | .iface t v => match renV ρ v with | some v => some (.iface t v) | none => none
  | .agg cs => match renA ρ cs with | some x => some (.agg ⟨x⟩) | none => none
  | .tuple vs => match renA ρ vs with | some x => some (.tuple ⟨x⟩) | none => none
  | v => bif leaf v then some v else none
def renA (ρ : Moves) : Array Value → Option (List Value)
  | ⟨l⟩ => renL ρ l
def renL (ρ : Moves) : List Value → Option (List Value)
  | [] => some []
  | v :: l => match renV ρ v, renL ρ l with | some v, some l => some (v :: l) | _, _ => none
end
variable {P : Program} {GL : List Nat} {B : Bd}
theorem renAddr_rel {ρ : Moves} {φ ψ : Emb} (h : ∀ s t, toTgt ρ s = some t → ∀ e, φ s = some e → ψ t = some e) {a b : Addr} (hr : renAddr ρ a = some b) :
    b.spot = none ∧ b.off = a.off ∧ ∀ e, φ a.block = some e → ψ b.block = some e := by
  unfold renAddr at hr
  split at hr
  · rename_i t hs ht
    cases hr
    exact ⟨rfl, rfl, h _ _ ht⟩
  · cases hr
theorem renV_leaf (ρ : Moves) : ∀ v, leaf v = true → renV ρ v = some v
  | .bool _, _ => rfl
  | .int _ _, _ => rfl
  | .float _ _, _ => rfl
  | .complex _ _ _, _ => rfl
  | .string _, _ => rfl
  | .pointer none, _ => rfl
  | .pointer (some _), h => by simp [leaf] at h
  | .slice none 0 0, _ => rfl
  | .slice none (_ + 1) _, h => by simp [leaf] at h
  | .slice none 0 (_ + 1), h => by simp [leaf] at h
  | .slice (some _) _ _, h => by simp [leaf] at h
  | .map none, _ => rfl
  | .map (some _), h => by simp [leaf] at h
  | .chan none, _ => rfl
  | .chan (some _), h => by simp [leaf] at h
  | .func _ _ _, h => by simp [leaf] at h
  | .nilFunc, _ => rfl
  | .iface _ _, h => by simp [leaf] at h
  | .nilIface, _ => rfl
  | .agg _, h => by simp [leaf] at h
  | .tuple _, h => by simp [leaf] at h
mutual
theorem renV_rel {ρ : Moves} {φ ψ : Emb} (h : ∀ s t, toTgt ρ s = some t → ∀ e, φ s = some e → ψ t = some e) : ∀ {v v' u : Value}, VRel φ v v' → renV ρ v = some u → VRel ψ u v'
  | v, _, u, .leaf hl, hr => by
    rw [renV_leaf ρ v hl] at hr
    cases hr; exact .leaf hl
  | _, _, u, .ptr ha, hr => by
    simp only [renV] at hr
    split at hr
    · rename_i b hb
      cases hr
      obtain ⟨h1, h2, h3⟩ := renAddr_rel h hb
      obtain ⟨k1, k2, e, k3, k4, k5⟩ := ha
      exact .ptr ⟨h1, k2, e, h3 e k3, k4, by rw [h2]; exact k5⟩
    · cases hr
  | _, _, u, .slice hs, hr => by
    simp only [renV] at hr
    split at hr
    · rename_i b hb
      cases hr
      obtain ⟨h1, h2, h3⟩ := renAddr_rel h hb
      obtain ⟨k1, k2, k3, k4, e, k5, k6⟩ := hs
      exact .slice ⟨h1, k2, k3, k4, e, h3 e k5, by rw [h2]; exact k6⟩
    · cases hr
  | _, _, u, .hollow hs, hr => by
    simp only [renV, renAddr] at hr
    split at hr
    · rename_i b hb
      split at hb
      · rename_i h0 _
        exact absurd h0 hs
      · cases hb
    · cases hr
  | _, _, u, .func hf hx hy, hr => by
    simp only [renV, renA, hf, cond_false] at hr
    split at hr
    · rename_i x y h1 h2
      cases hr
      exact .func hf (renL_rel h hx h1) (renL_rel h hy h2)
    · cases hr
  | _, _, u, .yld _, hr => by
    simp only [renV, isYield, cond_true] at hr
    cases hr
  | _, _, u, .iface hv, hr => by
    simp only [renV] at hr
    split at hr
    · rename_i x h1
      cases hr
      exact .iface (renV_rel h hv h1)
    · cases hr
  | _, _, u, .agg hl, hr => by
    simp only [renV, renA] at hr
    split at hr
    · rename_i x h1
      cases hr
      exact .agg (renL_rel h hl h1)
    · cases hr
  | _, _, u, .tuple hl, hr => by
    simp only [renV, renA] at hr
    split at hr
    · rename_i x h1
      cases hr
      exact .tuple (renL_rel h hl h1)
    · cases hr
theorem renL_rel {ρ : Moves} {φ ψ : Emb} (h : ∀ s t, toTgt ρ s = some t → ∀ e, φ s = some e → ψ t = some e) : ∀ {l l' k : List Value}, LRel φ l l' → renL ρ l = some k → LRel ψ k l'
  | _, _, k, .nil, hr => by
    simp only [renL, Option.some.injEq] at hr
    subst hr; exact .nil
  | _, _, k, .cons hv hl, hr => by
    simp only [renL] at hr
    split at hr
    · rename_i x y h1 h2
      cases hr
      exact .cons (renV_rel h hv h1) (renL_rel h hl h2)
    · cases hr
end
end Go.Am
end

set_option linter.unusedVariables false
set_option linter.unusedSimpArgs false
noncomputable section
namespace Go.Am
open Go
variable {P : Program} {GL : List Nat} {B : Bd}
def blkEnd (id : Nat) : AExit → AExit
  | .exit i => bif Nat.beq i id then .normal else .exit i
  | e => e
end Go.Am
end

set_option linter.unusedVariables false
set_option linter.unusedSimpArgs false
noncomputable section
namespace Go.Am
open Go
variable {P : Program} {GL : List Nat} {B : Bd} {φ : Emb} {w : World}
def blkTree : List (Nat × ABlk) → Tr ABlk
  | [] => .nil
  | (i, b) :: l => (blkTree l).set i (some b)
theorem blkTree_mem : ∀ {l : List (Nat × ABlk)} {id : Nat} {b : ABlk}, (blkTree l).get id = some b → (id, b) ∈ l
  | [], id, b, h => by simp [blkTree, Tr.get] at h
  | (i, c) :: l, id, b, h => by
    unfold blkTree at h
    rw [Tr.get_set] at h
    by_cases hi : id = i
    · rw [if_pos hi] at h
      cases h; subst hi
      exact List.mem_cons_self ..
    · rw [if_neg hi] at h
      exact List.mem_cons_of_mem _ (blkTree_mem h)
def startMem (l : List (Nat × ABlk)) (next : Nat) : Mem := ⟨blkTree l, next, [], []⟩
structure Knows1 (P : Program) (GL : List Nat) (φ : Emb) (l : List (Nat × ABlk)) (next : Nat) (w : World) : Prop where
  blk : ∀ p ∈ l, ∃ e, φ p.1 = some e ∧ BRel P w.heap.size φ w e p.2
  ro : ∀ p ∈ l, p.2.app = false ∧ p.2.wf = p.2.cs.length
  glob : ∀ g ∈ GL, g < next ∧ ∃ e, φ g = some e ∧ e.block = g ∧ e.base = 0
  fresh : ∀ id, next ≤ id → φ id = none
theorem Knows1.rel {l : List (Nat × ABlk)} {next : Nat} (h : Knows1 P GL φ l next w) : Rel P GL w.heap.size φ (startMem l next) w := by
  have hm : ∀ id b, (startMem l next).getA id = some b → (id, b) ∈ l := fun id b hb => blkTree_mem (getA_spec.1 hb).2.2
  refine ⟨fun id b hb => let ⟨e, h1, h2⟩ := h.blk _ (hm id b hb); ⟨e, h1, .inl h2⟩, fun a b c d e f _ h1 _ hw => ?_, h.glob, fun k hk => bd_ok hk, fun id b hb => (getA_spec.1 hb).1, fun x hx => by cases hx⟩
  obtain ⟨h2, h3⟩ := h.ro _ (hm a c h1)
  simp only at h2 h3
  rw [h2, h3] at hw
  rcases hw with hw | hw
  · cases hw
  · exact absurd hw (Nat.lt_irrefl _)
theorem BRel.part {b off : Nat} {c : Array Value} {elem : TypeId} {fr : Nat × Nat} {cs : List Value} {esz : Nat} (hc : w.heap[b]? = some (.cells c elem fr)) (ho : off + cs.length ≤ c.size)
    (hs : ∀ j v, cs[j]? = some v → ∃ v', c[off + j]? = some v' ∧ VRel φ v v') (hz : esz = 0 → cs = [] := by intro h; exact absurd h (by decide)) (hm : off = 0 ∨ off < c.size ∨ esz ≠ mapEsz := by first | exact .inl rfl | exact .inr (.inr (by decide))) :
    BRel P w.heap.size φ w ⟨b, off, c.size - off, esz⟩ ⟨cs, elem, esz, cs.length, false⟩ := by
  refine ⟨rfl, ⟨c, fr.1, fr.2, hc, by simp only; omega, hs, fun hw => ?_⟩, by simp only; omega, fun hw => ?_, ?_, fun ⟨x1, x2, x3⟩ => ?_⟩
  · rcases hw with hw | hw
    · cases hw
    · exact absurd hw (Nat.lt_irrefl _)
  · rcases hw with hw | hw
    · cases hw
    · exact absurd hw (Nat.lt_irrefl _)
  · exact fun h1 h2 => absurd (hz h1) h2
  · simp only at x1 x2 x3
    rcases hm with hm | hm | hm
    · omega
    · omega
    · exact hm x3
end Go.Am
end

set_option linter.unusedVariables false
set_option linter.unusedSimpArgs false
noncomputable section
namespace Go.Am
open Go
variable {P : Program} {GL : List Nat} {B : Bd}
end Go.Am
end

set_option linter.unusedVariables false
set_option linter.unusedSimpArgs false
namespace Go.Am
open Go
variable {P : Program} {GL : List Nat} {B : Bd}
theorem takeN_all : ∀ {l : List Value} {n : Nat}, l.length = n → takeN n l = some l
  | [], n, h => by subst h; rfl
  | v :: l, n, h => by
    subst h
    simp only [List.length_cons, takeN]
    rw [takeN_all rfl]
theorem takeN_append : ∀ (a b : List Value), takeN a.length (a ++ b) = some a
  | [], b => rfl
  | v :: a, b => by
    simp only [List.length_cons, List.cons_append, takeN]
    rw [takeN_append a b]
theorem splice_one : ∀ (l : List Value) (n : Nat) (v : Value), n < l.length → splice l n [v] = l.set n v
  | [], n, v, h => absurd h (Nat.not_lt_zero _)
  | c :: l, 0, v, _ => by cases l <;> rfl
  | c :: l, n + 1, v, h => by
    show c :: splice l n [v] = _
    rw [splice_one l n v (by simpa using h)]
    rfl
end Go.Am

set_option linter.unusedVariables false
set_option linter.unusedSimpArgs false
namespace Go.Am
open Go
variable {P : Program} {GL : List Nat} {B : Bd}
end Go.Am

set_option linter.unusedVariables false
set_option linter.unusedSimpArgs false
noncomputable section
namespace Go.Am
open Go
variable {P : Program} {GL : List Nat} {B : Bd}
def Ent.shift (e : Ent) (off : Nat) : Ent := ⟨e.block, e.base + off, e.tot - off, e.esz⟩
def Lies (src : List (Nat × Nat)) (φ φ0 : Emb) : Prop := ∀ j a off, src[j]? = some (a, off) → ∀ e, φ a = some e → φ0 j = some (e.shift off)
structure FromStart (P : Program) (f : FuncId) (args : List Value) (M : Mem) (v : Value) (M' : Mem) (l : List (Nat × ABlk)) (n : Nat) (SP : Specs) (args0 : List Value) (v0 : Value) (M0 : Mem) (src : List (Nat × Nat)) (res : Option (Nat × ABlk)) : Prop where
  specs : ∀ B, SpecsOk P [] B SP
  run : arun P [] SP n f args0 (startMem l src.length) = some (v0, M0)
  blks : ∀ p ∈ l, p.2.app = false ∧ p.2.wf = p.2.cs.length ∧ flatL p.2.cs = true ∧ ∃ a off bc, src[p.1]? = some (a, off) ∧ M.get a = some bc ∧ bc.elem = p.2.elem ∧ bc.esz = p.2.esz ∧ off + p.2.cs.length ≤ bc.cs.length ∧ (∀ (j : Nat) u, p.2.cs[j]? = some u → bc.cs[off + j]? = some u) ∧ (p.2.esz = 0 → off = 0) ∧ (off = 0 ∨ 0 < p.2.cs.length ∨ p.2.esz ≠ mapEsz)
  args : ∀ (φ φ0 : Emb) (args' : List Value), Lies src φ φ0 → LRel φ args args' → LRel φ0 args0 args'
  out : match res with
    | none => flat v0 = true ∧ v = v0 ∧ M' = M
    | some (i, rb) => src.length ≤ i ∧ M0.get i = some rb ∧ rb.app = true ∧ flatL rb.cs = true ∧ renV [(M.next, i, true)] v0 = some v ∧ M' = M.alloc rb
theorem flat_of_get : ∀ {l : List Value} {j : Nat} {u : Value}, flatL l = true → l[j]? = some u → flat u = true
  | [], _, _, _, h => by simp at h
  | v :: l, 0, _, hf, h => by simp at h; subst h; simp [flatL] at hf; exact hf.1
  | v :: l, j + 1, _, hf, h => by simp [flatL] at hf; exact flat_of_get (l := l) hf.2 (by simpa using h)
theorem calls_start' {φ : Emb} {w : World} {SP : Specs} (hN : noNum P) (hm : P.follows .mixedOrders = true) {n : Nat} {f : FuncId} {args args' : List Value} {v : Value} {M' : Mem} {l : List (Nat × ABlk)} {next : Nat}
    (hS : SpecsOk P GL w.heap.size SP) (hK : Knows1 P GL φ l next w) (h : arun P GL SP n f args (startMem l next) = some (v, M')) (ha : LRel φ args args') :
    Calls P f args'.toArray w fun e w' => ∃ φ' v', e = .returned v' ∧ Kept w w' ∧ w'.tape = w.tape ∧ VRel φ' v v' ∧ Rel P GL w.heap.size φ' M' w' := by
  have hG : Good φ (startMem l next) M' := fun id h1 _ => hK.fresh id h1
  have hc := arun_calls hN hm hS n h hK.rel hG args'.toArray ha
  refine hc.mono fun e w' ⟨L, φ', v', he, hlog, hp, hv'⟩ => ⟨φ', v', he, ⟨hp.fr.os, hp.fr.output, hp.fr.size, fun k hk => ?_⟩, hp.fr.tape, hv', hp.rel⟩
  rcases hp.fr.block k hk with h1 | ⟨h2, _⟩
  · exact h1
  · exact absurd h2.1 (Nat.not_le.2 hk)
theorem SpecOk.ofStart (hN : noNum P) (hm : P.follows .mixedOrders = true) {f : FuncId} {g : List Value → Mem → Option (Value × Mem)}
    (h : ∀ args M v M', g args M = some (v, M') → ∃ l n SP args0 v0 M0 src res, FromStart P f args M v M' l n SP args0 v0 M0 src res) : SpecOk P GL B f g := by
  refine ⟨fun args M v M' hg => ?_, fun args M v M' hg φ w hR hG args' ha => ?_⟩
  · obtain ⟨l, n, SP, args0, v0, M0, src, res, hF⟩ := h args M v M' hg
    have ho := hF.out
    cases res with
    | none => obtain ⟨_, _, rfl⟩ := ho; exact ⟨_, Abs.refl _⟩
    | some p => obtain ⟨i, rb⟩ := p; obtain ⟨_, _, _, _, _, rfl⟩ := ho; exact ⟨_, Abs.alloc _ _⟩
  · obtain ⟨l, n, SP, args0, v0, M0, src, res, hF⟩ := h args M v M' hg
    let φ0 : Emb := fun j => match src[j]? with
      | some (a, off) => match φ a with
        | some e => some (e.shift off)
        | none => none
      | none => none
    have hlies : Lies src φ φ0 := fun j a off hj e he => by simp only [φ0, hj, he]
    have hK : Knows1 P [] φ0 l src.length w := by
      refine ⟨fun p hp => ?_, fun p hp => ⟨(hF.blks p hp).1, (hF.blks p hp).2.1⟩, fun g hg => (by cases hg), fun id hid => ?_⟩
      · obtain ⟨h1, h2, h3, a, off, bc, h4, h5, h6, h7, h8, h9, h10, h11⟩ := hF.blks p hp
        obtain ⟨e, he, hr⟩ := hR.blk a bc h5
        obtain ⟨c, lo, hi, k1, k2, k3, k4⟩ := hr.cells
        have hlen := hr.len
        refine ⟨e.shift off, hlies _ _ _ h4 e he, by show e.esz = _; rw [hr.esz, h7], ⟨c, lo, hi, by rw [← h6]; exact k1, by show c.size = e.base + off + (e.tot - off); omega, fun j u hu => ?_, fun hw => ?_⟩, by show p.2.cs.length ≤ e.tot - off; omega, fun hw => ?_, fun q1 q2 => ?_, (fun hx => by
          rcases h11 with h11 | h11 | h11
          · subst h11; exact hr.real hx
          · have := hx.2.1
            simp only [Ent.shift] at this
            omega
          · exact h11 ((hr.esz.trans h7).symm.trans hx.2.2))⟩
        · obtain ⟨u', h10, h11⟩ := k3 (off + j) u (h9 j u hu)
          have hfu := flat_of_get h3 hu
          obtain rfl := h11.of_flat hfu
          exact ⟨u', by show c[e.base + off + j]? = _; rw [Nat.add_assoc]; exact h10, VRel.refl_flat _ _ hfu⟩
        · rw [h1, h2] at hw
          rcases hw with hw | hw
          · cases hw
          · exact absurd hw (Nat.lt_irrefl _)
        · rw [h1, h2] at hw
          rcases hw with hw | hw
          · cases hw
          · exact absurd hw (Nat.lt_irrefl _)
        · show e.base + off = 0
          rw [h10 q1, hr.whole (by rw [h7]; exact q1) (fun q3 => by
            rw [q3] at h8
            exact q2 (List.eq_nil_of_length_eq_zero (by simp only [List.length_nil] at h8; omega)))]
      · simp only [φ0]
        rw [List.getElem?_eq_none hid]
    have hargs := hF.args φ φ0 args'.toList hlies ha
    have hc := calls_start' hN hm (hF.specs _) hK hF.run hargs
    rw [show args'.toList.toArray = args' by simp] at hc
    refine hc.mono fun e w' ⟨φ', v0', he, hk, ht, hv, hR'⟩ => ?_
    have ho := hF.out
    cases res with
    | none =>
      obtain ⟨h1, h2, h3⟩ := ho
      subst h2; subst h3
      obtain rfl := hv.of_flat h1
      exact ⟨[], φ, _, he, rfl, ⟨fun _ _ => rfl, Nat.le_refl _, hR.grow hk.size hk.block, ⟨hk.os, ht, hk.output, hk.size, fun k hk' => .inl (hk.block k hk')⟩, fun id e h1 h2 => by omega, fun t ht => by cases ht⟩, VRel.refl_flat _ _ h1⟩
    | some p =>
      obtain ⟨i, rb⟩ := p
      obtain ⟨h1, h2, h3, h4, h5, h6⟩ := ho
      subst h6
      obtain ⟨ei, hei, hri⟩ := hR'.blk i rb h2
      let φn : Emb := fun id => if id = M.next then φ' i else φ id
      have hlt : ∀ id, id ≠ M.next → φn id = φ id := fun id hid => by simp only [φn]; rw [if_neg hid]
      have hself : φn M.next = φ' i := if_pos rfl
      have hle : φ.le φn := fun id e' he' => by
        by_cases hid : id = M.next
        · subst hid
          rw [hG _ (Nat.le_refl _) (Nat.lt_succ_self _)] at he'; cases he'
        · rw [hlt id hid]; exact he'
      have hget : ∀ id b, (M.alloc rb).getA id = some b → (id = M.next ∧ b = rb) ∨ (id < M.next ∧ M.getA id = some b) := fun id b hb => by
        obtain ⟨k1, k2, k3⟩ := getA_spec.1 hb
        simp only [Mem.alloc] at k1 k2 k3
        rw [Tr.get_set] at k3
        by_cases hid : id = M.next
        · rw [if_pos hid] at k3; cases k3; exact .inl ⟨hid, rfl⟩
        · rw [if_neg hid] at k3
          exact .inr ⟨by omega, getA_spec.2 ⟨by omega, k2, k3⟩⟩
      have hRw := hR.grow hk.size hk.block
      have hown : w.heap.size ≤ ei.block := (hri.own (.inl h3)).1
      have hold : ∀ id b, M.getA id = some b → ∃ e, φ id = some e ∧ e.block < w.heap.size := fun id b hb => by
        obtain ⟨e, he, hr⟩ := hR.blkA id b hb
        exact ⟨e, he, hr.lt⟩
      refine ⟨[], φn, v0', he, rfl, ⟨fun id hid => ?_, Nat.le_succ _, ⟨fun id b hb => ?_, fun id1 id2 b1 b2 e1 e2 hne hb1 hb2 hw he1 he2 => ?_, fun g hg => ?_, fun k hk2 => hR.size k (Nat.le_trans hk.size hk2), fun id b hb => (getA_spec.1 hb).1, fun x hx => (hR.rnd x hx).step hle (hk.block _ (hR.rnd x hx).lt)⟩, ⟨hk.os, ht, hk.output, hk.size, fun k hk' => .inl (hk.block k hk')⟩, fun id e h1 h2 he' => ?_, fun t ht => by cases ht⟩, ?_⟩
      · refine hlt id ?_
        simp only [Mem.alloc] at hid
        omega
      · rcases hget id b hb with ⟨rfl, rfl⟩ | ⟨k1, k2⟩
        · refine ⟨ei, by rw [hself]; exact hei, .inl ⟨hri.esz, ?_, hri.len, fun _ => hR.size _ hown, hri.whole, hri.real⟩⟩
          obtain ⟨c, lo, hi, k1, k2, k3, k4⟩ := hri.cells
          refine ⟨c, lo, hi, k1, k2, fun j u hu => ?_, k4⟩
          obtain ⟨u', k5, k6⟩ := k3 j u hu
          have hfu := flat_of_get h4 hu
          obtain rfl := k6.of_flat hfu
          exact ⟨u', k5, VRel.refl_flat _ _ hfu⟩
        · obtain ⟨e', k3, k4⟩ := hRw.blkA id b k2
          exact ⟨e', by rw [hlt id (by omega)]; exact k3, k4.keep hle rfl⟩
      · rcases hget id1 b1 hb1 with ⟨rfl, rfl⟩ | ⟨k1, k2⟩ <;> rcases hget id2 b2 hb2 with ⟨rfl, rfl⟩ | ⟨k3, k4⟩
        · exact absurd rfl hne
        · obtain ⟨e', k5, k6⟩ := hold id2 b2 k4
          rw [hlt id2 (by omega), k5] at he2
          cases he2
          rw [hself, hei] at he1; cases he1
          exact .inl (by omega)
        · obtain ⟨e', k5, k6⟩ := hold id1 b1 k2
          rw [hlt id1 (by omega), k5] at he1
          cases he1
          rw [hself, hei] at he2; cases he2
          exact .inl (by omega)
        · rw [hlt id1 (by omega)] at he1
          rw [hlt id2 (by omega)] at he2
          exact hR.sepA id1 id2 b1 b2 e1 e2 hne k2 k4 hw he1 he2
      · obtain ⟨k1, e', k2, k3⟩ := hR.glob g hg
        exact ⟨Nat.lt_succ_of_lt k1, e', by rw [hlt g (by omega)]; exact k2, k3⟩
      · simp only [Mem.alloc] at h2
        have hid : id = M.next := by omega
        subst hid
        rw [hself, hei] at he'; cases he'
        exact .inl hown
      · refine renV_rel (φ := φ') (ψ := φn) (fun s t hst e' he' => ?_) hv h5
        simp only [toTgt] at hst
        cases hb : Nat.beq i s <;> rw [hb] at hst <;> simp only [cond_true, cond_false] at hst
        · cases hst
        · have : i = s := Nat.eq_of_beq_eq_true hb
          cases hst; subst this
          rw [hself]; exact he'
theorem SpecOk.flat (hN : noNum P) (hm : P.follows .mixedOrders = true) {f : FuncId} {g : List Value → Mem → Option (Value × Mem)}
    (h : ∀ args M v M', g args M = some (v, M') → M' = M ∧ Go.Am.flat v = true ∧ flatL args = true ∧ ∃ n SP M0, (∀ B, SpecsOk P [] B SP) ∧ Go.Am.arun P [] SP n f args (startMem [] 0) = some (v, M0)) : SpecOk P GL B f g := by
  refine SpecOk.ofStart hN hm fun args M v M' hg => ?_
  obtain ⟨h1, h2, h3, n, SP, M0, h4, h5⟩ := h args M v M' hg
  refine ⟨[], n, SP, args, v, M0, [], none, h4, h5, fun p hp => (by cases hp), fun φ φ0 args' hl ha => ?_, h2, rfl, h1⟩
  rw [ha.of_flat h3]
  exact LRel.refl_flat _ _ h3
end Go.Am
end

set_option linter.unusedVariables false
set_option linter.unusedSimpArgs false
noncomputable section
namespace Go.Am
open Go
variable {P : Program} {GL : List Nat} {B : Bd}
theorem Apart.less {e1 e2 : Ent} {b1 b1' b2 b2' : ABlk} (h : Apart e1 b1 e2 b2) (h1 : b1'.wf = b1.wf) (h2 : b2'.app = b2.app) (h3 : b2'.cs.length ≤ b2.cs.length) (h4 : b2'.wf = b2.wf) : Apart e1 b1' e2 b2' := by
  unfold Apart at h ⊢
  rw [h1, h2, h4]
  rcases h with h | ⟨k1, k2, k3, k4⟩
  · exact .inl h
  · exact .inr ⟨k1, k2, by omega, by omega⟩
end Go.Am
namespace Go.Am
open Go
end Go.Am
namespace Go.Am
open Go
variable {P : Program} {GL : List Nat} {B : Bd}
end Go.Am
end

set_option linter.unusedVariables false
set_option linter.unusedSimpArgs false
noncomputable section
namespace Go.Am
open Go
variable {P : Program} {GL : List Nat} {B : Bd}
abbrev i64 (z : Int) : Value := .int .i64 z
abbrev pt (b o : Nat) : Value := .pointer (some ⟨b, o, none⟩)
def onto (pt : Nat) (old : List Value) : Fact := ⟨pt, .bool true, (3, .val (.agg ⟨old⟩), noMem)⟩
abbrev sl (id n : Nat) : Value := .slice (some ⟨id, 0, none⟩) n n
abbrev ro (cs : List Value) (elem esz : Nat) : ABlk := ⟨cs, elem, esz, cs.length, false⟩
abbrev own (cs : List Value) (elem esz : Nat) : ABlk := ⟨cs, elem, esz, 0, true⟩
def modI (x n : Int) : Int := if x.tmod n < 0 then x.tmod n + n else x.tmod n
theorem modI_range {x n : Int} (hn : 0 < n) : 0 ≤ modI x n ∧ modI x n < n := by
  have hlt : x.tmod n < n := Int.tmod_lt_of_pos x hn
  have hgt : -n < x.tmod n := Int.lt_tmod_of_pos x hn
  unfold modI
  split <;> omega
theorem modI_neg {x n : Int} (hn : 0 < n) (hn2 : n < 2 ^ 62) (h : x.tmod n < 0) : IntKind.wrap .i64 (x.tmod n + n) = modI x n := by
  have hgt : -n < x.tmod n := Int.lt_tmod_of_pos x hn
  rw [IntWalk.i64_in _ (by omega)]
  unfold modI; rw [if_pos h]
theorem modI_pos {x n : Int} (h : ¬ x.tmod n < 0) : x.tmod n = modI x n := by
  unfold modI; rw [if_neg h]
theorem SpecOk.sub {f : FuncId} {g g' : List Value → Mem → Option (Value × Mem)} (h : SpecOk P GL B f g) (hs : ∀ args M r, g' args M = some r → g args M = some r) : SpecOk P GL B f g' :=
  ⟨fun args M v M' hg => h.abs args M v M' (hs _ _ _ hg), fun args M v M' hg => h.run args M v M' (hs _ _ _ hg)⟩
def up (s : St) (k : Nat) : St := { s with M := { s.M with next := k } }
end Go.Am
namespace Go.Am
open Go
end Go.Am
end

set_option linter.unusedVariables false
set_option linter.unusedSimpArgs false
namespace Go.Am
open Go Go.ChangeShapes Go.WideShapes
variable {P : Program} {w : World}
theorem sameAt_kept {w' : World} (h : Kept w w') {p : MemPlace} (hp : p.block < w.heap.size) : w.sameAt w' p := by
  cases p with
  | cell b off =>
    show w'.cell? _ = w.cell? _
    unfold World.cell?
    rw [h.block b hp]
  | map b => exact h.block b hp
theorem trodAll_kept {H : Type} {enc : TypeId × Value → H} {w' : World} {base : Nat} (hl : laidOutB P = true) (hk : Kept w w') {sp : Nat → Bool} : ∀ {ts : List TypeId} {vs : List Value} {ds : List (DataW H)} {ps : List MemPlace},
    (∀ t ∈ ts, P.readableRec t = true ∧ t < P.types.size) → DataW.TrodAll enc P w base (fun _ => true) true ts vs ds ps → (∀ p ∈ ps, p.block < w.heap.size) → (∀ p ∈ ps, sp p.block = true) → DataW.TrodAll enc P w' base sp true ts vs ds ps
  | [], vs, ds, ps, _, h, _, _ => by
    obtain ⟨rfl, rfl, rfl⟩ := trodAll_nil h
    exact trodAll_mk0
  | t :: ts, vs, ds, ps, ht, h, hp, hs => by
    obtain ⟨v, vs1, d, ds1, p, q, rfl, rfl, rfl, h1, h2⟩ := trodAll_cons h
    refine ⟨p, q, ?_, trodAll_kept hl hk (fun t h => ht t (List.mem_cons_of_mem _ h)) h2 (fun x hx => hp x (List.mem_append_right _ hx)) (fun x hx => hs x (List.mem_append_right _ hx)), rfl⟩
    exact Go.WideElems.Trod_stays hl (ht t (List.mem_cons_self ..)).1 (ht t (List.mem_cons_self ..)).2 h1 (fun x hx => sameAt_kept hk (hp x (List.mem_append_left _ hx))) (fun x hx => hs x (List.mem_append_left _ hx))
end Go.Am

set_option linter.unusedVariables false
set_option linter.unusedSimpArgs false
noncomputable section
namespace Go.Am
open Go Go.ChangeShapes Go.WideShapes Go.ChangeAt Go.RowKit
variable {P : Program} {GL : List Nat} {B : Bd}
section
variable {H : Type} {enc : TypeId × Value → H} {w : World} {held : Bool}
end
end Go.Am
namespace Go.Am
open Go
variable {P : Program}
end Go.Am
end
