/-
  What is proved: MiniSteady: a machine of Make's is steady just if a letter twice is a letter once: for every x, y, every word. For every argument; one laid table (math/bits) is tied by the card.
-/
import Derived.Test.YtchnlooenomfnaaGreatDoorAmX
import Derived.Test.YtchnlooenomfnaaGreatDoorGAmStart
import Derived.Test.YtchnlooenomfnaaGreatDoorGAmLoop
import Derived.IntWalk
import Derived.KernelRfl
set_option linter.unusedVariables false
set_option linter.unusedSimpArgs false
namespace Go.Am
open Go
variable {P : Program} {GL : List Nat} {B : Bd}
theorem xrun_of {SP : Specs} {n : Nat} {f : FuncId} {fn : Func} {c : Code} {args : List Value} {M : Mem} {F : List Fact} {ids : List Nat} {doors : Nat → Door} {e : AExit} {v : Value} {l : List QV} {α : Type} {look : Mem → α} {x : α}
    (hf : P.funcs[f]? = some fn) (hb : fn.body = some c) (hl : Nat.ble args.length fn.ntmps = true)
    (h : (xexec P GL SP n c ⟨initT args 0 .nil, fn.ntmps, M⟩ F 0).map (fun r => (r.1.1, look r.1.2.M, aresults P fn r.1.2, r.2.2.2.map (view doors ids))) = some (e, x, some v, l))
    (he : e = .normal ∨ e = .ret) (hq : ∀ p ∈ l, p.holds P SP doors ids) : ∃ M', arun P GL SP n f args M = some (v, M') ∧ look M' = x := by
  cases hx : xexec P GL SP n c ⟨initT args 0 .nil, fn.ntmps, M⟩ F 0 with
  | none => rw [hx] at h; cases h
  | some r =>
    obtain ⟨⟨e1, s1⟩, F1, c1, q1⟩ := r
    rw [hx] at h
    simp only [Option.map_some, Option.some.injEq, Prod.mk.injEq] at h
    obtain ⟨rfl, h2, h3, h4⟩ := h
    have hx' := xexec_sound n c _ F F1 0 c1 e1 s1 q1 hx (views_hold h4 hq)
    refine ⟨s1.M, ?_, h2⟩
    unfold arun aenter
    simp only [hf, hb, hl, cond_true, hx']
    rcases he with rfl | rfl <;> simp only [h3]
end Go.Am

set_option linter.unusedVariables false
set_option linter.unusedSimpArgs false
noncomputable section
namespace Go.Am
open Go
variable {P : Program} {GL : List Nat} {B : Bd}
def Ent.shift (e : Ent) (off : Nat) : Ent := ⟨e.block, e.base + off, e.tot - off, e.esz⟩
def Lies (src : List (Nat × Nat)) (φ φ0 : Emb) : Prop := ∀ j a off, src[j]? = some (a, off) → ∀ e, φ a = some e → φ0 j = some (e.shift off)
structure FromStart (P : Program) (f : FuncId) (args : List Value) (M : Mem) (v : Value) (M' : Mem) (l : List (Nat × ABlk)) (n : Nat) (SP : Specs) (args0 : List Value) (v0 : Value) (M0 : Mem) (src : List (Nat × Nat)) (res : Option (Nat × ABlk)) : Prop where
  specs : ∀ B, SpecsOk P [] B SP
  run : arun P [] SP n f args0 (startMem l src.length) = some (v0, M0)
  blks : ∀ p ∈ l, p.2.app = false ∧ p.2.wf = p.2.cs.length ∧ flatL p.2.cs = true ∧ ∃ a off bc, src[p.1]? = some (a, off) ∧ M.get a = some bc ∧ bc.elem = p.2.elem ∧ bc.esz = p.2.esz ∧ off + p.2.cs.length ≤ bc.cs.length ∧ (∀ (j : Nat) u, p.2.cs[j]? = some u → bc.cs[off + j]? = some u) ∧ (p.2.esz = 0 → off = 0) ∧ (off = 0 ∨ 0 < p.2.cs.length ∨ p.2.esz ≠ mapEsz)
  args : ∀ (φ φ0 : Emb) (args' : List Value), Lies src φ φ0 → LRel φ args args' → LRel φ0 args0 args'
  out : match res with
    | none => flat v0 = true ∧ v = v0 ∧ M' = M
    | some (i, rb) => src.length ≤ i ∧ M0.get i = some rb ∧ rb.app = true ∧ flatL rb.cs = true ∧ renV [(M.next, i, true)] v0 = some v ∧ M' = M.alloc rb
theorem flat_of_get : ∀ {l : List Value} {j : Nat} {u : Value}, flatL l = true → l[j]? = some u → flat u = true
  | [], _, _, _, h => by simp at h
  | v :: l, 0, _, hf, h => by simp at h; subst h; simp [flatL] at hf; exact hf.1
  | v :: l, j + 1, _, hf, h => by simp [flatL] at hf; exact flat_of_get (l := l) hf.2 (by simpa using h)
theorem calls_start' {φ : Emb} {w : World} {SP : Specs} (hN : noNum P) (hm : P.follows .mixedOrders = true) {n : Nat} {f : FuncId} {args args' : List Value} {v : Value} {M' : Mem} {l : List (Nat × ABlk)} {next : Nat}
    (hS : SpecsOk P GL w.heap.size SP) (hK : Knows1 P GL φ l next w) (h : arun P GL SP n f args (startMem l next) = some (v, M')) (ha : LRel φ args args') :
    Calls P f args'.toArray w fun e w' => ∃ φ' v', e = .returned v' ∧ Kept w w' ∧ w'.tape = w.tape ∧ VRel φ' v v' ∧ Rel P GL w.heap.size φ' M' w' := by
  have hG : Good φ (startMem l next) M' := fun id h1 _ => hK.fresh id h1
  have hc := arun_calls hN hm hS n h hK.rel hG args'.toArray ha
  refine hc.mono fun e w' ⟨L, φ', v', he, hlog, hp, hv'⟩ => ⟨φ', v', he, ⟨hp.fr.os, hp.fr.output, hp.fr.size, fun k hk => ?_⟩, hp.fr.tape, hv', hp.rel⟩
  rcases hp.fr.block k hk with h1 | ⟨h2, _⟩
  · exact h1
  · exact absurd h2.1 (Nat.not_le.2 hk)
theorem SpecOk.ofStart (hN : noNum P) (hm : P.follows .mixedOrders = true) {f : FuncId} {g : List Value → Mem → Option (Value × Mem)}
    (h : ∀ args M v M', g args M = some (v, M') → ∃ l n SP args0 v0 M0 src res, FromStart P f args M v M' l n SP args0 v0 M0 src res) : SpecOk P GL B f g := by
  refine ⟨fun args M v M' hg => ?_, fun args M v M' hg φ w hR hG args' ha => ?_⟩
  · obtain ⟨l, n, SP, args0, v0, M0, src, res, hF⟩ := h args M v M' hg
    have ho := hF.out
    cases res with
    | none => obtain ⟨_, _, rfl⟩ := ho; exact ⟨_, Abs.refl _⟩
    | some p => obtain ⟨i, rb⟩ := p; obtain ⟨_, _, _, _, _, rfl⟩ := ho; exact ⟨_, Abs.alloc _ _⟩
  · obtain ⟨l, n, SP, args0, v0, M0, src, res, hF⟩ := h args M v M' hg
    let φ0 : Emb := fun j => match src[j]? with
      | some (a, off) => match φ a with
        | some e => some (e.shift off)
        | none => none
      | none => none
    have hlies : Lies src φ φ0 := fun j a off hj e he => by simp only [φ0, hj, he]
    have hK : Knows1 P [] φ0 l src.length w := by
      refine ⟨fun p hp => ?_, fun p hp => ⟨(hF.blks p hp).1, (hF.blks p hp).2.1⟩, fun g hg => (by cases hg), fun id hid => ?_⟩
      · obtain ⟨h1, h2, h3, a, off, bc, h4, h5, h6, h7, h8, h9, h10, h11⟩ := hF.blks p hp
        obtain ⟨e, he, hr⟩ := hR.blk a bc h5
        obtain ⟨c, lo, hi, k1, k2, k3, k4⟩ := hr.cells
        have hlen := hr.len
        refine ⟨e.shift off, hlies _ _ _ h4 e he, by show e.esz = _; rw [hr.esz, h7], ⟨c, lo, hi, by rw [← h6]; exact k1, by show c.size = e.base + off + (e.tot - off); omega, fun j u hu => ?_, fun hw => ?_⟩, by show p.2.cs.length ≤ e.tot - off; omega, fun hw => ?_, fun q1 q2 => ?_, (fun hx => by
          rcases h11 with h11 | h11 | h11
          · subst h11; exact hr.real hx
          · have := hx.2.1
            simp only [Ent.shift] at this
            omega
          · exact h11 ((hr.esz.trans h7).symm.trans hx.2.2))⟩
        · obtain ⟨u', h10, h11⟩ := k3 (off + j) u (h9 j u hu)
          have hfu := flat_of_get h3 hu
          obtain rfl := h11.of_flat hfu
          exact ⟨u', by show c[e.base + off + j]? = _; rw [Nat.add_assoc]; exact h10, VRel.refl_flat _ _ hfu⟩
        · rw [h1, h2] at hw
          rcases hw with hw | hw
          · cases hw
          · exact absurd hw (Nat.lt_irrefl _)
        · rw [h1, h2] at hw
          rcases hw with hw | hw
          · cases hw
          · exact absurd hw (Nat.lt_irrefl _)
        · show e.base + off = 0
          rw [h10 q1, hr.whole (by rw [h7]; exact q1) (fun q3 => by
            rw [q3] at h8
            exact q2 (List.eq_nil_of_length_eq_zero (by simp only [List.length_nil] at h8; omega)))]
      · simp only [φ0]
        rw [List.getElem?_eq_none hid]
    have hargs := hF.args φ φ0 args'.toList hlies ha
    have hc := calls_start' hN hm (hF.specs _) hK hF.run hargs
    rw [show args'.toList.toArray = args' by simp] at hc
    refine hc.mono fun e w' ⟨φ', v0', he, hk, ht, hv, hR'⟩ => ?_
    have ho := hF.out
    cases res with
    | none =>
      obtain ⟨h1, h2, h3⟩ := ho
      subst h2; subst h3
      obtain rfl := hv.of_flat h1
      exact ⟨[], φ, _, he, rfl, ⟨fun _ _ => rfl, Nat.le_refl _, hR.grow hk.size hk.block, ⟨hk.os, ht, hk.output, hk.size, fun k hk' => .inl (hk.block k hk')⟩, fun id e h1 h2 => by omega, fun t ht => by cases ht⟩, VRel.refl_flat _ _ h1⟩
    | some p =>
      obtain ⟨i, rb⟩ := p
      obtain ⟨h1, h2, h3, h4, h5, h6⟩ := ho
      subst h6
      obtain ⟨ei, hei, hri⟩ := hR'.blk i rb h2
      let φn : Emb := fun id => if id = M.next then φ' i else φ id
      have hlt : ∀ id, id ≠ M.next → φn id = φ id := fun id hid => by simp only [φn]; rw [if_neg hid]
      have hself : φn M.next = φ' i := if_pos rfl
      have hle : φ.le φn := fun id e' he' => by
        by_cases hid : id = M.next
        · subst hid
          rw [hG _ (Nat.le_refl _) (Nat.lt_succ_self _)] at he'; cases he'
        · rw [hlt id hid]; exact he'
      have hget : ∀ id b, (M.alloc rb).getA id = some b → (id = M.next ∧ b = rb) ∨ (id < M.next ∧ M.getA id = some b) := fun id b hb => by
        obtain ⟨k1, k2, k3⟩ := getA_spec.1 hb
        simp only [Mem.alloc] at k1 k2 k3
        rw [Tr.get_set] at k3
        by_cases hid : id = M.next
        · rw [if_pos hid] at k3; cases k3; exact .inl ⟨hid, rfl⟩
        · rw [if_neg hid] at k3
          exact .inr ⟨by omega, getA_spec.2 ⟨by omega, k2, k3⟩⟩
      have hRw := hR.grow hk.size hk.block
      have hown : w.heap.size ≤ ei.block := (hri.own (.inl h3)).1
      have hold : ∀ id b, M.getA id = some b → ∃ e, φ id = some e ∧ e.block < w.heap.size := fun id b hb => by
        obtain ⟨e, he, hr⟩ := hR.blkA id b hb
        exact ⟨e, he, hr.lt⟩
      refine ⟨[], φn, v0', he, rfl, ⟨fun id hid => ?_, Nat.le_succ _, ⟨fun id b hb => ?_, fun id1 id2 b1 b2 e1 e2 hne hb1 hb2 hw he1 he2 => ?_, fun g hg => ?_, fun k hk2 => hR.size k (Nat.le_trans hk.size hk2), fun id b hb => (getA_spec.1 hb).1, fun x hx => (hR.rnd x hx).step hle (hk.block _ (hR.rnd x hx).lt)⟩, ⟨hk.os, ht, hk.output, hk.size, fun k hk' => .inl (hk.block k hk')⟩, fun id e h1 h2 he' => ?_, fun t ht => by cases ht⟩, ?_⟩
      · refine hlt id ?_
        simp only [Mem.alloc] at hid
        omega
      · rcases hget id b hb with ⟨rfl, rfl⟩ | ⟨k1, k2⟩
        · refine ⟨ei, by rw [hself]; exact hei, .inl ⟨hri.esz, ?_, hri.len, fun _ => hR.size _ hown, hri.whole, hri.real⟩⟩
          obtain ⟨c, lo, hi, k1, k2, k3, k4⟩ := hri.cells
          refine ⟨c, lo, hi, k1, k2, fun j u hu => ?_, k4⟩
          obtain ⟨u', k5, k6⟩ := k3 j u hu
          have hfu := flat_of_get h4 hu
          obtain rfl := k6.of_flat hfu
          exact ⟨u', k5, VRel.refl_flat _ _ hfu⟩
        · obtain ⟨e', k3, k4⟩ := hRw.blkA id b k2
          exact ⟨e', by rw [hlt id (by omega)]; exact k3, k4.keep hle rfl⟩
      · rcases hget id1 b1 hb1 with ⟨rfl, rfl⟩ | ⟨k1, k2⟩ <;> rcases hget id2 b2 hb2 with ⟨rfl, rfl⟩ | ⟨k3, k4⟩
        · exact absurd rfl hne
        · obtain ⟨e', k5, k6⟩ := hold id2 b2 k4
          rw [hlt id2 (by omega), k5] at he2
          cases he2
          rw [hself, hei] at he1; cases he1
          exact .inl (by omega)
        · obtain ⟨e', k5, k6⟩ := hold id1 b1 k2
          rw [hlt id1 (by omega), k5] at he1
          cases he1
          rw [hself, hei] at he2; cases he2
          exact .inl (by omega)
        · rw [hlt id1 (by omega)] at he1
          rw [hlt id2 (by omega)] at he2
          exact hR.sepA id1 id2 b1 b2 e1 e2 hne k2 k4 hw he1 he2
      · obtain ⟨k1, e', k2, k3⟩ := hR.glob g hg
        exact ⟨Nat.lt_succ_of_lt k1, e', by rw [hlt g (by omega)]; exact k2, k3⟩
      · simp only [Mem.alloc] at h2
        have hid : id = M.next := by omega
        subst hid
        rw [hself, hei] at he'; cases he'
        exact .inl hown
      · refine renV_rel (φ := φ') (ψ := φn) (fun s t hst e' he' => ?_) hv h5
        simp only [toTgt] at hst
        cases hb : Nat.beq i s <;> rw [hb] at hst <;> simp only [cond_true, cond_false] at hst
        · cases hst
        · have : i = s := Nat.eq_of_beq_eq_true hb
          cases hst; subst this
          rw [hself]; exact he'
theorem SpecOk.flat (hN : noNum P) (hm : P.follows .mixedOrders = true) {f : FuncId} {g : List Value → Mem → Option (Value × Mem)}
    (h : ∀ args M v M', g args M = some (v, M') → M' = M ∧ Go.Am.flat v = true ∧ flatL args = true ∧ ∃ n SP M0, (∀ B, SpecsOk P [] B SP) ∧ Go.Am.arun P [] SP n f args (startMem [] 0) = some (v, M0)) : SpecOk P GL B f g := by
  refine SpecOk.ofStart hN hm fun args M v M' hg => ?_
  obtain ⟨h1, h2, h3, n, SP, M0, h4, h5⟩ := h args M v M' hg
  refine ⟨[], n, SP, args, v, M0, [], none, h4, h5, fun p hp => (by cases hp), fun φ φ0 args' hl ha => ?_, h2, rfl, h1⟩
  rw [ha.of_flat h3]
  exact LRel.refl_flat _ _ h3
end Go.Am
end

set_option linter.unusedVariables false
set_option linter.unusedSimpArgs false
noncomputable section
namespace Go.Am
open Go
variable {P : Program} {GL : List Nat} {B : Bd}
end Go.Am
namespace Go.Am
open Go
end Go.Am
namespace Go.Am
open Go
variable {P : Program} {GL : List Nat} {B : Bd}
end Go.Am
end

set_option linter.unusedVariables false
set_option linter.unusedSimpArgs false
noncomputable section
namespace Go.Am
open Go
variable {P : Program} {GL : List Nat} {B : Bd}
def noDoors : Nat → Door := fun _ => ⟨0, 0, [], [], [], []⟩
abbrev i64 (z : Int) : Value := .int .i64 z
abbrev pt (b o : Nat) : Value := .pointer (some ⟨b, o, none⟩)
def tru (pt : Nat) : Fact := ⟨pt, .bool true, ansB true⟩
def fls (pt : Nat) : Fact := ⟨pt, .bool true, ansB false⟩
def onto (pt : Nat) (old : List Value) : Fact := ⟨pt, .bool true, (3, .val (.agg ⟨old⟩), noMem)⟩
abbrev sl (id n : Nat) : Value := .slice (some ⟨id, 0, none⟩) n n
abbrev ro (cs : List Value) (elem esz : Nat) : ABlk := ⟨cs, elem, esz, cs.length, false⟩
abbrev own (cs : List Value) (elem esz : Nat) : ABlk := ⟨cs, elem, esz, 0, true⟩
def modI (x n : Int) : Int := if x.tmod n < 0 then x.tmod n + n else x.tmod n
theorem modI_range {x n : Int} (hn : 0 < n) : 0 ≤ modI x n ∧ modI x n < n := by
  have hlt : x.tmod n < n := Int.tmod_lt_of_pos x hn
  have hgt : -n < x.tmod n := Int.lt_tmod_of_pos x hn
  unfold modI
  split <;> omega
theorem modI_neg {x n : Int} (hn : 0 < n) (hn2 : n < 2 ^ 62) (h : x.tmod n < 0) : IntKind.wrap .i64 (x.tmod n + n) = modI x n := by
  have hgt : -n < x.tmod n := Int.lt_tmod_of_pos x hn
  rw [IntWalk.i64_in _ (by omega)]
  unfold modI; rw [if_pos h]
theorem modI_pos {x n : Int} (h : ¬ x.tmod n < 0) : x.tmod n = modI x n := by
  unfold modI; rw [if_neg h]
theorem SpecOk.sub {f : FuncId} {g g' : List Value → Mem → Option (Value × Mem)} (h : SpecOk P GL B f g) (hs : ∀ args M r, g' args M = some r → g args M = some r) : SpecOk P GL B f g' :=
  ⟨fun args M v M' hg => h.abs args M v M' (hs _ _ _ hg), fun args M v M' hg => h.run args M v M' (hs _ _ _ hg)⟩
def gMod (args : List Value) (M : Mem) : Option (Value × Mem) :=
  match args with
  | [.int .i64 x, .int .i64 n] => bif decide (0 < n) && decide (n < 2 ^ 62) then some (i64 (modI x n), M) else none
  | _ => none
theorem SpecOk.mod {f : FuncId} (hr : ∀ B, ∀ (x n : Int) (M : Mem), 0 < n → n < 2 ^ 62 → ∃ SP k, SpecsOk P GL B SP ∧ Go.Am.arun P GL SP k f [i64 x, i64 n] M = some (i64 (modI x n), M))
    (hN : noNum P) (hm : P.follows .mixedOrders = true) : SpecOk P GL B f gMod := by
  have key : ∀ args M v M', gMod args M = some (v, M') → ∃ SP k, SpecsOk P GL B SP ∧ Go.Am.arun P GL SP k f args M = some (v, M') := fun args M v M' h => by
    unfold gMod at h
    split at h
    · rename_i x n
      cases hb : (decide (0 < n) && decide (n < 2 ^ 62)) <;> rw [hb] at h <;> simp only [cond_true, cond_false] at h
      · cases h
      · cases h
        simp only [Bool.and_eq_true, decide_eq_true_eq] at hb
        exact hr B x n M hb.1 hb.2
    · cases h
  refine ⟨fun args M v M' h => ?_, fun args M v M' h => ?_⟩
  · obtain ⟨SP, k, hS, h1⟩ := key args M v M' h
    exact (SpecOk.arun hN hm hS k f).abs args M v M' h1
  · obtain ⟨SP, k, hS, h1⟩ := key args M v M' h
    exact (SpecOk.arun hN hm hS k f).run args M v M' h1
theorem qd {SP : Specs} {D : Nat → Door} {ids : List Nat} {p : Prop} [Decidable p] (h : p) : (QV.b (decide p) (.val (.bool true))).holds P SP D ids := by simp only [QV.holds]; rw [decide_eq_true h]
theorem qdn {SP : Specs} {D : Nat → Door} {ids : List Nat} {p : Prop} [Decidable p] (h : ¬ p) : (QV.b (decide p) (.val (.bool false))).holds P SP D ids := by simp only [QV.holds]; rw [decide_eq_false h]
def up (s : St) (k : Nat) : St := { s with M := { s.M with next := k } }
end Go.Am
namespace Go.Am
open Go
end Go.Am
end
