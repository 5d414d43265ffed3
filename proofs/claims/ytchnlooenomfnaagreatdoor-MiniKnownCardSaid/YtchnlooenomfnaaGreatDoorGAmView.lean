/-
  What is proved: MiniKnown: these sixteen texts' machines have just so many states, and are steady, or not. For every argument; one laid table (math/bits) is tied by the card.
-/
import Derived.Test.YtchnlooenomfnaaGreatDoorAmRound
import Derived.Test.YtchnlooenomfnaaGreatDoorAmStart
import Derived.Test.YtchnlooenomfnaaGreatDoorAmX
/-
  THE ABSTRACT MACHINE, TOLD: what was told, without the memories that it was told in.
-/
noncomputable section
namespace Go.Am
open Go

variable {P : Program} {GL : List Nat} {B : Bd}

def aloadB (P : Program) (t : TypeId) (off : Nat) (b : Option ABlk) : Option Value :=
  match P.underlying t, b with
  | some d, some b =>
    bif isAggD d then
      match P.info? t with
      | some i => match takeN i.size (b.cs.drop off) with
        | some l => some (.agg l.toArray)
        | none => none
      | none => none
    else b.cs[off]?
  | _, _ => none

inductive QV where
  | b (b : Bool) (t : AR)
  | ld (t : TypeId) (off : Nat) (b : Option ABlk) (v : AR)
  | ib (i : Int) (n : Nat)
  | cr (f : FuncId) (args : List Value) (looks : List (Option ABlk)) (v : AR)
  | ca (f : FuncId) (args : List Value) (looks : List (Option ABlk)) (next : Nat) (v : AR) (b : ABlk)
  | ap (tys : List TypeId) (s x : Value) (old : List Value) (b : ABlk) (new : List Value)
  | bk (id : Nat) (b : Code) (next : Nat) (log : List Nat) (reb : Option St) (st : List (List Value)) (keeps : Bool) (e : AExit) (s' : St)
  | nz (q : Int)
  | ap2 (k : Nat) (tys : List TypeId) (s x : Value) (old new : List Value) (b : ABlk) (xb : Option ABlk)
  | sl (t : TypeId) (x : Value) (lo hi mx : Option Value) (xb : Option ABlk) (v : AR)
  | st (t : TypeId) (off : Nat) (v : Value) (new : List Value) (b : ABlk)
  | mk (t : TypeId) (l c : Value) (next : Nat) (v : AR) (b : ABlk)
  | mc (f : FuncId) (args : List Value) (looks : List (Option ABlk)) (next : Nat) (v : Value) (olds : List (Nat × Option ABlk)) (news : List ABlk)
  | sx (s : ByteArray) (i n : Int)
  | sc (s t : ByteArray)
  | no

/- The block that a slice shows. -/
def xblk (M : Mem) : Value → Option ABlk
  | .slice (some a) _ _ => M.get a.block
  | _ => none

def view (doors : Nat → Door) (ids : List Nat) : Qu × Ans → QV
  | (.bool b, a) => .b b a.2.1
  | (.load t x M, a) => .ld t x.off (M.get x.block) a.2.1
  | (.inb i n, _) => .ib i n
  | (.nz q, _) => .nz q
  | (.sidx s i n, _) => .sx s i n
  | (.scat s t, _) => .sc s t
  | (.app2 k tys s x M old new b, _) => .ap2 k tys s x old new b (xblk M x)
  | (.slice t x lo hi mx M, a) => .sl t x lo hi mx (xblk M x) a.2.1
  | (.stx t x v _ new b, _) => match x.spot with | none => .st t x.off v new b | some _ => .no
  | (.callr f args M, a) => .cr f args (ids.map M.get) a.2.1
  | (.calla f args M v b, _) => .ca f args (ids.map M.get) M.next v b
  | (.app tys s x _ old b new, _) => .ap tys s x old b new
  | (.blk id b s e s', _) => .bk id b s.M.next s.M.log (rebase (doors id).n0 (doors id).nx (doors id).mv (doors id).keep (doors id).L (doors id).lg s) (stills s.M (doors id).mv) (keepsOk (doors id).L (doors id).mv s.M (doors id).n0) e s'
  | (.mks t l c M v b, _) => .mk t l c M.next v b
  | (.mcall f args M v olds news, _) => .mc f args (ids.map M.get) M.next v olds news
  | _ => .no

def QV.holds (P : Program) (SP : Specs) (doors : Nat → Door) (ids : List Nat) : QV → Prop
  | .b x t => t = .val (.bool x)
  | .ld t off x v => ∃ u, v = .val u ∧ aloadB P t off x = some u
  | .ib i n => inB i n = true
  | .nz q => q ≠ 0
  | .sx s i n => ∃ b : UInt8, 0 ≤ i ∧ s[i.toNat]? = some b ∧ n = b.toNat
  | .sc s t => s.size + t.size ≤ 2 ^ 62
  | .ap2 k tys s x old new y xb => ∀ M r, xblk M x = xb → app2In P k tys s x M old new = some (y, r) → aappend P tys s x M = some r
  | .sl t x lo hi mx xb v => ∀ M, xblk M x = xb → ∃ u, v = .val u ∧ aslice P t x lo hi mx M = some u
  | .st t off v new x => ∀ (M : Mem) id, M.get id = some x → astore P t ⟨id, off, none⟩ v M = some (M.put id (some { x with cs := new }))
  | .cr f args looks v => ∀ M : Mem, ids.map M.get = looks → acall (onlySpecs SP) f args M = some (1, v, M)
  | .ca f args looks next v x => ∀ M : Mem, ids.map M.get = looks → M.next = next → acall (onlySpecs SP) f args M = some (1, v, M.alloc x)
  | .ap tys s x old y new => ∀ M r, appIn P tys s x M old = some (y, new, r) → aappend P tys s x M = some r
  | .bk id y next log reb sts keeps e s' => ∃ t, SP.blocks id = some (loopG y (doors id) t (e, s')) ∧ next = (doors id).n0 ∧ log = (doors id).lg ∧ reb = some t ∧ (∀ l ∈ sts, renL (doors id).mv l = some l) ∧ keeps = true
  | .mk t l c next v x => ∀ M : Mem, M.next = next → amakeSlice P t l c M = some (1, v, M.alloc x)
  | .mc f args looks next v olds news => ∀ M : Mem, ids.map M.get = looks → M.next = next → acall (onlySpecs SP) f args M = some (2, .val v, M.mut olds news)
  | .no => False

theorem view_holds {SP : Specs} {doors : Nat → Door} {ids : List Nat} : ∀ {p : Qu × Ans}, (view doors ids p).holds P SP doors ids → p.1.holds P SP p.2
  | (.bool b, a), h => h
  | (.load t x M, a), ⟨u, h1, h2⟩ => by
    refine ⟨u, h1, ?_⟩
    unfold aload
    unfold aloadB at h2
    exact h2
  | (.inb i n, _), h => h
  | (.nz q, _), h => h
  | (.sidx s i n, _), h => h
  | (.scat s t, _), h => h
  | (.app2 k tys s x M old new b, _), h => fun r hr => h M r rfl hr
  | (.slice t x lo hi mx M, _), h => h M rfl
  | (.stx t ⟨blk, off, none⟩ v M new b, _), h => fun hb => h M blk hb
  | (.stx t ⟨blk, off, some _⟩ v M new b, _), h => h.elim
  | (.callr f args M, a), h => h M rfl
  | (.calla f args M v b, _), h => h M rfl rfl
  | (.app tys s x _ old b new, _), h => fun r hr => h _ r hr
  | (.blk id b s e s', _), ⟨t, h1, h2, h3, h4, h5, h6⟩ => ⟨_, h1, loopG_eq ⟨h2, h3, ⟨h4, h5⟩, h6⟩⟩
  | (.mks t l c M v b, _), h => h M rfl
  | (.mcall f args M v olds news, _), h => h M rfl rfl
  | (.store .., _), h => h.elim
  | (.call .., _), h => h.elim
  | (.append .., _), h => h.elim
  | (.copy .., _), h => h.elim
  | (.conv .., _), h => h.elim

theorem views_hold {SP : Specs} {doors : Nat → Door} {ids : List Nat} {q : Col} {l : List QV} (h : q.map (view doors ids) = l) (hl : ∀ p ∈ l, p.holds P SP doors ids) : allHold P SP q := by
  subst h
  intro p hp
  exact view_holds (hl _ (List.mem_map.2 ⟨p, hp, rfl⟩))

/- One round, told. -/
theorem round_of {SP : Specs} {n n0 nx K : Nat} {b : Code} {s s2 : St} {F : List Fact} {mv : Moves} {keep L lg ids : List Nat} {doors : Nat → Door} {e : AExit} {st : List (List Value)} {l : List QV}
    (h : (hexec P GL SP n b s F 0).map (fun r => (r.1.1, rebase n0 nx mv keep L lg r.1.2, stills r.1.2.M mv, Nat.ble r.1.2.M.next K, r.2.2.2.map (view doors ids))) = some (e, some s2, st, true, l))
    (hl : ∀ p ∈ l, p.holds P SP doors ids) (hst : ∀ l ∈ st, renL mv l = some l) : ∃ s1, s1.M.next ≤ K ∧ aexec P GL SP n b s = some (e, s1) ∧ View n0 nx mv keep L lg s1 s2 := by
  cases hx : hexec P GL SP n b s F 0 with
  | none => rw [hx] at h; cases h
  | some r =>
    obtain ⟨⟨e1, s1⟩, F1, c1, q1⟩ := r
    rw [hx] at h
    simp only [Option.map_some, Option.some.injEq, Prod.mk.injEq] at h
    obtain ⟨rfl, h2, h3, h4, h5⟩ := h
    exact ⟨s1, Nat.le_of_ble_eq_true h4, hexec_sound n b s F F1 0 c1 e1 s1 q1 hx (views_hold h5 hl), h2, by rw [h3]; exact hst⟩

/- A whole function, told. -/
theorem run_of {SP : Specs} {n : Nat} {f : FuncId} {fn : Func} {c : Code} {args : List Value} {M : Mem} {F : List Fact} {ids : List Nat} {doors : Nat → Door} {e : AExit} {v : Value} {l : List QV} {α : Type} {look : Mem → α} {x : α}
    (hf : P.funcs[f]? = some fn) (hb : fn.body = some c) (hl : Nat.ble args.length fn.ntmps = true)
    (h : (hexec P GL SP n c ⟨initT args 0 .nil, fn.ntmps, M⟩ F 0).map (fun r => (r.1.1, look r.1.2.M, aresults P fn r.1.2, r.2.2.2.map (view doors ids))) = some (e, x, some v, l))
    (he : e = .normal ∨ e = .ret) (hq : ∀ p ∈ l, p.holds P SP doors ids) : ∃ M', arun P GL SP n f args M = some (v, M') ∧ look M' = x := by
  cases hx : hexec P GL SP n c ⟨initT args 0 .nil, fn.ntmps, M⟩ F 0 with
  | none => rw [hx] at h; cases h
  | some r =>
    obtain ⟨⟨e1, s1⟩, F1, c1, q1⟩ := r
    rw [hx] at h
    simp only [Option.map_some, Option.some.injEq, Prod.mk.injEq] at h
    obtain ⟨rfl, h2, h3, h4⟩ := h
    exact ⟨s1.M, arun_told hf hb hl hx (views_hold h4 hq) he h3, h2⟩

def tabT : List (Nat × Value) → Tr Value
  | [] => .nil
  | (t, v) :: l => (tabT l).set t (some v)

end Go.Am
end

/-
  THE ABSTRACT MACHINE, TOLD within calls: what was told, without the memories that it was told in.
-/
namespace Go.Am
open Go

variable {P : Program} {GL : List Nat} {B : Bd}

/- One round, told. -/
theorem xround_of {SP : Specs} {n n0 nx K : Nat} {b : Code} {s s2 : St} {F : List Fact} {mv : Moves} {keep L lg ids : List Nat} {doors : Nat → Door} {e : AExit} {st : List (List Value)} {l : List QV}
    (h : (xexec P GL SP n b s F 0).map (fun r => (r.1.1, rebase n0 nx mv keep L lg r.1.2, stills r.1.2.M mv, Nat.ble r.1.2.M.next K, r.2.2.2.map (view doors ids))) = some (e, some s2, st, true, l))
    (hl : ∀ p ∈ l, p.holds P SP doors ids) (hst : ∀ l ∈ st, renL mv l = some l) : ∃ s1, s1.M.next ≤ K ∧ aexec P GL SP n b s = some (e, s1) ∧ View n0 nx mv keep L lg s1 s2 := by
  cases hx : xexec P GL SP n b s F 0 with
  | none => rw [hx] at h; cases h
  | some r =>
    obtain ⟨⟨e1, s1⟩, F1, c1, q1⟩ := r
    rw [hx] at h
    simp only [Option.map_some, Option.some.injEq, Prod.mk.injEq] at h
    obtain ⟨rfl, h2, h3, h4, h5⟩ := h
    exact ⟨s1, Nat.le_of_ble_eq_true h4, xexec_sound n b s F F1 0 c1 e1 s1 q1 hx (views_hold h5 hl), h2, by rw [h3]; exact hst⟩

/- A whole function, told. -/
theorem xrun_of {SP : Specs} {n : Nat} {f : FuncId} {fn : Func} {c : Code} {args : List Value} {M : Mem} {F : List Fact} {ids : List Nat} {doors : Nat → Door} {e : AExit} {v : Value} {l : List QV} {α : Type} {look : Mem → α} {x : α}
    (hf : P.funcs[f]? = some fn) (hb : fn.body = some c) (hl : Nat.ble args.length fn.ntmps = true)
    (h : (xexec P GL SP n c ⟨initT args 0 .nil, fn.ntmps, M⟩ F 0).map (fun r => (r.1.1, look r.1.2.M, aresults P fn r.1.2, r.2.2.2.map (view doors ids))) = some (e, x, some v, l))
    (he : e = .normal ∨ e = .ret) (hq : ∀ p ∈ l, p.holds P SP doors ids) : ∃ M', arun P GL SP n f args M = some (v, M') ∧ look M' = x := by
  cases hx : xexec P GL SP n c ⟨initT args 0 .nil, fn.ntmps, M⟩ F 0 with
  | none => rw [hx] at h; cases h
  | some r =>
    obtain ⟨⟨e1, s1⟩, F1, c1, q1⟩ := r
    rw [hx] at h
    simp only [Option.map_some, Option.some.injEq, Prod.mk.injEq] at h
    obtain ⟨rfl, h2, h3, h4⟩ := h
    have hx' := xexec_sound n c _ F F1 0 c1 e1 s1 q1 hx (views_hold h4 hq)
    refine ⟨s1.M, ?_, h2⟩
    unfold arun aenter
    simp only [hf, hb, hl, cond_true, hx']
    rcases he with rfl | rfl <;> simp only [h3]

end Go.Am
