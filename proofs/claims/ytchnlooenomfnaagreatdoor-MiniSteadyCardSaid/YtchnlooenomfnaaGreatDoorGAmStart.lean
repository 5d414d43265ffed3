/-
  What is proved: MiniSteady: a machine of Make's is steady just if a letter twice is a letter once: for every x, y, every word. For every argument; one laid table (math/bits) is tied by the card.
-/
import Derived.Test.YtchnlooenomfnaaGreatDoorGAmTop
import Derived.Test.YtchnlooenomfnaaGreatDoorGAmLoop
set_option linter.unusedVariables false
set_option linter.unusedSimpArgs false
noncomputable section
namespace Go.Am
open Go
variable {P : Program} {GL : List Nat} {B : Bd} {φ : Emb} {w : World}
def blkTree : List (Nat × ABlk) → Tr ABlk
  | [] => .nil
  | (i, b) :: l => (blkTree l).set i (some b)
theorem blkTree_mem : ∀ {l : List (Nat × ABlk)} {id : Nat} {b : ABlk}, (blkTree l).get id = some b → (id, b) ∈ l
  | [], id, b, h => by simp [blkTree, Tr.get] at h
  | (i, c) :: l, id, b, h => by
    unfold blkTree at h
    rw [Tr.get_set] at h
    by_cases hi : id = i
    · rw [if_pos hi] at h
      cases h; subst hi
      exact List.mem_cons_self ..
    · rw [if_neg hi] at h
      exact List.mem_cons_of_mem _ (blkTree_mem h)
def startMem (l : List (Nat × ABlk)) (next : Nat) : Mem := ⟨blkTree l, next, [], []⟩
structure Knows1 (P : Program) (GL : List Nat) (φ : Emb) (l : List (Nat × ABlk)) (next : Nat) (w : World) : Prop where
  blk : ∀ p ∈ l, ∃ e, φ p.1 = some e ∧ BRel P w.heap.size φ w e p.2
  ro : ∀ p ∈ l, p.2.app = false ∧ p.2.wf = p.2.cs.length
  glob : ∀ g ∈ GL, g < next ∧ ∃ e, φ g = some e ∧ e.block = g ∧ e.base = 0
  fresh : ∀ id, next ≤ id → φ id = none
theorem Knows1.rel {l : List (Nat × ABlk)} {next : Nat} (h : Knows1 P GL φ l next w) : Rel P GL w.heap.size φ (startMem l next) w := by
  have hm : ∀ id b, (startMem l next).getA id = some b → (id, b) ∈ l := fun id b hb => blkTree_mem (getA_spec.1 hb).2.2
  refine ⟨fun id b hb => let ⟨e, h1, h2⟩ := h.blk _ (hm id b hb); ⟨e, h1, .inl h2⟩, fun a b c d e f _ h1 _ hw => ?_, h.glob, fun k hk => bd_ok hk, fun id b hb => (getA_spec.1 hb).1, fun x hx => by cases hx⟩
  obtain ⟨h2, h3⟩ := h.ro _ (hm a c h1)
  simp only at h2 h3
  rw [h2, h3] at hw
  rcases hw with hw | hw
  · cases hw
  · exact absurd hw (Nat.lt_irrefl _)
theorem BRel.table {b : Nat} {c : Array Value} {elem : TypeId} {fr : Nat × Nat} {cs : List Value} {esz : Nat} (hc : w.heap[b]? = some (.cells c elem fr)) (hs : LRel φ cs c.toList) :
    BRel P w.heap.size φ w ⟨b, 0, c.size, esz⟩ ⟨cs, elem, esz, cs.length, false⟩ := by
  have hl := hs.length
  refine ⟨rfl, ⟨c, fr.1, fr.2, hc, by simp, fun j v hj => ?_, fun hw => ?_⟩, by simp only [Array.length_toList] at hl; simp only [hl]; exact Nat.le_refl _, fun hw => ?_, ?_, fun hx => by cases hx.1⟩
  · obtain ⟨v', hv, hr⟩ := hs.get hj
    exact ⟨v', by simpa using hv, hr⟩
  · rcases hw with hw | hw
    · cases hw
    · exact absurd hw (Nat.lt_irrefl _)
  · rcases hw with hw | hw
    · cases hw
    · exact absurd hw (Nat.lt_irrefl _)
  · exact fun _ _ => rfl
theorem BRel.part {b off : Nat} {c : Array Value} {elem : TypeId} {fr : Nat × Nat} {cs : List Value} {esz : Nat} (hc : w.heap[b]? = some (.cells c elem fr)) (ho : off + cs.length ≤ c.size)
    (hs : ∀ j v, cs[j]? = some v → ∃ v', c[off + j]? = some v' ∧ VRel φ v v') (hz : esz = 0 → cs = [] := by intro h; exact absurd h (by decide)) (hm : off = 0 ∨ off < c.size ∨ esz ≠ mapEsz := by first | exact .inl rfl | exact .inr (.inr (by decide))) :
    BRel P w.heap.size φ w ⟨b, off, c.size - off, esz⟩ ⟨cs, elem, esz, cs.length, false⟩ := by
  refine ⟨rfl, ⟨c, fr.1, fr.2, hc, by simp only; omega, hs, fun hw => ?_⟩, by simp only; omega, fun hw => ?_, ?_, fun ⟨x1, x2, x3⟩ => ?_⟩
  · rcases hw with hw | hw
    · cases hw
    · exact absurd hw (Nat.lt_irrefl _)
  · rcases hw with hw | hw
    · cases hw
    · exact absurd hw (Nat.lt_irrefl _)
  · exact fun h1 h2 => absurd (hz h1) h2
  · simp only at x1 x2 x3
    rcases hm with hm | hm | hm
    · omega
    · omega
    · exact hm x3
end Go.Am
end

set_option linter.unusedVariables false
set_option linter.unusedSimpArgs false
noncomputable section
namespace Go.Am
open Go
variable {P : Program} {GL : List Nat} {B : Bd}
def aloadB (P : Program) (t : TypeId) (off : Nat) (b : Option ABlk) : Option Value :=
  match P.underlying t, b with
  | some d, some b =>
    bif isAggD d then
      match P.info? t with
      | some i => match takeN i.size (b.cs.drop off) with
        | some l => some (.agg l.toArray)
        | none => none
      | none => none
    else b.cs[off]?
  | _, _ => none
inductive QV where
  | b (b : Bool) (t : AR)
  | ld (t : TypeId) (off : Nat) (b : Option ABlk) (v : AR)
  | ib (i : Int) (n : Nat)
  | cr (f : FuncId) (args : List Value) (looks : List (Option ABlk)) (v : AR)
  | ca (f : FuncId) (args : List Value) (looks : List (Option ABlk)) (next : Nat) (v : AR) (b : ABlk)
  | ap (tys : List TypeId) (s x : Value) (old : List Value) (b : ABlk) (new : List Value)
  | bk (id : Nat) (b : Code) (next : Nat) (log : List Nat) (reb : Option St) (st : List (List Value)) (keeps : Bool) (e : AExit) (s' : St)
  | nz (q : Int)
  | ap2 (k : Nat) (tys : List TypeId) (s x : Value) (old new : List Value) (b : ABlk) (xb : Option ABlk)
  | sl (t : TypeId) (x : Value) (lo hi mx : Option Value) (xb : Option ABlk) (v : AR)
  | st (t : TypeId) (off : Nat) (v : Value) (new : List Value) (b : ABlk)
  | mk (t : TypeId) (l c : Value) (next : Nat) (v : AR) (b : ABlk)
  | mc (f : FuncId) (args : List Value) (looks : List (Option ABlk)) (next : Nat) (v : Value) (olds : List (Nat × Option ABlk)) (news : List ABlk)
  | sx (s : ByteArray) (i n : Int)
  | sc (s t : ByteArray)
  | no
def xblk (M : Mem) : Value → Option ABlk
  | .slice (some a) _ _ => M.get a.block
  | _ => none
def view (doors : Nat → Door) (ids : List Nat) : Qu × Ans → QV
  | (.bool b, a) => .b b a.2.1
  | (.load t x M, a) => .ld t x.off (M.get x.block) a.2.1
  | (.inb i n, _) => .ib i n
  | (.nz q, _) => .nz q
  | (.sidx s i n, _) => .sx s i n
  | (.scat s t, _) => .sc s t
  | (.app2 k tys s x M old new b, _) => .ap2 k tys s x old new b (xblk M x)
  | (.slice t x lo hi mx M, a) => .sl t x lo hi mx (xblk M x) a.2.1
  | (.stx t x v _ new b, _) => match x.spot with | none => .st t x.off v new b | some _ => .no
  | (.callr f args M, a) => .cr f args (ids.map M.get) a.2.1
  | (.calla f args M v b, _) => .ca f args (ids.map M.get) M.next v b
  | (.app tys s x _ old b new, _) => .ap tys s x old b new
  | (.blk id b s e s', _) => .bk id b s.M.next s.M.log (rebase (doors id).n0 (doors id).nx (doors id).mv (doors id).keep (doors id).L (doors id).lg s) (stills s.M (doors id).mv) (keepsOk (doors id).L (doors id).mv s.M (doors id).n0) e s'
  | (.mks t l c M v b, _) => .mk t l c M.next v b
  | (.mcall f args M v olds news, _) => .mc f args (ids.map M.get) M.next v olds news
  | _ => .no
def QV.holds (P : Program) (SP : Specs) (doors : Nat → Door) (ids : List Nat) : QV → Prop
  | .b x t => t = .val (.bool x)
  | .ld t off x v => ∃ u, v = .val u ∧ aloadB P t off x = some u
  | .ib i n => inB i n = true
  | .nz q => q ≠ 0
  | .sx s i n => ∃ b : UInt8, 0 ≤ i ∧ s[i.toNat]? = some b ∧ n = b.toNat
  | .sc s t => s.size + t.size ≤ 2 ^ 62
  | .ap2 k tys s x old new y xb => ∀ M r, xblk M x = xb → app2In P k tys s x M old new = some (y, r) → aappend P tys s x M = some r
  | .sl t x lo hi mx xb v => ∀ M, xblk M x = xb → ∃ u, v = .val u ∧ aslice P t x lo hi mx M = some u
  | .st t off v new x => ∀ (M : Mem) id, M.get id = some x → astore P t ⟨id, off, none⟩ v M = some (M.put id (some { x with cs := new }))
  | .cr f args looks v => ∀ M : Mem, ids.map M.get = looks → acall (onlySpecs SP) f args M = some (1, v, M)
  | .ca f args looks next v x => ∀ M : Mem, ids.map M.get = looks → M.next = next → acall (onlySpecs SP) f args M = some (1, v, M.alloc x)
  | .ap tys s x old y new => ∀ M r, appIn P tys s x M old = some (y, new, r) → aappend P tys s x M = some r
  | .bk id y next log reb sts keeps e s' => ∃ t, SP.blocks id = some (loopG y (doors id) t (e, s')) ∧ next = (doors id).n0 ∧ log = (doors id).lg ∧ reb = some t ∧ (∀ l ∈ sts, renL (doors id).mv l = some l) ∧ keeps = true
  | .mk t l c next v x => ∀ M : Mem, M.next = next → amakeSlice P t l c M = some (1, v, M.alloc x)
  | .mc f args looks next v olds news => ∀ M : Mem, ids.map M.get = looks → M.next = next → acall (onlySpecs SP) f args M = some (2, .val v, M.mut olds news)
  | .no => False
theorem view_holds {SP : Specs} {doors : Nat → Door} {ids : List Nat} : ∀ {p : Qu × Ans}, (view doors ids p).holds P SP doors ids → p.1.holds P SP p.2
  | (.bool b, a), h => h
  | (.load t x M, a), ⟨u, h1, h2⟩ => by
    refine ⟨u, h1, ?_⟩
    unfold aload
    unfold aloadB at h2
    exact h2
  | (.inb i n, _), h => h
  | (.nz q, _), h => h
  | (.sidx s i n, _), h => h
  | (.scat s t, _), h => h
  | (.app2 k tys s x M old new b, _), h => fun r hr => h M r rfl hr
  | (.slice t x lo hi mx M, _), h => h M rfl
  | (.stx t ⟨blk, off, none⟩ v M new b, _), h => fun hb => h M blk hb
  | (.stx t ⟨blk, off, some _⟩ v M new b, _), h => h.elim
  | (.callr f args M, a), h => h M rfl
  | (.calla f args M v b, _), h => h M rfl rfl
  | (.app tys s x _ old b new, _), h => fun r hr => h _ r hr
  | (.blk id b s e s', _), ⟨t, h1, h2, h3, h4, h5, h6⟩ => ⟨_, h1, loopG_eq ⟨h2, h3, ⟨h4, h5⟩, h6⟩⟩
  | (.mks t l c M v b, _), h => h M rfl
  | (.mcall f args M v olds news, _), h => h M rfl rfl
  | (.store .., _), h => h.elim
  | (.call .., _), h => h.elim
  | (.append .., _), h => h.elim
  | (.copy .., _), h => h.elim
  | (.conv .., _), h => h.elim
theorem views_hold {SP : Specs} {doors : Nat → Door} {ids : List Nat} {q : Col} {l : List QV} (h : q.map (view doors ids) = l) (hl : ∀ p ∈ l, p.holds P SP doors ids) : allHold P SP q := by
  subst h
  intro p hp
  exact view_holds (hl _ (List.mem_map.2 ⟨p, hp, rfl⟩))
end Go.Am
end

set_option linter.unusedVariables false
set_option linter.unusedSimpArgs false
namespace Go.Am
open Go
variable {P : Program} {GL : List Nat} {B : Bd}
theorem takeN_all : ∀ {l : List Value} {n : Nat}, l.length = n → takeN n l = some l
  | [], n, h => by subst h; rfl
  | v :: l, n, h => by
    subst h
    simp only [List.length_cons, takeN]
    rw [takeN_all rfl]
theorem takeN_append : ∀ (a b : List Value), takeN a.length (a ++ b) = some a
  | [], b => rfl
  | v :: a, b => by
    simp only [List.length_cons, List.cons_append, takeN]
    rw [takeN_append a b]
end Go.Am
