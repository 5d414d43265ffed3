/-
  What is proved: NfaChecks: whether any machine of many ways is allowed is what the document's own reading says; one that is made of numbers is; so is one with one thing of it turned. For every argument.
-/
import Derived.Test.YtnpalannikpfoaaAmTree
noncomputable section
namespace Go.Am
open Go
variable {P : Program}
def irows (l : List (List Int)) : List (List Value) := l.map (·.map i64)
theorem irows_len (l : List (List Int)) : (irows l).length = l.length := by simp [irows]
theorem irows_wide {w : Nat} {l : List (List Int)} (h : ∀ r ∈ l, r.length = w) : ∀ r ∈ irows l, r.length = w := fun r hr => by
  obtain ⟨x, h1, rfl⟩ := List.mem_map.1 hr
  simpa using h x h1
theorem irows_inj : ∀ {l1 l2 : List (List Int)}, irows l1 = irows l2 → l1 = l2
  | [], [], _ => rfl
  | [], _ :: _, h => by simp [irows] at h
  | _ :: _, [], h => by simp [irows] at h
  | a :: l1, b :: l2, h => by
    simp only [irows, List.map_cons, List.cons.injEq] at h
    have h1 : a = b := by
      have : ∀ (x y : List Int), x.map i64 = y.map i64 → x = y := fun x => by
        induction x with
        | nil => intro y hy; cases y <;> simp_all
        | cons u x ih =>
          intro y hy
          cases y with
          | nil => simp at hy
          | cons v y =>
            simp only [List.map_cons, List.cons.injEq] at hy
            have : u = v := by have := hy.1; simpa [i64] using this
            rw [this, ih y hy.2]
      exact this a b h.1
    rw [h1, irows_inj (l1 := l1) (l2 := l2) h.2]
structure FlatAt (w : Nat) (M : Mem) (L : Value) (l : List (List Int)) : Prop where
  at_ : SlAt M L l.length (irows l)
  wide : ∀ r ∈ l, r.length = w
  len : l.length ≤ 9223372036854775807
theorem FlatAt.ext {w : Nat} {M M' : Mem} {L : Value} {l : List (List Int)} (h : FlatAt w M L l) (hE : ∀ id b, M.get id = some b → M'.get id = some b) : FlatAt w M' L l := ⟨h.at_.ext hE, h.wide, h.len⟩
theorem FlatAt.Ext {w : Nat} {M M' : Mem} {L : Value} {l : List (List Int)} (h : FlatAt w M L l) (hE : Go.Am.Ext M M') : FlatAt w M' L l := h.ext fun _ _ hg => hE.old hg
theorem FlatAt.log {w : Nat} {M : Mem} {L : Value} {l : List (List Int)} {lg : List Nat} (h : FlatAt w M L l) : FlatAt w { M with log := lg } L l := h.ext (M := M) (M' := { M with log := lg }) fun _ _ hg => hg
theorem FlatAt.form {w : Nat} {M : Mem} {L : Value} {l : List (List Int)} (h : FlatAt w M L l) : ∃ a c, L = .slice a l.length c := SlAt.form h.at_
theorem FlatAt.ln {w : Nat} {M : Mem} {a : Option Addr} {n c : Nat} {l : List (List Int)} (h : FlatAt w M (.slice a n c) l) : a.isNone = true → n = 0 ∧ c = 0 := SlAt.ln h.at_
theorem FlatAt.unique {w : Nat} {M : Mem} {L : Value} {l1 l2 : List (List Int)} (h1 : FlatAt w M L l1) (h2 : FlatAt w M L l2) : l1 = l2 :=
  irows_inj (SlAt.unique h1.at_ h2.at_ (irows_len _) (irows_len _) (irows_wide h1.wide) (irows_wide h2.wide)).2
theorem load_flat {w : Nat} {M : Mem} {b o c n i : Nat} {l : List (List Int)} {r : List Int} {ty : TypeId} (h : FlatAt w M (.slice (some ⟨b, o, none⟩) n c) l) (hi : l[i]? = some r)
    (hd : (P.underlying ty).map isAggD = some true) (hz : (P.info? ty).map (·.size) = some w) : aload P ty ⟨b, o + i * w, none⟩ M = some (.agg ⟨r.map i64⟩) := by
  rcases h.at_ with ⟨_, _, h0⟩ | ⟨b', o', c', blk, pre, post, h1, h2, h3, h4, _⟩
  · rw [List.eq_nil_of_length_eq_zero h0] at hi
    simp at hi
  · simp only [Value.slice.injEq, Option.some.injEq, Addr.mk.injEq] at h1
    obtain ⟨⟨rfl, rfl, _⟩, _, rfl⟩ := h1
    refine aload_agg (a := ⟨b, o + i * w, none⟩) hd hz h2 ?_
    show takeN w (blk.cs.drop (o + i * w)) = some (r.map i64)
    rw [h3, ← h4, ← List.drop_drop, List.append_assoc, List.drop_left]
    exact take_row (irows_wide h.wide) (by simp [irows, hi]) post
theorem load_flat_cell {w : Nat} {M : Mem} {b o c n i j : Nat} {l : List (List Int)} {r : List Int} {z : Int} {ty : TypeId} (h : FlatAt w M (.slice (some ⟨b, o, none⟩) n c) l) (hi : l[i]? = some r) (hj : r[j]? = some z)
    (hd : (P.underlying ty).map isAggD = some false) : aload P ty ⟨b, o + i * w + j, none⟩ M = some (i64 z) := by
  rcases h.at_ with ⟨_, _, h0⟩ | ⟨b', o', c', blk, pre, post, h1, h2, h3, h4, _⟩
  · rw [List.eq_nil_of_length_eq_zero h0] at hi
    simp at hi
  · simp only [Value.slice.injEq, Option.some.injEq, Addr.mk.injEq] at h1
    obtain ⟨⟨rfl, rfl, _⟩, _, rfl⟩ := h1
    refine aload_cell (a := ⟨b, o + i * w + j, none⟩) hd h2 ?_
    have ht : takeN w (blk.cs.drop (o + i * w)) = some (r.map i64) := by
      rw [h3, ← h4, ← List.drop_drop, List.append_assoc, List.drop_left]
      exact take_row (irows_wide h.wide) (by simp [irows, hi]) post
    have hjw : j < w := by
      rw [← h.wide r (List.mem_of_getElem? hi)]
      rcases Nat.lt_or_ge j r.length with h | h
      · exact h
      · rw [List.getElem?_eq_none h] at hj; cases hj
    have := takeN_get ht hjw
    rw [List.getElem?_drop] at this
    rw [this]
    simp [hj]
theorem blksF_two {id k j : Nat} {g g' : Code → St → Option (AExit × St)} (h : elemN id [k, j] = false) : blksF [(k, g), (j, g')] id = none := by
  have ne : ∀ x : Nat, Nat.beq x id = false → Nat.beq id x = false := fun x hx => by
    cases hb : Nat.beq id x
    · rfl
    · rw [Nat.eq_of_beq_eq_true hb] at hx
      simp at hx
  simp only [elemN, Bool.or_false, Bool.or_eq_false_iff] at h
  unfold blksF
  rw [ne k h.1]
  exact blksF_one (by simp only [elemN, Bool.or_false]; exact h.2)
theorem three_of {r : List Int} (h : r.length = 3) : ∃ x y z, r = [x, y, z] := by
  match r, h with
  | [x, y, z], _ => exact ⟨x, y, z, rfl⟩
theorem two_of {r : List Int} (h : r.length = 2) : ∃ x y, r = [x, y] := by
  match r, h with
  | [x, y], _ => exact ⟨x, y, rfl⟩
end Go.Am
end
noncomputable section
namespace Go.Am
open Go
variable {P : Program}
theorem keep_t {M M0 : Mem} {a : Nat} (hE : Go.Am.Ext M0 M) (ha : M0.next ≤ a) (hM : MemOk M) (s blk : ABlk) : ∃ b M1, M.next = b ∧ (M.put a (some s)).alloc blk = M1 ∧ M1.get b = some blk ∧ Go.Am.Ext M0 M1 ∧ MemOk M1 ∧ (∀ id, id ≠ a → id < M.next → M1.get id = M.get id) := by
  have hM1 : MemOk (M.put a (some s)) := hM
  refine ⟨M.next, _, rfl, rfl, alloc_new hM1 blk, (hE.put (some s) ha).trans (Go.Am.Ext.alloc _ blk), hM1.ext (Go.Am.Ext.alloc _ blk), fun id h1 h2 => ?_⟩
  rw [alloc_old blk (M := M.put a (some s)) h2, put_other _ h1]
theorem append_keep {sT xT elem : TypeId} {M : Mem} {a bx c w y len wf : Nat} {blk : ABlk} {cs new : List Value} (hkt : keepT P elem = true) (hs : P.underlying sT = some (.slice elem)) (hx : P.underlying xT = some (.slice elem)) (he : elemOf P elem = some (w, y, true)) (hw : 0 < w) (hy : y ≤ 1024) (hlen : len < 1073741824) (hpos : 0 < len)
    (hg : M.get bx = some blk) (ht : takeN w blk.cs = some new) (hc : new.all isCell = true) (hl : new.length = w) (h0 : M.get a = some ⟨cs, elem, w, wf, true⟩) (hcs : cs.length = len * w) (hwf : wf ≤ len * w) :
    aappend P [sT, xT] (.slice (some ⟨a, 0, none⟩) len len) (.slice (some ⟨bx, 0, none⟩) 1 c) M = some (2, .val (.slice (some ⟨M.next, 0, none⟩) (len + 1) (len + 1)), (M.put a (some ⟨cs, elem, w, len * w, false⟩)).alloc ⟨cs ++ new, elem, w, len * w, true⟩) := by
  unfold elemOf at he
  cases hi : P.info? elem with
  | none => rw [hi] at he; cases he
  | some e =>
    rw [hi] at he
    simp only [Option.map_some, Option.some.injEq] at he
    have hr := roomy_of (n := len + 1) he hw hy (by omega)
    simp only [Prod.mk.injEq] at he
    obtain ⟨rfl, rfl, _⟩ := he
    unfold aappend
    have hold : takeN (len * e.size) (cs.drop 0) = some cs := by
      rw [List.drop_zero, ← hcs]
      exact takeN_all rfl
    have h1 : len.beq (len + 1) = false := by
      cases hb : len.beq (len + 1)
      · rfl
      · exact absurd (Nat.eq_of_beq_eq_true hb) (by omega)
    have h2 : Nat.beq (len * e.size) 0 = false := by
      cases hb : Nat.beq (len * e.size) 0
      · rfl
      · have h3 := Nat.eq_of_beq_eq_true hb
        have h4 : 0 < len * e.size := Nat.mul_pos hpos hw
        omega
    have h3 : Nat.ble wf (len * e.size) = true := Nat.ble_eq_true_of_le hwf
    have h4 : cs.take (len * e.size) = cs := by rw [← hcs]; exact List.take_length
    have h5 : Nat.beq 1 0 = false := rfl
    simp only [hs, hx, hi, lenV, isIntD, firsts, hg, range, Nat.one_mul, List.drop_zero, ht, hr, hc, hl, h0, hkt]
    rw [List.drop_zero] at hold
    simp only [hold, h1, h2, h3, h4, h5, Nat.beq_refl, Option.isNone_none, Bool.not_true, Bool.or_false, Bool.not_false, Bool.and_true, cond_true, cond_false, Nat.zero_add]
end Go.Am
end
noncomputable section
namespace Go.Am
open Go
def QC.blkIn (id : Nat) : QC → Option QC
  | .seq a b => match QC.blkIn id a with | some r => some r | none => QC.blkIn id b
  | .cond _ a b => match QC.blkIn id a with | some r => some r | none => QC.blkIn id b
  | .block i b => bif Nat.beq i id then some b else QC.blkIn id b
  | .loop b => QC.blkIn id b
  | .scope b => QC.blkIn id b
  | _ => none
def QC.blkAt (q : QC) (id : Nat) : QC := (q.blkIn id).getD .bad
end Go.Am
end
