/-
  THE ABSTRACT MACHINE: a loop's rounds, each from a memory numbered anew.
-/
import Derived.Test.YtchnlooenomfnaaGreatDoorAmMem
import Derived.LoopN
noncomputable section
namespace Go.Am
open Go

/- What is kept, by numbers anew: target, source, is it as it was? -/
abbrev Moves := List (Nat × Nat × Bool)

def toTgt : Moves → Nat → Option Nat
  | [], _ => none
  | (t, s, _) :: l, n => bif Nat.beq s n then some t else toTgt l n

def renAddr (ρ : Moves) (a : Addr) : Option Addr :=
  match a.spot, toTgt ρ a.block with
  | none, some t => some ⟨t, a.off, none⟩
  | _, _ => none

mutual
def renV (ρ : Moves) : Value → Option Value
  | .pointer (some a) => match renAddr ρ a with | some a => some (.pointer (some a)) | none => none
  | .slice (some a) l c => match renAddr ρ a with | some a => some (.slice (some a) l c) | none => none
  | .func fn first captured => bif isYield fn then none else match renA ρ first, renA ρ captured with | some x, some y => some (.func fn ⟨x⟩ ⟨y⟩) | _, _ => none
  | .iface t v => match renV ρ v with | some v => some (.iface t v) | none => none
  | .agg cs => match renA ρ cs with | some x => some (.agg ⟨x⟩) | none => none
  | .tuple vs => match renA ρ vs with | some x => some (.tuple ⟨x⟩) | none => none
  | v => bif leaf v then some v else none
def renA (ρ : Moves) : Array Value → Option (List Value)
  | ⟨l⟩ => renL ρ l
def renL (ρ : Moves) : List Value → Option (List Value)
  | [] => some []
  | v :: l => match renV ρ v, renL ρ l with | some v, some l => some (v :: l) | _, _ => none
end

variable {P : Program} {GL : List Nat} {B : Bd}

theorem renAddr_rel {ρ : Moves} {φ ψ : Emb} (h : ∀ s t, toTgt ρ s = some t → ∀ e, φ s = some e → ψ t = some e) {a b : Addr} (hr : renAddr ρ a = some b) :
    b.spot = none ∧ b.off = a.off ∧ ∀ e, φ a.block = some e → ψ b.block = some e := by
  unfold renAddr at hr
  split at hr
  · rename_i t hs ht
    cases hr
    exact ⟨rfl, rfl, h _ _ ht⟩
  · cases hr

theorem renV_leaf (ρ : Moves) : ∀ v, leaf v = true → renV ρ v = some v
  | .bool _, _ => rfl
  | .int _ _, _ => rfl
  | .float _ _, _ => rfl
  | .complex _ _ _, _ => rfl
  | .string _, _ => rfl
  | .pointer none, _ => rfl
  | .pointer (some _), h => by simp [leaf] at h
  | .slice none 0 0, _ => rfl
  | .slice none (_ + 1) _, h => by simp [leaf] at h
  | .slice none 0 (_ + 1), h => by simp [leaf] at h
  | .slice (some _) _ _, h => by simp [leaf] at h
  | .map none, _ => rfl
  | .map (some _), h => by simp [leaf] at h
  | .chan none, _ => rfl
  | .chan (some _), h => by simp [leaf] at h
  | .func _ _ _, h => by simp [leaf] at h
  | .nilFunc, _ => rfl
  | .iface _ _, h => by simp [leaf] at h
  | .nilIface, _ => rfl
  | .agg _, h => by simp [leaf] at h
  | .tuple _, h => by simp [leaf] at h

mutual
theorem renV_rel {ρ : Moves} {φ ψ : Emb} (h : ∀ s t, toTgt ρ s = some t → ∀ e, φ s = some e → ψ t = some e) : ∀ {v v' u : Value}, VRel φ v v' → renV ρ v = some u → VRel ψ u v'
  | v, _, u, .leaf hl, hr => by
    rw [renV_leaf ρ v hl] at hr
    cases hr; exact .leaf hl
  | _, _, u, .ptr ha, hr => by
    simp only [renV] at hr
    split at hr
    · rename_i b hb
      cases hr
      obtain ⟨h1, h2, h3⟩ := renAddr_rel h hb
      obtain ⟨k1, k2, e, k3, k4, k5⟩ := ha
      exact .ptr ⟨h1, k2, e, h3 e k3, k4, by rw [h2]; exact k5⟩
    · cases hr
  | _, _, u, .slice hs, hr => by
    simp only [renV] at hr
    split at hr
    · rename_i b hb
      cases hr
      obtain ⟨h1, h2, h3⟩ := renAddr_rel h hb
      obtain ⟨k1, k2, k3, k4, e, k5, k6⟩ := hs
      exact .slice ⟨h1, k2, k3, k4, e, h3 e k5, by rw [h2]; exact k6⟩
    · cases hr
  | _, _, u, .hollow hs, hr => by
    simp only [renV, renAddr] at hr
    split at hr
    · rename_i b hb
      split at hb
      · rename_i h0 _
        exact absurd h0 hs
      · cases hb
    · cases hr
  | _, _, u, .func hf hx hy, hr => by
    simp only [renV, renA, hf, cond_false] at hr
    split at hr
    · rename_i x y h1 h2
      cases hr
      exact .func hf (renL_rel h hx h1) (renL_rel h hy h2)
    · cases hr
  | _, _, u, .yld _, hr => by
    simp only [renV, isYield, cond_true] at hr
    cases hr
  | _, _, u, .iface hv, hr => by
    simp only [renV] at hr
    split at hr
    · rename_i x h1
      cases hr
      exact .iface (renV_rel h hv h1)
    · cases hr
  | _, _, u, .agg hl, hr => by
    simp only [renV, renA] at hr
    split at hr
    · rename_i x h1
      cases hr
      exact .agg (renL_rel h hl h1)
    · cases hr
  | _, _, u, .tuple hl, hr => by
    simp only [renV, renA] at hr
    split at hr
    · rename_i x h1
      cases hr
      exact .tuple (renL_rel h hl h1)
    · cases hr
theorem renL_rel {ρ : Moves} {φ ψ : Emb} (h : ∀ s t, toTgt ρ s = some t → ∀ e, φ s = some e → ψ t = some e) : ∀ {l l' k : List Value}, LRel φ l l' → renL ρ l = some k → LRel ψ k l'
  | _, _, k, .nil, hr => by
    simp only [renL, Option.some.injEq] at hr
    subst hr; exact .nil
  | _, _, k, .cons hv hl, hr => by
    simp only [renL] at hr
    split at hr
    · rename_i x y h1 h2
      cases hr
      exact .cons (renV_rel h hv h1) (renL_rel h hl h2)
    · cases hr
end

theorem renL_len {ρ : Moves} : ∀ {l k : List Value}, renL ρ l = some k → k.length = l.length
  | [], k, h => by simp only [renL, Option.some.injEq] at h; subst h; rfl
  | v :: l, k, h => by
    simp only [renL] at h
    split at h
    · rename_i x y h1 h2
      cases h
      simp [renL_len h2]
    · cases h

theorem renL_get {ρ : Moves} : ∀ {l k : List Value}, renL ρ l = some k → ∀ {j : Nat} {u : Value}, k[j]? = some u → ∃ v, l[j]? = some v ∧ renV ρ v = some u
  | [], k, h, j, u, hu => by simp only [renL, Option.some.injEq] at h; subst h; simp at hu
  | v :: l, k, h, j, u, hu => by
    simp only [renL] at h
    split at h
    · rename_i x y h1 h2
      cases h
      cases j with
      | zero => simp at hu; subst hu; exact ⟨v, rfl, h1⟩
      | succ j => simp at hu; obtain ⟨v', h3, h4⟩ := renL_get h2 hu; exact ⟨v', by simpa using h3, h4⟩
    · cases h

mutual
theorem renV_flat (ρ : Moves) : ∀ v, flat v = true → renV ρ v = some v
  | .bool _, _ => rfl
  | .int _ _, _ => rfl
  | .float _ _, _ => rfl
  | .complex _ _ _, _ => rfl
  | .string _, _ => rfl
  | .pointer none, _ => rfl
  | .pointer (some _), h => by simp [flat] at h
  | .slice none l c, h => by
    simp [flat] at h
    obtain ⟨rfl, rfl⟩ := h
    rfl
  | .slice (some _) _ _, h => by simp [flat] at h
  | .map none, _ => rfl
  | .map (some _), h => by simp [flat] at h
  | .chan none, _ => rfl
  | .chan (some _), h => by simp [flat] at h
  | .func _ ⟨x⟩ ⟨y⟩, h => by
    simp [flat, flatA] at h
    simp only [renV, renA, h.1, cond_false, renL_flat ρ x h.2.1, renL_flat ρ y h.2.2]
  | .nilFunc, _ => rfl
  | .iface _ v, h => by simp only [renV, renV_flat ρ v (by simpa [flat] using h)]
  | .nilIface, _ => rfl
  | .agg ⟨x⟩, h => by simp only [renV, renA, renL_flat ρ x (by simpa [flat, flatA] using h)]
  | .tuple ⟨x⟩, h => by simp only [renV, renA, renL_flat ρ x (by simpa [flat, flatA] using h)]
theorem renL_flat (ρ : Moves) : ∀ l, flatL l = true → renL ρ l = some l
  | [], _ => rfl
  | v :: l, h => by
    simp [flatL] at h
    simp only [renL, renV_flat ρ v h.1, renL_flat ρ l h.2]
end

/- The slots that are kept. -/
def rebT (ρ : Moves) (T : Tr Value) : List Nat → Option (Tr Value)
  | [] => some .nil
  | t :: l => match T.get t, rebT ρ T l with
    | some v, some R => match renV ρ v with
      | some u => some (R.set t (some u))
      | none => none
    | _, _ => none

/- The blocks that are kept. -/
def rebB (ρ : Moves) (M : Mem) : Moves → Option (Tr ABlk)
  | [] => some .nil
  | (t, s, fl) :: l => match M.get s, rebB ρ M l with
    | some b, some R => bif fl then some (R.set t (some b)) else match renL ρ b.cs with
      | some cs => some (R.set t (some { b with cs }))
      | none => none
    | _, _ => none

/- The contents that are said to be as they were. -/
def stills (M : Mem) : Moves → List (List Value)
  | [] => []
  | (_, s, fl) :: l => bif fl then match M.get s with | some b => b.cs :: stills M l | none => stills M l else stills M l

def memN (n : Nat) : List Nat → Bool
  | [] => false
  | x :: l => Nat.beq n x || memN n l

theorem memN_iff {n : Nat} : ∀ {l : List Nat}, memN n l = true ↔ n ∈ l
  | [] => by simp [memN]
  | x :: l => by simp [memN, memN_iff (l := l)]

def distinct : List Nat → Bool
  | [] => true
  | x :: l => !memN x l && distinct l

/- Do the moves keep what lies below n0, but for what is named? -/
def movesOk (n0 nx : Nat) (L : List Nat) : Moves → Bool
  | [] => true
  | (t, s, _) :: l => Nat.blt t nx && (bif Nat.blt t n0 then Nat.beq t s else (!Nat.blt s n0 || memN s L)) && movesOk n0 nx L l

def logOk (n0 : Nat) (L : List Nat) : List Nat → Bool
  | [] => true
  | t :: l => (!Nat.blt t n0 || memN t L) && logOk n0 L l

def allLt (n0 : Nat) : List Nat → Bool
  | [] => true
  | t :: l => Nat.blt t n0 && allLt n0 l

def rebase (n0 nx : Nat) (mv : Moves) (keep L lg : List Nat) (s : St) : Option St :=
  match s.M.hide with
  | [] =>
    bif Nat.ble n0 nx && distinct (mv.map (·.1)) && distinct (mv.map (·.2.1)) && movesOk n0 nx L mv && logOk n0 L s.M.log && allLt n0 L then
      match rebT mv s.T keep, rebB mv s.M mv with
      | some T, some R => some ⟨T, s.n, ⟨R, nx, [], L ++ lg⟩⟩
      | _, _ => none
    else none
  | _ => none

theorem rebT_get {ρ : Moves} {T : Tr Value} : ∀ {keep : List Nat} {R : Tr Value}, rebT ρ T keep = some R → ∀ {t : Nat} {u : Value}, R.get t = some u → ∃ v, T.get t = some v ∧ renV ρ v = some u
  | [], R, h, t, u, hu => by
    simp only [rebT, Option.some.injEq] at h
    subst h; simp [Tr.get] at hu
  | k :: keep, R, h, t, u, hu => by
    simp only [rebT] at h
    split at h
    · rename_i v R1 h1 h2
      split at h
      · rename_i u1 h3
        cases h
        rw [Tr.get_set] at hu
        by_cases ht : t = k
        · subst ht
          rw [if_pos rfl] at hu
          cases hu
          exact ⟨v, h1, h3⟩
        · rw [if_neg ht] at hu
          exact rebT_get h2 hu
      · cases h
    · cases h

theorem rebB_get {ρ : Moves} {M : Mem} : ∀ {mv : Moves} {R : Tr ABlk}, rebB ρ M mv = some R → (∀ l ∈ stills M mv, renL ρ l = some l) → ∀ {t : Nat} {b : ABlk}, R.get t = some b →
    ∃ s fl b0 cs, (t, s, fl) ∈ mv ∧ M.get s = some b0 ∧ renL ρ b0.cs = some cs ∧ b = { b0 with cs }
  | [], R, h, _, t, b, hb => by
    simp only [rebB, Option.some.injEq] at h
    subst h; simp [Tr.get] at hb
  | (t0, s, fl) :: mv, R, h, hst, t, b, hb => by
    simp only [rebB] at h
    split at h
    · rename_i b0 R1 h1 h2
      have hst' : ∀ l ∈ stills M mv, renL ρ l = some l := fun l hl => hst l (by
        simp only [stills]
        cases fl <;> simp only [cond_true, cond_false, h1]
        · exact hl
        · exact List.mem_cons_of_mem _ hl)
      cases fl <;> simp only [cond_true, cond_false] at h
      · split at h
        · rename_i cs h3
          cases h
          rw [Tr.get_set] at hb
          by_cases ht : t = t0
          · subst ht
            rw [if_pos rfl] at hb
            cases hb
            exact ⟨s, false, b0, cs, List.mem_cons_self .., h1, h3, rfl⟩
          · rw [if_neg ht] at hb
            obtain ⟨s', fl', b', cs', h4, h5⟩ := rebB_get h2 hst' hb
            exact ⟨s', fl', b', cs', List.mem_cons_of_mem _ h4, h5⟩
        · cases h
      · cases h
        rw [Tr.get_set] at hb
        by_cases ht : t = t0
        · subst ht
          rw [if_pos rfl] at hb
          cases hb
          exact ⟨s, true, b, b.cs, List.mem_cons_self .., h1, hst _ (by simp [stills, h1]), rfl⟩
        · rw [if_neg ht] at hb
          obtain ⟨s', fl', b', cs', h4, h5⟩ := rebB_get h2 hst' hb
          exact ⟨s', fl', b', cs', List.mem_cons_of_mem _ h4, h5⟩
    · cases h

theorem toTgt_mem {t : Nat} : ∀ {mv : Moves} {s : Nat}, toTgt mv s = some t → ∃ fl, (t, s, fl) ∈ mv
  | [], _, h => by cases h
  | (t', s', fl) :: mv, s, h => by
    simp only [toTgt] at h
    cases hb : Nat.beq s' s <;> simp only [hb, cond_true, cond_false] at h
    · obtain ⟨fl', h'⟩ := toTgt_mem h
      exact ⟨fl', List.mem_cons_of_mem _ h'⟩
    · have : s' = s := Nat.eq_of_beq_eq_true hb
      cases h; subst this
      exact ⟨fl, List.mem_cons_self ..⟩

def toSrc : Moves → Nat → Option Nat
  | [], _ => none
  | (t, s, _) :: l, n => bif Nat.beq t n then some s else toSrc l n

theorem toSrc_mem {s : Nat} : ∀ {mv : Moves} {t : Nat}, toSrc mv t = some s → ∃ fl, (t, s, fl) ∈ mv
  | [], _, h => by cases h
  | (t', s', fl) :: mv, t, h => by
    simp only [toSrc] at h
    cases hb : Nat.beq t' t <;> simp only [hb, cond_true, cond_false] at h
    · obtain ⟨fl', h'⟩ := toSrc_mem h
      exact ⟨fl', List.mem_cons_of_mem _ h'⟩
    · have : t' = t := Nat.eq_of_beq_eq_true hb
      cases h; subst this
      exact ⟨fl, List.mem_cons_self ..⟩

theorem toSrc_of_mem {s t : Nat} {fl : Bool} : ∀ {mv : Moves}, distinct (mv.map (·.1)) = true → (t, s, fl) ∈ mv → toSrc mv t = some s
  | [], _, h => by cases h
  | (t', s', fl') :: mv, hd, h => by
    simp only [List.map_cons, distinct, Bool.and_eq_true, Bool.not_eq_true'] at hd
    simp only [toSrc]
    rcases List.mem_cons.1 h with h | h
    · cases h
      simp
    · cases hb : Nat.beq t' t <;> simp only [cond_true, cond_false]
      · exact toSrc_of_mem hd.2 h
      · have : t' = t := Nat.eq_of_beq_eq_true hb
        subst this
        have hm : t' ∈ mv.map (·.1) := List.mem_map.2 ⟨_, h, rfl⟩
        rw [memN_iff.2 hm] at hd
        cases hd.1

theorem src_inj {s t1 t2 : Nat} {f1 f2 : Bool} : ∀ {mv : Moves}, distinct (mv.map (·.2.1)) = true → (t1, s, f1) ∈ mv → (t2, s, f2) ∈ mv → t1 = t2
  | [], _, h, _ => by cases h
  | (t', s', fl') :: mv, hd, h, k => by
    simp only [List.map_cons, distinct, Bool.and_eq_true, Bool.not_eq_true'] at hd
    have no : ∀ {t fl}, (t, s', fl) ∈ mv → False := fun {t fl} hm => by
      have hm : s' ∈ mv.map (·.2.1) := List.mem_map.2 ⟨_, hm, rfl⟩
      rw [memN_iff.2 hm] at hd
      cases hd.1
    rcases List.mem_cons.1 h with h1 | h1 <;> rcases List.mem_cons.1 k with k1 | k1
    · rw [Prod.mk.injEq] at h1 k1; rw [h1.1, k1.1]
    · have e : s = s' := by rw [Prod.mk.injEq, Prod.mk.injEq] at h1; exact h1.2.1
      rw [e] at k1; exact (no k1).elim
    · have e : s = s' := by rw [Prod.mk.injEq, Prod.mk.injEq] at k1; exact k1.2.1
      rw [e] at h1; exact (no h1).elim
    · exact src_inj hd.2 h1 k1

theorem movesOk_mem {n0 nx : Nat} {L : List Nat} {t s : Nat} {fl : Bool} : ∀ {mv : Moves}, movesOk n0 nx L mv = true → (t, s, fl) ∈ mv → t < nx ∧ (t < n0 → t = s) ∧ (n0 ≤ t → n0 ≤ s ∨ s ∈ L)
  | [], _, h => by cases h
  | (t', s', fl') :: mv, hd, h => by
    simp only [movesOk, Bool.and_eq_true] at hd
    rcases List.mem_cons.1 h with h | h
    · cases h
      refine ⟨Nat.le_of_ble_eq_true hd.1.1, fun ht => ?_, fun ht => ?_⟩
      · have := hd.1.2
        have hb : Nat.blt t n0 = true := Nat.ble_eq_true_of_le ht
        rw [hb] at this
        exact Nat.eq_of_beq_eq_true this
      · have := hd.1.2
        have hb : Nat.blt t n0 = false := by
          cases hq : Nat.blt t n0
          · rfl
          · have := Nat.le_of_ble_eq_true hq; omega
        rw [hb] at this
        simp only [cond_false, Bool.or_eq_true, Bool.not_eq_true'] at this
        rcases this with this | this
        · left
          by_cases hs : s < n0
          · have hb2 : Nat.blt s n0 = true := Nat.ble_eq_true_of_le hs
            rw [hb2] at this; cases this
          · omega
        · exact .inr (memN_iff.1 this)
    · exact movesOk_mem hd.2 h

theorem logOk_mem {n0 : Nat} {L : List Nat} {t : Nat} : ∀ {l : List Nat}, logOk n0 L l = true → t ∈ l → t < n0 → t ∈ L
  | [], _, h, _ => by cases h
  | x :: l, hd, h, ht => by
    simp only [logOk, Bool.and_eq_true, Bool.or_eq_true, Bool.not_eq_true'] at hd
    rcases List.mem_cons.1 h with h | h
    · subst h
      rcases hd.1 with h1 | h1
      · have hb2 : Nat.blt t n0 = true := Nat.ble_eq_true_of_le ht
        rw [hb2] at h1; cases h1
      · exact memN_iff.1 h1
    · exact logOk_mem hd.2 h ht

theorem allLt_mem {n0 t : Nat} : ∀ {l : List Nat}, allLt n0 l = true → t ∈ l → t < n0
  | [], _, h => by cases h
  | x :: l, hd, h => by
    simp only [allLt, Bool.and_eq_true] at hd
    rcases List.mem_cons.1 h with h | h
    · subst h; exact Nat.le_of_ble_eq_true hd.1
    · exact allLt_mem hd.2 h

/- A memory numbered anew. -/
theorem reb_post {φ0 φ1 : Emb} {M0 : Mem} {s s2 : St} {L1 L lg keep : List Nat} {mv : Moves} {n0 nx K : Nat} {w0 w1 : World} (hR0 : Rel P GL B φ0 M0 w0) (hn0 : M0.next = n0)
    (hG : ∀ id, n0 ≤ id → id < K → φ0 id = none) (hK : s.M.next ≤ K) (hnxK : nx ≤ K) (hp : Post P GL B φ0 φ1 M0 s.M L1 w0 w1) (hl : s.M.log = L1 ++ M0.log)
    (h : rebase n0 nx mv keep L lg s = some s2) (hst : ∀ l ∈ stills s.M mv, renL mv l = some l) :
    ∃ φ2, Post P GL B φ0 φ2 M0 s2.M L w0 w1 ∧ ∀ tmps, TRel φ1 s.T s.n tmps → TRel φ2 s2.T s2.n tmps := by
  subst hn0
  unfold rebase at h
  split at h <;> try cases h
  rename_i hhide
  cases hc : (Nat.ble M0.next nx && distinct (mv.map (·.1)) && distinct (mv.map (·.2.1)) && movesOk M0.next nx L mv && logOk M0.next L s.M.log && allLt M0.next L) <;> simp only [hc, cond_true, cond_false] at h
  · cases h
  simp only [Bool.and_eq_true] at hc
  obtain ⟨⟨⟨⟨⟨c1, c2⟩, c3⟩, c4⟩, c5⟩, c6⟩ := hc
  have c1 := Nat.le_of_ble_eq_true c1
  split at h <;> try cases h
  rename_i T R hT hB
  let φ2 : Emb := fun id => if id < M0.next then φ0 id else match toSrc mv id with
    | some s => φ1 s
    | none => if id < nx then none else φ0 id
  have hsame : ∀ id, id < M0.next → φ1 id = φ0 id := fun id hid => hp.ext id (.inl hid)
  have hφ : ∀ t s fl, (t, s, fl) ∈ mv → φ2 t = φ1 s := fun t s fl hm => by
    simp only [φ2]
    obtain ⟨h1, h2, h3⟩ := movesOk_mem c4 hm
    by_cases ht : t < M0.next
    · rw [if_pos ht]
      have := h2 ht
      subst this
      exact (hsame _ ht).symm
    · rw [if_neg ht, toSrc_of_mem c2 hm]
  have hren : ∀ s t, toTgt mv s = some t → ∀ e, φ1 s = some e → φ2 t = some e := fun s t hst e he => by
    obtain ⟨fl, hm⟩ := toTgt_mem hst
    rw [hφ _ _ _ hm]; exact he
  have hLlog : ∀ t ∈ L1, (∃ e, φ0 t = some e) → t ∈ L := fun t ht ⟨e, he⟩ => by
    have hlt : t < M0.next := by
      by_cases hlt : t < M0.next
      · exact hlt
      · have := hG t (by omega) (Nat.lt_of_lt_of_le (hp.logb t ht) hK)
        rw [this] at he; cases he
    exact logOk_mem c5 (by rw [hl]; exact List.mem_append_left _ ht) hlt
  have hget : ∀ id b, (⟨R, nx, [], L ++ lg⟩ : Mem).getA id = some b → ∃ s' fl b0 cs, (id, s', fl) ∈ mv ∧ s.M.get s' = some b0 ∧ renL mv b0.cs = some cs ∧ b = { b0 with cs } := fun id b hb =>
    rebB_get hB hst (getA_spec.1 hb).2.2
  have hext2 : ∀ id, (id < M0.next ∨ nx ≤ id) → φ2 id = φ0 id := fun id hid => by
    rcases hid with hid | hid
    · simp only [φ2]; rw [if_pos hid]
    · simp only [φ2]
      rw [if_neg (by omega)]
      cases hs : toSrc mv id with
      | some s' =>
        obtain ⟨fl, hm⟩ := toSrc_mem hs
        have := (movesOk_mem c4 hm).1
        omega
      | none => simp only; rw [if_neg (by omega)]
  have hle2 : φ0.le φ2 := fun id e he => by
    by_cases h1 : id < M0.next
    · rw [hext2 id (.inl h1)]; exact he
    · by_cases h2 : nx ≤ id
      · rw [hext2 id (.inr h2)]; exact he
      · rw [hG id (by omega) (by omega)] at he; cases he
  refine ⟨φ2, ⟨hext2, c1, ⟨fun id b hb => ?_, fun id1 id2 b1 b2 e1 e2 hne hb1 hb2 hw he1 he2 => ?_, fun g hg => ?_, hp.rel.size, fun id b hb => (getA_spec.1 hb).1, fun x hx => (hR0.rnd x hx).mix (hp.rel.rnd x hx) hle2⟩, ⟨hp.fr.os, hp.fr.tape, hp.fr.output, hp.fr.size, fun k hk => ?_⟩, fun id e h1 h2 he => ?_, fun t ht => Nat.lt_of_lt_of_le (allLt_mem c6 ht) c1⟩, fun tmps ht => ⟨ht.1, fun t v hv => ?_⟩⟩
  · obtain ⟨s', fl, b0, cs, hm, hg, hcs, rfl⟩ := hget id b hb
    obtain ⟨e, he, hr⟩ := hp.rel.blk _ _ hg
    refine ⟨e, by rw [hφ _ _ _ hm]; exact he, .inl ⟨hr.esz, ?_, by simp only; rw [renL_len hcs]; exact hr.len, fun hw => hr.own (by simpa [renL_len hcs] using hw), fun q1 q2 => hr.whole q1 fun q3 => q2 (List.eq_nil_of_length_eq_zero (by have := renL_len hcs; rw [q3] at this; exact this)), hr.real⟩⟩
    obtain ⟨c, lo, hi, k1, k2, k3, k4⟩ := hr.cells
    refine ⟨c, lo, hi, k1, k2, fun j v hv => ?_, fun hw => k4 (by simpa [renL_len hcs] using hw)⟩
    obtain ⟨v0, h1, h2⟩ := renL_get hcs hv
    obtain ⟨v', h3, h4⟩ := k3 j v0 h1
    exact ⟨v', h3, renV_rel hren h4 h2⟩
  · obtain ⟨s1, fl1, c1', cs1, hm1, hg1, hcs1, rfl⟩ := hget id1 b1 hb1
    obtain ⟨s2', fl2, c2', cs2, hm2, hg2, hcs2, rfl⟩ := hget id2 b2 hb2
    rw [hφ _ _ _ hm1] at he1
    rw [hφ _ _ _ hm2] at he2
    refine (hp.rel.sep s1 s2' c1' c2' e1 e2 (fun hs => ?_) hg1 hg2 (by simpa [renL_len hcs1] using hw) he1 he2).congr rfl rfl (renL_len hcs2) rfl
    subst hs
    exact hne (src_inj c3 hm1 hm2)
  · obtain ⟨h1, e, h2, h3⟩ := hR0.glob g hg
    refine ⟨Nat.lt_of_lt_of_le h1 c1, e, ?_, h3⟩
    simp only [φ2]; rw [if_pos h1]; exact h2
  · rcases hp.fr.block k hk with h1 | ⟨h1, t, h2, e, h3, h4⟩
    · exact .inl h1
    · exact .inr ⟨h1, t, hLlog t h2 ⟨e, h3⟩, e, h3, h4⟩
  · simp only [φ2] at he
    rw [if_neg (by omega)] at he
    split at he
    · rename_i s' hs
      obtain ⟨fl, hm⟩ := toSrc_mem hs
      obtain ⟨_, _, h5⟩ := movesOk_mem c4 hm
      have fromL : s' < M0.next → s' ∈ L → w0.heap.size ≤ e.block ∨ ∃ t ∈ L, ∃ e0, φ0 t = some e0 ∧ e0.block = e.block := fun h6 h7 => by
        rw [hsame _ h6] at he
        exact .inr ⟨s', h7, e, he, rfl⟩
      by_cases h6 : s' < M0.next
      · rcases h5 h1 with h7 | h7
        · omega
        · exact fromL h6 h7
      · by_cases h8 : s' < s.M.next
        · rcases hp.newb s' e (by omega) h8 he with h7 | ⟨t, h7, e0, h9, h10⟩
          · exact .inl h7
          · exact .inr ⟨t, hLlog t h7 ⟨e0, h9⟩, e0, h9, h10⟩
        · have := hp.ext s' (.inr (by omega))
          rw [this] at he
          by_cases h9 : s' < K
          · rw [hG s' (by omega) h9] at he; cases he
          · exfalso
            rcases h5 h1 with h7 | h7
            · cases hq : s.M.get s' with
              | none =>
                have : ∀ (mv' : Moves) (R : Tr ABlk), rebB mv s.M mv' = some R → ∀ t fl, (t, s', fl) ∈ mv' → False := by
                  intro mv'
                  induction mv' with
                  | nil => intro R _ t fl hm; cases hm
                  | cons p mv' ih =>
                    obtain ⟨t1, s1, f1⟩ := p
                    intro R hR t fl hm
                    simp only [rebB] at hR
                    split at hR
                    · rename_i b0 R1 hb0 hR1
                      rcases List.mem_cons.1 hm with hm | hm
                      · cases hm; rw [hq] at hb0; cases hb0
                      · exact ih R1 hR1 t fl hm
                    · cases hR
                exact this mv R hB _ _ hm
              | some b0 => have := (get_spec.1 hq).1; omega
            · exact h6 (allLt_mem c6 h7)
    · have h2' : id < nx := h2
      rw [if_pos h2'] at he; cases he
  · obtain ⟨v0, h1, h2⟩ := rebT_get hT hv
    obtain ⟨v', h3, h4⟩ := ht.2 t v0 h1
    exact ⟨v', h3, renV_rel hren h4 h2⟩

end Go.Am
end
