/-
  What is proved: MiniKnown: these sixteen texts' machines have just so many states, and are steady, or not. For every argument; one laid table (math/bits) is tied by the card.
-/
import Derived.Test.YtchnlooenomfnaaGreatDoorAmMut
import Derived.Test.YtchnlooenomfnaaGreatDoorAmQ
/-
  THE ABSTRACT MACHINE: a call whose arguments are just these, answered by a run of its own.
-/
noncomputable section
namespace Go.Am
open Go

def addrEq (a b : Addr) : Bool := Nat.beq a.block b.block && Nat.beq a.off b.off && a.spot.isNone && b.spot.isNone
mutual
def vEq : Value → Value → Bool
  | .bool a, v => match v with | .bool b => a == b | _ => false
  | .int k a, v => match v with | .int k' b => decide (k = k') && decide (a = b) | _ => false
  | .string a, v => match v with | .string b => decide (a = b) | _ => false
  | .slice none l c, v => match v with | .slice none l' c' => Nat.beq l l' && Nat.beq c c' | _ => false
  | .slice (some a) l c, v => match v with | .slice (some b) l' c' => addrEq a b && Nat.beq l l' && Nat.beq c c' | _ => false
  | .pointer none, v => match v with | .pointer none => true | _ => false
  | .pointer (some a), v => match v with | .pointer (some b) => addrEq a b | _ => false
  | .agg x, v => match v with | .agg y => vaEq x y.toList | _ => false
  | .tuple x, v => match v with | .tuple y => vaEq x y.toList | _ => false
  | _, _ => false
def vaEq : Array Value → List Value → Bool
  | ⟨x⟩, y => vsEq x y
def vsEq : List Value → List Value → Bool
  | [], m => match m with | [] => true | _ => false
  | a :: l, m => match m with | b :: m => vEq a b && vsEq l m | [] => false
end

theorem addrEq_eq {a b : Addr} (h : addrEq a b = true) : a = b := by
  unfold addrEq at h
  simp only [Bool.and_eq_true, Nat.beq_eq, Option.isNone_iff_eq_none] at h
  obtain ⟨a1, a2, a3⟩ := a
  obtain ⟨b1, b2, b3⟩ := b
  obtain ⟨⟨⟨h1, h2⟩, h3⟩, h4⟩ := h
  simp only at h1 h2 h3 h4
  subst h1 h2 h3 h4
  rfl
mutual
theorem vEq_eq : ∀ (a b : Value), vEq a b = true → a = b
  | .bool a, b, h => by cases b <;> simp_all [vEq]
  | .int k a, b, h => by cases b <;> simp_all [vEq]
  | .string a, b, h => by cases b <;> simp_all [vEq]
  | .slice none l c, b, h => by
    cases b <;> simp only [vEq] at h <;> try cases h
    rename_i a l' c'
    cases a <;> simp_all
  | .slice (some a) l c, b, h => by
    cases b <;> simp only [vEq] at h <;> try cases h
    rename_i b l' c'
    cases b with
    | none => cases h
    | some b =>
      simp only [Bool.and_eq_true, Nat.beq_eq] at h
      rw [addrEq_eq h.1.1, h.1.2, h.2]
  | .pointer none, b, h => by
    cases b <;> simp only [vEq] at h <;> try cases h
    rename_i a
    cases a <;> simp_all
  | .pointer (some a), b, h => by
    cases b <;> simp only [vEq] at h <;> try cases h
    rename_i b
    cases b with
    | none => cases h
    | some b => rw [addrEq_eq h]
  | .agg ⟨x⟩, b, h => by
    cases b <;> simp only [vEq] at h <;> try cases h
    rename_i y
    obtain ⟨y⟩ := y
    have := vsEq_eq x y h
    rw [this]
  | .tuple ⟨x⟩, b, h => by
    cases b <;> simp only [vEq] at h <;> try cases h
    rename_i y
    obtain ⟨y⟩ := y
    have := vsEq_eq x y h
    rw [this]
  | .float _ _, b, h => by simp [vEq] at h
  | .complex _ _ _, b, h => by simp [vEq] at h
  | .map _, b, h => by simp [vEq] at h
  | .chan _, b, h => by simp [vEq] at h
  | .func _ _ _, b, h => by simp [vEq] at h
  | .nilFunc, b, h => by simp [vEq] at h
  | .iface _ _, b, h => by simp [vEq] at h
  | .nilIface, b, h => by simp [vEq] at h
theorem vsEq_eq : ∀ (a b : List Value), vsEq a b = true → a = b
  | [], b, h => by cases b <;> simp_all [vsEq]
  | x :: a, b, h => by
    cases b with
    | nil => simp [vsEq] at h
    | cons y b =>
      simp only [vsEq, Bool.and_eq_true] at h
      rw [vEq_eq x y h.1, vsEq_eq a b h.2]
end

def blkEq (a b : ABlk) : Bool := Nat.beq a.elem b.elem && Nat.beq a.esz b.esz && Nat.beq a.wf b.wf && (a.app == b.app) && vsEq a.cs b.cs
theorem blkEq_eq {a b : ABlk} (h : blkEq a b = true) : a = b := by
  unfold blkEq at h
  simp only [Bool.and_eq_true, Nat.beq_eq, beq_iff_eq] at h
  obtain ⟨a1, a2, a3, a4, a5⟩ := a
  obtain ⟨b1, b2, b3, b4, b5⟩ := b
  obtain ⟨⟨⟨⟨h1, h2⟩, h3⟩, h4⟩, h5⟩ := h
  simp only at h1 h2 h3 h4 h5
  rw [h1, h2, h3, h4, vsEq_eq _ _ h5]

/- The blocks that values point to, in their order. -/
mutual
def addrsV : Value → List Nat
  | .slice (some a) _ _ => [a.block]
  | .pointer (some a) => [a.block]
  | .agg x => addrsA x
  | .tuple x => addrsA x
  | _ => []
def addrsA : Array Value → List Nat
  | ⟨l⟩ => addrsL l
def addrsL : List Value → List Nat
  | [] => []
  | v :: l => addrsV v ++ addrsL l
end

/- What is told: which of the caller's blocks it is about, its arguments, what it answers, the new blocks. -/
structure Memo where
  args0 : List Value
  blks : List ABlk
  v0 : Value
  newsS : List Nat
  news : List ABlk

def blksEq (M : Mem) : List Nat → List ABlk → Bool
  | [], [] => true
  | a :: l, b :: m => (match M.get a with | some c => blkEq c b | none => false) && blksEq M l m
  | _, _ => false
def rensEq (r : Option (List Value)) (l : List Value) : Bool := match r with | some k => vsEq k l | none => false

def gMemo (K : Memo) : List Value → Mem → Option (Value × Mem) := fun args M =>
  bif distinct (addrsL args) && rensEq (renL (mvIn 0 (addrsL args)) args) K.args0 && blksEq M (addrsL args) K.blks then
    match renV (mvNew M.next K.newsS) K.v0 with
    | some v => some (v, M.mut [] K.news)
    | none => none
  else none

def idxB : Nat → List ABlk → List (Nat × ABlk)
  | _, [] => []
  | n, b :: l => (n, b) :: idxB (n + 1) l
theorem idxB_mem : ∀ {l : List ABlk} {n : Nat} {p : Nat × ABlk}, p ∈ idxB n l → n ≤ p.1 ∧ l[p.1 - n]? = some p.2
  | [], _, _, h => by cases h
  | b :: l, n, p, h => by
    simp only [idxB] at h
    rcases List.mem_cons.1 h with rfl | h
    · simp
    · obtain ⟨h1, h2⟩ := idxB_mem h
      refine ⟨by omega, ?_⟩
      rw [show p.1 - n = (p.1 - (n + 1)) + 1 by omega]
      simpa using h2
theorem blksEq_get {M : Mem} : ∀ {src : List Nat} {bs : List ABlk}, blksEq M src bs = true → src.length = bs.length ∧ ∀ (i : Nat) (b : ABlk), bs[i]? = some b → ∃ a : Nat, src[i]? = some a ∧ M.get a = some b
  | [], [], _ => ⟨rfl, fun i b h => by simp at h⟩
  | [], _ :: _, h => by simp [blksEq] at h
  | _ :: _, [], h => by simp [blksEq] at h
  | a :: l, b :: m, h => by
    simp only [blksEq, Bool.and_eq_true] at h
    obtain ⟨h1, h2⟩ := h
    split at h1
    · rename_i c hc
      have := blkEq_eq h1
      subst this
      obtain ⟨k1, k2⟩ := blksEq_get h2
      refine ⟨by simp [k1], fun i b hb => ?_⟩
      cases i with
      | zero => simp at hb; subst hb; exact ⟨a, rfl, hc⟩
      | succ i => exact k2 i b (by simpa using hb) |>.imp fun x hx => ⟨by simpa using hx.1, hx.2⟩
    · cases h1

def geAll (n : Nat) : List Nat → Bool
  | [] => true
  | x :: l => Nat.ble n x && geAll n l
theorem geAll_mem {n x : Nat} : ∀ {l : List Nat}, geAll n l = true → x ∈ l → n ≤ x
  | [], _, h => by cases h
  | y :: l, h, hm => by
    simp only [geAll, Bool.and_eq_true] at h
    rcases List.mem_cons.1 hm with rfl | hm
    · exact Nat.le_of_ble_eq_true h.1
    · exact geAll_mem h.2 hm
def flatBs : List ABlk → Bool
  | [] => true
  | b :: l => flatL b.cs && flatBs l
theorem flatBs_mem {b : ABlk} : ∀ {l : List ABlk}, flatBs l = true → b ∈ l → flatL b.cs = true
  | [], _, h => by cases h
  | c :: l, h, hm => by
    simp only [flatBs, Bool.and_eq_true] at h
    rcases List.mem_cons.1 hm with rfl | hm
    · exact h.1
    · exact flatBs_mem h.2 hm

variable {P : Program} {GL : List Nat} {B : Bd}

def memoSt (K : Memo) : Bool := distinct K.newsS && geAll K.blks.length K.newsS && flatBs K.blks && flatBs K.news && Nat.beq K.newsS.length K.news.length
def memoRun (P : Program) (SP : Specs) (n : Nat) (f : FuncId) (K : Memo) : Option (Value × List (Option ABlk) × Bool) :=
  (arun P [] SP n f K.args0 (startMem (idxB 0 K.blks) K.blks.length)).map fun r => (r.1, K.newsS.map r.2.get, geAll K.blks.length r.2.log)

theorem SpecOk.memo (hN : noNum P) (hm : P.follows .mixedOrders = true) {f : FuncId} (K : Memo) {n : Nat} {SP : Specs} (hS : ∀ B, SpecsOk P [] B SP) (hst : memoSt K = true)
    (hrun : memoRun P SP n f K = some (K.v0, K.news.map some, true)) : SpecOk P GL B f (gMemo K) := by
  unfold memoSt at hst
  simp only [Bool.and_eq_true, Nat.beq_eq] at hst
  obtain ⟨⟨⟨⟨s1, s2⟩, s3⟩, s4⟩, s5⟩ := hst
  unfold memoRun at hrun
  cases hr : Go.Am.arun P [] SP n f K.args0 (startMem (idxB 0 K.blks) K.blks.length) with
  | none => rw [hr] at hrun; cases hrun
  | some r =>
    obtain ⟨v1, M1⟩ := r
    rw [hr] at hrun
    simp only [Option.map_some, Option.some.injEq, Prod.mk.injEq] at hrun
    obtain ⟨rfl, r2, r3⟩ := hrun
    refine SpecOk.ofMut hN hm fun args M v M' hg => ?_
    unfold gMemo at hg
    generalize hsrc : addrsL args = src at hg
    · cases hc : (distinct src && rensEq (renL (mvIn 0 src) args) K.args0 && blksEq M src K.blks) <;> simp only [hc, cond_true, cond_false] at hg
      · cases hg
      · simp only [Bool.and_eq_true] at hc
        obtain ⟨⟨c1, c2⟩, c3⟩ := hc
        obtain ⟨d1, d2⟩ := blksEq_get c3
        split at hg
        · rename_i v2 hv2
          simp only [Option.some.injEq, Prod.mk.injEq] at hg
          obtain ⟨rfl, rfl⟩ := hg
          have hnew : ∀ (i : Nat) (b : ABlk), K.news[i]? = some b → ∃ s : Nat, K.newsS[i]? = some s ∧ M1.get s = some b := fun i b hb => by
            have h1 : (K.newsS.map M1.get)[i]? = some (some b) := by rw [r2, List.getElem?_map, hb]; rfl
            rw [List.getElem?_map] at h1
            cases hs : K.newsS[i]? with
            | none => rw [hs] at h1; cases h1
            | some s => rw [hs] at h1; exact ⟨s, rfl, by simpa using h1⟩
          refine ⟨[], K.news, src, idxB 0 K.blks, n, SP, K.args0, K.v0, M1, [], K.newsS, rfl, ⟨hS, by rw [d1]; exact hr, c1, fun p hp => ?_, ?_, fun t ht hlt => ?_, fun j a hj => ?_, fun a ha => (by cases ha), fun j hj => (by cases hj), fun a b hab => (by cases hab), fun i b hb => ?_, s5, s1, fun s hs => ⟨by simp, fun hlt => ?_⟩, hv2, fun a ha => (by cases ha)⟩⟩
          · obtain ⟨_, h2⟩ := idxB_mem hp
            rw [Nat.sub_zero] at h2
            obtain ⟨a, h3, h4⟩ := d2 _ _ h2
            exact ⟨a, p.2, h3, h4, renL_flat _ _ (flatBs_mem s3 (List.mem_of_getElem? h2)), rfl⟩
          · unfold rensEq at c2
            split at c2
            · rename_i k hk
              rw [hk, vsEq_eq _ _ c2]
            · cases c2
          · have := geAll_mem r3 ht
            omega
          · have hlt : j < K.blks.length := by
              rw [← d1]
              rcases Nat.lt_or_ge j src.length with q | q
              · exact q
              · rw [List.getElem?_eq_none q] at hj; cases hj
            obtain ⟨a', h1, h2⟩ := d2 j _ (List.getElem?_eq_getElem hlt)
            rw [hj] at h1; cases h1
            exact (get_spec.1 h2).1
          · obtain ⟨s, h1, h2⟩ := hnew i b hb
            refine ⟨s, b, h1, h2, ⟨[], ?_⟩, rfl⟩
            rw [List.append_nil]
            exact renL_flat _ _ (flatBs_mem s4 (List.mem_of_getElem? hb))
          · have := geAll_mem s2 hs
            omega
        · cases hg
end Go.Am
end

/-
  THE ABSTRACT MACHINE: told calls from quick runs.
-/
noncomputable section
namespace Go.Am
open Go
variable {P : Program} {GL : List Nat} {B : Bd}

def memoRunQ (P : Program) (SP : Specs) (qt : Tr QC) (n : Nat) (f : FuncId) (K : Memo) : Option (Value × List (Option ABlk) × Bool) :=
  (qrun P [] SP qt n f K.args0 (startMem (idxB 0 K.blks) K.blks.length)).map fun r => (r.1, K.newsS.map r.2.get, geAll K.blks.length r.2.log)
theorem SpecOk.memoQ (hN : noNum P) (hm : P.follows .mixedOrders = true) {f : FuncId} (K : Memo) {n : Nat} {SP : Specs} {qt : Tr QC} (hQ : QOk P qt) (hB : ∀ id, SP.blocks id = none) (hS : ∀ B, SpecsOk P [] B SP) (hst : memoSt K = true)
    (hrun : memoRunQ P SP qt n f K = some (K.v0, K.news.map some, true)) : SpecOk P GL B f (gMemo K) := by
  refine SpecOk.memo hN hm K hS hst (n := n) ?_
  unfold memoRunQ at hrun
  unfold memoRun
  cases hr : Go.Am.qrun P [] SP qt n f K.args0 (startMem (idxB 0 K.blks) K.blks.length) with
  | none => rw [hr] at hrun; cases hrun
  | some r =>
    rw [hr] at hrun
    rw [qrun_arun hN hm hQ hB hS hr]
    exact hrun

/- The one, else the other. -/
def orG (g1 g2 : List Value → Mem → Option (Value × Mem)) : List Value → Mem → Option (Value × Mem) := fun a M => match g1 a M with | some r => some r | none => g2 a M
def noG : List Value → Mem → Option (Value × Mem) := fun _ _ => none
theorem SpecOk.noG {f : FuncId} : SpecOk P GL B f Go.Am.noG := ⟨fun _ _ _ _ h => (by cases h), fun _ _ _ _ h => (by cases h)⟩
theorem SpecOk.orG {f : FuncId} {g1 g2 : List Value → Mem → Option (Value × Mem)} (h1 : SpecOk P GL B f g1) (h2 : SpecOk P GL B f g2) : SpecOk P GL B f (Go.Am.orG g1 g2) := by
  refine ⟨fun args M v M' h => ?_, fun args M v M' h => ?_⟩
  all_goals
    unfold Go.Am.orG at h
    split at h
    · rename_i r hr
      cases h
      first | exact h1.abs _ _ _ _ hr | exact h1.run _ _ _ _ hr
    · first | exact h2.abs _ _ _ _ h | exact h2.run _ _ _ _ h
end Go.Am
end
