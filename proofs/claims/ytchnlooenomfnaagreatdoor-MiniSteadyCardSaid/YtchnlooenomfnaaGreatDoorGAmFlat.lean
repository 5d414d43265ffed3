/-
  What is proved: MiniSteady: a machine of Make's is steady just if a letter twice is a letter once: for every x, y, every word. For every argument; one laid table (math/bits) is tied by the card.
-/
import Derived.Test.YtchnlooenomfnaaGreatDoorGAmTree
set_option linter.unusedVariables false
set_option linter.unusedSimpArgs false
noncomputable section
namespace Go.Am
open Go
variable {P : Program}
def irows (l : List (List Int)) : List (List Value) := l.map (·.map i64)
theorem irows_len (l : List (List Int)) : (irows l).length = l.length := by simp [irows]
theorem irows_wide {w : Nat} {l : List (List Int)} (h : ∀ r ∈ l, r.length = w) : ∀ r ∈ irows l, r.length = w := fun r hr => by
  obtain ⟨x, h1, rfl⟩ := List.mem_map.1 hr
  simpa using h x h1
theorem irows_inj : ∀ {l1 l2 : List (List Int)}, irows l1 = irows l2 → l1 = l2
  | [], [], _ => rfl
  | [], _ :: _, h => by simp [irows] at h
  | _ :: _, [], h => by simp [irows] at h
  | a :: l1, b :: l2, h => by
    simp only [irows, List.map_cons, List.cons.injEq] at h
    have h1 : a = b := by
      have : ∀ (x y : List Int), x.map i64 = y.map i64 → x = y := fun x => by
        induction x with
        | nil => intro y hy; cases y <;> simp_all
        | cons u x ih =>
          intro y hy
          cases y with
          | nil => simp at hy
          | cons v y =>
            simp only [List.map_cons, List.cons.injEq] at hy
            have : u = v := by have := hy.1; simpa [i64] using this
            rw [this, ih y hy.2]
      exact this a b h.1
    rw [h1, irows_inj (l1 := l1) (l2 := l2) h.2]
structure FlatAt (w : Nat) (M : Mem) (L : Value) (l : List (List Int)) : Prop where
  at_ : SlAt M L l.length (irows l)
  wide : ∀ r ∈ l, r.length = w
  len : l.length ≤ 9223372036854775807
theorem FlatAt.ext {w : Nat} {M M' : Mem} {L : Value} {l : List (List Int)} (h : FlatAt w M L l) (hE : ∀ id b, M.get id = some b → M'.get id = some b) : FlatAt w M' L l := ⟨h.at_.ext hE, h.wide, h.len⟩
theorem FlatAt.Ext {w : Nat} {M M' : Mem} {L : Value} {l : List (List Int)} (h : FlatAt w M L l) (hE : Go.Am.Ext M M') : FlatAt w M' L l := h.ext fun _ _ hg => hE.old hg
theorem FlatAt.log {w : Nat} {M : Mem} {L : Value} {l : List (List Int)} {lg : List Nat} (h : FlatAt w M L l) : FlatAt w { M with log := lg } L l := h.ext (M := M) (M' := { M with log := lg }) fun _ _ hg => hg
theorem FlatAt.form {w : Nat} {M : Mem} {L : Value} {l : List (List Int)} (h : FlatAt w M L l) : ∃ a c, L = .slice a l.length c := SlAt.form h.at_
theorem FlatAt.ln {w : Nat} {M : Mem} {a : Option Addr} {n c : Nat} {l : List (List Int)} (h : FlatAt w M (.slice a n c) l) : a.isNone = true → n = 0 ∧ c = 0 := SlAt.ln h.at_
theorem FlatAt.unique {w : Nat} {M : Mem} {L : Value} {l1 l2 : List (List Int)} (h1 : FlatAt w M L l1) (h2 : FlatAt w M L l2) : l1 = l2 :=
  irows_inj (SlAt.unique h1.at_ h2.at_ (irows_len _) (irows_len _) (irows_wide h1.wide) (irows_wide h2.wide)).2
theorem load_flat {w : Nat} {M : Mem} {b o c n i : Nat} {l : List (List Int)} {r : List Int} {ty : TypeId} (h : FlatAt w M (.slice (some ⟨b, o, none⟩) n c) l) (hi : l[i]? = some r)
    (hd : (P.underlying ty).map isAggD = some true) (hz : (P.info? ty).map (·.size) = some w) : aload P ty ⟨b, o + i * w, none⟩ M = some (.agg ⟨r.map i64⟩) := by
  rcases h.at_ with ⟨_, _, h0⟩ | ⟨b', o', c', blk, pre, post, h1, h2, h3, h4, _⟩
  · rw [List.eq_nil_of_length_eq_zero h0] at hi
    simp at hi
  · simp only [Value.slice.injEq, Option.some.injEq, Addr.mk.injEq] at h1
    obtain ⟨⟨rfl, rfl, _⟩, _, rfl⟩ := h1
    refine aload_agg (a := ⟨b, o + i * w, none⟩) hd hz h2 ?_
    show takeN w (blk.cs.drop (o + i * w)) = some (r.map i64)
    rw [h3, ← h4, ← List.drop_drop, List.append_assoc, List.drop_left]
    exact take_row (irows_wide h.wide) (by simp [irows, hi]) post
theorem load_flat_cell {w : Nat} {M : Mem} {b o c n i j : Nat} {l : List (List Int)} {r : List Int} {z : Int} {ty : TypeId} (h : FlatAt w M (.slice (some ⟨b, o, none⟩) n c) l) (hi : l[i]? = some r) (hj : r[j]? = some z)
    (hd : (P.underlying ty).map isAggD = some false) : aload P ty ⟨b, o + i * w + j, none⟩ M = some (i64 z) := by
  rcases h.at_ with ⟨_, _, h0⟩ | ⟨b', o', c', blk, pre, post, h1, h2, h3, h4, _⟩
  · rw [List.eq_nil_of_length_eq_zero h0] at hi
    simp at hi
  · simp only [Value.slice.injEq, Option.some.injEq, Addr.mk.injEq] at h1
    obtain ⟨⟨rfl, rfl, _⟩, _, rfl⟩ := h1
    refine aload_cell (a := ⟨b, o + i * w + j, none⟩) hd h2 ?_
    have ht : takeN w (blk.cs.drop (o + i * w)) = some (r.map i64) := by
      rw [h3, ← h4, ← List.drop_drop, List.append_assoc, List.drop_left]
      exact take_row (irows_wide h.wide) (by simp [irows, hi]) post
    have hjw : j < w := by
      rw [← h.wide r (List.mem_of_getElem? hi)]
      rcases Nat.lt_or_ge j r.length with h | h
      · exact h
      · rw [List.getElem?_eq_none h] at hj; cases hj
    have := takeN_get ht hjw
    rw [List.getElem?_drop] at this
    rw [this]
    simp [hj]
end Go.Am
end
noncomputable section
namespace Go.Am
open Go
variable {P : Program}
end Go.Am
end
noncomputable section
namespace Go.Am
open Go
end Go.Am
end

set_option linter.unusedVariables false
set_option linter.unusedSimpArgs false
noncomputable section
namespace Go.Am
open Go Go.ChangeShapes Go.WideShapes
variable {P : Program} {w : World} {H : Type} {enc : TypeId × Value → H} {S E : TypeId} {d : Nat}
structure FlatTy (enc : TypeId × Value → H) (P : Program) (S E : TypeId) (d : Nat) : Prop where
  us : P.underlying S = some (.slice E)
  cells : P.cellsOf E = d
  pos : 0 < d
  row : ∀ {w : World} {base nf : Nat} {held : Bool} {cs : List Value} {y : DataW H × List MemPlace}, DataW.trod enc P w base (fun _ => true) held nf E cs = some y → ∃ zs : List Int, zs.length = d ∧ cs = zs.map i64
theorem flat_out {base : Nat} {held : Bool} (hT : FlatTy enc P S E d) (fuel n : Nat) (cs : List Value) (x : DataW H × List MemPlace) (h : DataW.trod enc P w base (fun _ => true) held fuel S cs = some x) :
    ∃ v, cs = [v] ∧ ∃ m bs φ0 l a c, Laid P w n m bs φ0 ∧ (∀ φ : Emb, φ0.le φ → VRel φ (.slice a l.length c) v) ∧ ∀ M, Has M bs → FlatAt d M (.slice a l.length c) l := by
    rcases DataW.trod_slice hT.us h with ⟨rfl, _⟩ | ⟨a, len, cap, elems, rest, nf, rfl, rfl, _, hb, hl, hm, hlen, hel, hsp, _⟩
    · exact ⟨_, rfl, n, [], fun _ => none, [], none, 0, Laid.nil n, fun φ _ => .leaf rfl, fun M _ => ⟨.inl ⟨none, rfl, rfl⟩, (fun r hr => by cases hr), by simp⟩⟩
    · refine ⟨_, rfl, ?_⟩
      by_cases hcap : cap = 0
      · subst hcap
        have h0 : len = 0 := by omega
        subst h0
        exact ⟨n, [], fun _ => none, [], some ⟨0, 0, some 0⟩, 0, Laid.nil n, fun φ _ => .hollow (by simp), fun M _ => ⟨.inl ⟨_, rfl, rfl⟩, (fun r hr => by cases hr), by simp⟩⟩
      · obtain ⟨hrl, hr⟩ := hsp rfl
        have hd0 := hT.pos
        -- every element up to the capacity is read
        have each : ∀ i, i < cap → ∃ cs' y, w.cells? base (a.add (i * d)) d = some cs' ∧ DataW.trod enc P w base (fun _ => true) held nf E cs' = some y := fun i hi => by
          by_cases hil : i < len
          · have h1 := hel i hil
            rw [hT.cells] at h1
            rw [List.getElem?_eq_getElem (show i < elems.length by omega)] at h1
            obtain ⟨c', h2, h3⟩ := Option.bind_eq_some_iff.1 h1
            exact ⟨c', _, h2, h3⟩
          · have h1 := hr (i - len) (by omega)
            rw [hT.cells, show len + (i - len) = i by omega] at h1
            rw [List.getElem?_eq_getElem (show i - len < rest.length by omega)] at h1
            obtain ⟨c', h2, h3⟩ := Option.bind_eq_some_iff.1 h1
            exact ⟨c', _, h2, h3⟩
        obtain ⟨c0, y0, hc0, _⟩ := each 0 (by omega)
        obtain ⟨_, hc0l, hc0c⟩ := World.cells?_some hc0
        have hcell0 := hc0c 0 (by omega)
        rw [List.getElem?_eq_getElem (by omega)] at hcell0
        have hheap : ∃ c elem fr, w.heap[a.block]? = some (.cells c elem fr) ∧ a.spot = none := by
          unfold World.cell? at hcell0
          simp only [block_add] at hcell0
          split at hcell0
          · rename_i c elem fr hc
            refine ⟨c, elem, fr, hc, ?_⟩
            cases hs : a.spot with
            | none => rfl
            | some s =>
              exfalso
              have : ((a.add (0 * d)).add 0).spot.isSome = true := by
                simp [Addr.add, hs]
              rw [this] at hcell0
              simp at hcell0
          · cases hcell0
        obtain ⟨c, elem, fr, hc, hspot⟩ := hheap
        have hcell : ∀ i cs', w.cells? base (a.add (i * d)) d = some cs' → cs'.length = d ∧ ∀ j, j < d → c[a.off + i * d + j]? = cs'[j]? := fun i cs' hi => by
          obtain ⟨_, h1, h2⟩ := World.cells?_some hi
          refine ⟨h1, fun j hj => ?_⟩
          have := h2 j hj
          rw [add_none hspot, add_norm] at this
          unfold World.cell? at this
          simp only [hc] at this
          simpa using this
        -- the elements
        let css : List (List Value) := (List.range len).map fun i => (w.cells? base (a.add (i * d)) d).getD []
        have hcss : ∀ i cs', css[i]? = some cs' → i < len ∧ w.cells? base (a.add (i * d)) d = some cs' := fun i cs' hi => by
          have hil : i < len := by
            have := (List.getElem?_eq_some_iff.1 hi).1
            simpa [css] using this
          refine ⟨hil, ?_⟩
          obtain ⟨c', y, h1, h2⟩ := each i (by omega)
          simp only [css, List.getElem?_map, List.getElem?_range hil, Option.map_some, Option.some.injEq] at hi
          rw [h1] at hi ⊢
          simpa using hi
        have hrow : ∀ cs' ∈ css, ∃ zs : List Int, zs.length = d ∧ cs' = zs.map i64 := fun cs' hcs' => by
          obtain ⟨i, hi⟩ := List.getElem?_of_mem hcs'
          obtain ⟨hil, h1⟩ := hcss i cs' hi
          obtain ⟨c', y, h2, h3⟩ := each i (by omega)
          rw [h1] at h2
          cases h2
          exact hT.row h3
        obtain ⟨l, hl1, hl2⟩ : ∃ l : List (List Int), css = irows l ∧ ∀ r ∈ l, r.length = d := by
          clear hcss
          generalize css = X at hrow
          induction X with
          | nil => exact ⟨[], rfl, fun r hr => by cases hr⟩
          | cons x X ihX =>
            obtain ⟨zs, z1, rfl⟩ := hrow x (List.mem_cons_self ..)
            obtain ⟨l, l1, l2⟩ := ihX fun y hy => hrow y (List.mem_cons_of_mem _ hy)
            exact ⟨zs :: l, by rw [l1]; rfl, fun r hr => by
              rcases List.mem_cons.1 hr with rfl | hr
              · exact z1
              · exact l2 r hr⟩
        have k2 : l.length = css.length := by rw [hl1, irows_len]
        have hll : l.length = len := by rw [k2]; simp [css]
        have hflat := flat_at (c := c) (d := d) (css := css) (o := a.off) fun i cs' hi => hcell i cs' (hcss i cs' hi).2
        -- how far the block goes
        have hsz : a.off + cap * d ≤ c.size := by
          obtain ⟨c', y, h1, _⟩ := each (cap - 1) (by omega)
          obtain ⟨h2, h3⟩ := hcell (cap - 1) c' h1
          have h4 := h3 (d - 1) (by omega)
          rw [List.getElem?_eq_getElem (by omega)] at h4
          have h5 : a.off + (cap - 1) * d + (d - 1) < c.size := by
            by_cases hh : a.off + (cap - 1) * d + (d - 1) < c.size
            · exact hh
            · rw [Array.getElem?_eq_none (by omega)] at h4; cases h4
          have h6 : cap * d = (cap - 1) * d + d := by
            have := Nat.succ_mul (cap - 1) d
            rw [show (cap - 1).succ = cap by omega] at this
            exact this
          omega
        have hcl : css.flatten.length = len * d := by
          have : ∀ (l : List (List Value)), (∀ r ∈ l, r.length = d) → l.flatten.length = l.length * d := by
            intro l
            induction l with
            | nil => intro _; simp
            | cons r l ih =>
              intro hr
              rw [List.flatten_cons, List.length_append, ih fun r h => hr r (List.mem_cons_of_mem _ h), hr r (List.mem_cons_self ..), List.length_cons, Nat.succ_mul]
              omega
          rw [this css fun r hr => by
            obtain ⟨i, hi⟩ := List.getElem?_of_mem hr
            exact (hcell i r (hcss i r hi).2).1]
          simp [css]
        let ent : Ent := ⟨a.block, a.off, c.size - a.off, d⟩
        let φb : Emb := fun i => if i = n then some ent else none
        let blk : ABlk := ⟨css.flatten, elem, d, css.flatten.length, false⟩
        have hself : ∀ φ : Emb, φb.le φ → φ n = some ent := fun φ h => h n ent (by simp [φb])
        have hlm : len * d ≤ cap * d := Nat.mul_le_mul_right _ hl
        have hfl : flatL css.flatten = true := by
          rw [hl1]
          have : ∀ (l : List (List Int)), flatL (irows l).flatten = true := fun l => by
            induction l with
            | nil => rfl
            | cons r l ih =>
              simp only [irows, List.map_cons, List.flatten_cons] at ih ⊢
              have h1 : ∀ (r : List Int) (q : List Value), flatL q = true → flatL (r.map i64 ++ q) = true := fun r => by
                induction r with
                | nil => intro q hq; exact hq
                | cons z r ihr => intro q hq; simp only [List.map_cons, List.cons_append, flatL, ihr q hq, Bool.and_true]; rfl
              exact h1 r _ ih
          exact this l
        refine ⟨n + 1, [(n, blk)], φb, l, some ⟨n, 0, none⟩, len, ⟨Nat.le_succ _, fun i e h => ?_, fun p hp => ?_, by simp, fun p hp => ?_, fun p hp => ?_⟩, fun φ hφ => ?_, fun M hM => ?_⟩
        · simp only [φb] at h
          split at h
          · omega
          · cases h
        · rw [List.mem_singleton.1 hp]; simp
        · rw [List.mem_singleton.1 hp]; exact ⟨rfl, rfl⟩
        · rw [List.mem_singleton.1 hp]
          refine ⟨ent, hself _ (Emb.le_refl _), fun φ h => ?_⟩
          refine BRel.part hc ?_ (fun j v hv => ?_) (fun h0 => by have := hT.pos; omega) (.inr (.inl (by have := Nat.mul_pos (show 0 < cap by omega) hT.pos; omega)))
          · rw [hcl]; omega
          · have h1 := LRel.refl_flat φ _ hfl
            obtain ⟨v', h2, h3⟩ := h1.get hv
            exact ⟨v', hflat j v' h2, h3⟩
        · rw [hll]
          refine .slice ⟨rfl, hspot, hl, .inl rfl, ent, hself φ hφ, .inr ⟨rfl, rfl, ?_⟩⟩
          show 0 + cap * d ≤ c.size - a.off
          omega
        · refine ⟨?_, hl2, ?_⟩
          · rw [hll]
            refine .inr ⟨n, 0, len, blk, [], [], rfl, hM _ (List.mem_singleton.2 rfl), by simp [blk, hl1], rfl, fun r hr => irows_wide hl2 r hr⟩
          · rw [hll]
            have : maxLen = 9223372036854775807 ∨ maxLen ≤ 9223372036854775807 := by first | exact .inl rfl | exact .inr (by decide)
            rcases this with h1 | h1 <;> omega
end Go.Am
end

set_option linter.unusedVariables false
set_option linter.unusedSimpArgs false
noncomputable section
namespace Go.Am
open Go Go.ChangeShapes Go.WideShapes
variable {P : Program} {w : World} {H : Type} {enc : TypeId × Value → H} {S E : TypeId} {d : Nat}
structure GRowsAt {α : Type} (g : α → List Value) (w : Nat) (M : Mem) (L : Value) (l : List α) : Prop where
  at_ : SlAt M L l.length (l.map g)
  wide : ∀ r ∈ l, (g r).length = w
  len : l.length ≤ 9223372036854775807
section
variable {α : Type} {g : α → List Value} {w : Nat} {M M' : Mem} {L : Value} {l : List α}
theorem GRowsAt.ext (h : GRowsAt g w M L l) (hE : ∀ id b, M.get id = some b → M'.get id = some b) : GRowsAt g w M' L l := ⟨h.at_.ext hE, h.wide, h.len⟩
theorem GRowsAt.Ext (h : GRowsAt g w M L l) (hE : Go.Am.Ext M M') : GRowsAt g w M' L l := h.ext fun _ _ hg => hE.old hg
theorem GRowsAt.log {lg : List Nat} (h : GRowsAt g w M L l) : GRowsAt g w { M with log := lg } L l := h.ext (M := M) (M' := { M with log := lg }) fun _ _ hg => hg
theorem GRowsAt.form (h : GRowsAt g w M L l) : ∃ a c, L = .slice a l.length c := SlAt.form h.at_
theorem GRowsAt.ln {a : Option Addr} {n c : Nat} (h : GRowsAt g w M (.slice a n c) l) : a.isNone = true → n = 0 ∧ c = 0 := SlAt.ln h.at_
theorem map_inj_of (hg : ∀ x y, g x = g y → x = y) : ∀ {l1 l2 : List α}, l1.map g = l2.map g → l1 = l2
  | [], [], _ => rfl
  | [], _ :: _, h => by simp at h
  | _ :: _, [], h => by simp at h
  | a :: l1, b :: l2, h => by
    simp only [List.map_cons, List.cons.injEq] at h
    rw [hg _ _ h.1, map_inj_of hg h.2]
theorem GRowsAt.unique {l1 l2 : List α} (hg : ∀ x y, g x = g y → x = y) (h1 : GRowsAt g w M L l1) (h2 : GRowsAt g w M L l2) : l1 = l2 :=
  map_inj_of hg (SlAt.unique h1.at_ h2.at_ (List.length_map _) (List.length_map _) (fun r hr => by obtain ⟨y, e, rfl⟩ := List.mem_map.1 hr; exact h1.wide y e) (fun r hr => by obtain ⟨y, e, rfl⟩ := List.mem_map.1 hr; exact h2.wide y e)).2
end
abbrev bRow (b : Bool) : List Value := [.bool b]
theorem bRow_inj (x y : Bool) (h : bRow x = bRow y) : x = y := by simpa [bRow] using h
abbrev BoolsAt := GRowsAt bRow 1
end Go.Am
end
