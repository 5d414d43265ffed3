/-
  What is proved: RegexRight: whether any expression is right is what the document's own reading says, and so is one of which one thing was turned. For every argument; the tables are as the program lays them.
-/
import Derived.Test.YtlgkpnlppgihcaaDoorAmTree
import Derived.Test.YtlgkpnlppgihcaaDoorAmArgs
noncomputable section
namespace Go.Am
open Go Go.ChangeShapes Go.WideShapes
variable {P : Program} {w : World}
structure Laid (P : Program) (w : World) (n m : Nat) (bs : List (Nat × ABlk)) (φ0 : Emb) : Prop where
  le : n ≤ m
  dom : ∀ i e, φ0 i = some e → n ≤ i ∧ i < m
  ids : ∀ p ∈ bs, n ≤ p.1 ∧ p.1 < m
  nodup : (bs.map (·.1)).Nodup
  ro : ∀ p ∈ bs, p.2.app = false ∧ p.2.wf = p.2.cs.length
  rel : ∀ p ∈ bs, ∃ ent, φ0 p.1 = some ent ∧ ∀ φ : Emb, φ0.le φ → BRel P w.heap.size φ w ent p.2
def Has (M : Mem) (bs : List (Nat × ABlk)) : Prop := ∀ p ∈ bs, M.get p.1 = some p.2
theorem Laid.nil (n : Nat) : Laid P w n n [] (fun _ => Option.none) := by
  refine ⟨Nat.le_refl _, fun i e h => ?_, fun p h => ?_, by simp, fun p h => ?_, fun p h => ?_⟩ <;> cases h
def both (φ1 φ2 : Emb) : Emb := fun i => match φ1 i with | some e => some e | none => φ2 i
theorem both_l (φ1 φ2 : Emb) : φ1.le (both φ1 φ2) := fun i e h => by simp only [both, h]
theorem both_r {n m k : Nat} {b1 b2 : List (Nat × ABlk)} {φ1 φ2 : Emb} (h1 : Laid P w n m b1 φ1) (h2 : Laid P w m k b2 φ2) : φ2.le (both φ1 φ2) := fun i e h => by
  have h3 := h2.dom i e h
  simp only [both]
  cases hh : φ1 i with
  | none => exact h
  | some e' => have := h1.dom i e' hh; omega
theorem Laid.join {n m k : Nat} {b1 b2 : List (Nat × ABlk)} {φ1 φ2 : Emb} (h1 : Laid P w n m b1 φ1) (h2 : Laid P w m k b2 φ2) : Laid P w n k (b1 ++ b2) (both φ1 φ2) := by
  have hr := both_r h1 h2
  refine ⟨Nat.le_trans h1.le h2.le, fun i e h => ?_, fun p hp => ?_, ?_, fun p hp => ?_, fun p hp => ?_⟩
  · simp only [both] at h
    cases hh : φ1 i with
    | none => rw [hh] at h; have := h2.dom i e h; have := h1.le; omega
    | some e' => have := h1.dom i e' hh; have := h2.le; omega
  · rcases List.mem_append.1 hp with hp | hp
    · have := h1.ids p hp; have := h2.le; omega
    · have := h2.ids p hp; have := h1.le; omega
  · rw [List.map_append, List.nodup_append]
    refine ⟨h1.nodup, h2.nodup, fun a ha b hb => ?_⟩
    obtain ⟨p, hp, rfl⟩ := List.mem_map.1 ha
    obtain ⟨q, hq, rfl⟩ := List.mem_map.1 hb
    have := h1.ids p hp; have := h2.ids q hq
    omega
  · rcases List.mem_append.1 hp with hp | hp
    · exact h1.ro p hp
    · exact h2.ro p hp
  · rcases List.mem_append.1 hp with hp | hp
    · obtain ⟨e, k1, k2⟩ := h1.rel p hp
      exact ⟨e, both_l φ1 φ2 _ _ k1, fun φ h => k2 φ (fun i e hi => h i e (both_l φ1 φ2 i e hi))⟩
    · obtain ⟨e, k1, k2⟩ := h2.rel p hp
      exact ⟨e, hr _ _ k1, fun φ h => k2 φ (fun i e hi => h i e (hr i e hi))⟩
theorem Has.left {M : Mem} {b1 b2 : List (Nat × ABlk)} (h : Has M (b1 ++ b2)) : Has M b1 := fun p hp => h p (List.mem_append_left _ hp)
theorem Has.right {M : Mem} {b1 b2 : List (Nat × ABlk)} (h : Has M (b1 ++ b2)) : Has M b2 := fun p hp => h p (List.mem_append_right _ hp)
structure TreeTy (P : Program) (S E : TypeId) (k : Nat) (fs : Array Field) : Prop where
  us : P.underlying S = some (.slice E)
  ue : P.underlying E = some (.struct fs)
  ints : ∀ (i : Nat) (f : Field), fs[i]? = some f → i < k → P.underlying f.type = some (.int .i64) ∧ P.cellsOf f.type = 1 ∧ f.offset = i
  last : ∀ f : Field, fs[k]? = some f → f.type = S ∧ f.offset = k
  size : fs.size = k + 1
  cells : P.cellsOf E = k + 1
  one : P.cellsOf S = 1
section
variable {H : Type} {enc : TypeId × Value → H} {S E : TypeId} {k : Nat} {fs : Array Field}
def SliceOut (P : Program) (w : World) (k n : Nat) (cs : List Value) : Prop :=
  ∃ v, cs = [v] ∧ ∃ m bs φ0 l a c rows, Laid P w n m bs φ0 ∧ (∀ φ : Emb, φ0.le φ → VRel φ (.slice a l.length c) v) ∧ l.length ≤ 9223372036854775807 ∧ ∀ M, Has M bs → RowsAt (k + 1) M l rows ∧ SlAt M (.slice a l.length c) l.length rows
def NodeOut (P : Program) (w : World) (k n : Nat) (cs : List Value) : Prop :=
  ∃ m bs φ0 t r, Laid P w n m bs φ0 ∧ (∀ φ : Emb, φ0.le φ → LRel φ r cs) ∧ ∀ M, Has M bs → NodeAt (k + 1) M t (.agg ⟨r⟩)
def zOf : Option Value → Int
  | some (Value.int _ z) => z
  | _ => 0
theorem zOf_i64 (z : Int) : zOf (some (i64 z)) = z := rfl
theorem ints_of {base : Nat} {spare : Nat → Bool} {held : Bool} {nf : Nat} (hT : TreeTy P S E k fs) {cs : List Value} {xs : List (DataW H × List MemPlace)} (hl : cs.length = k + 1) (hxl : xs.length = fs.size)
    (hx : ∀ (i : Nat) (f : Field), fs[i]? = some f → DataW.trod enc P w base spare held nf f.type ((cs.drop f.offset).take (P.cellsOf f.type)) = xs[i]?) :
    ∃ zs : List Int, zs.length = k ∧ cs.take k = zs.map i64 ∧ ∃ x, DataW.trod enc P w base spare held nf S (cs.drop k) = some x := by
  have hget : ∀ i, i < k → ∃ z : Int, cs[i]? = some (i64 z) := fun i hi => by
    obtain ⟨f, hf⟩ : ∃ f, fs[i]? = some f := ⟨fs[i]'(by rw [hT.size]; omega), Array.getElem?_eq_getElem (by rw [hT.size]; omega)⟩
    obtain ⟨h1, h2, h3⟩ := hT.ints i f hf hi
    have h := hx i f hf
    rw [h2, h3] at h
    obtain ⟨y, hy⟩ : ∃ y, xs[i]? = some y := ⟨xs[i]'(by rw [hxl, hT.size]; omega), List.getElem?_eq_getElem (by rw [hxl, hT.size]; omega)⟩
    rw [hy] at h
    obtain ⟨z, hz, _⟩ := DataW.trod_int h1 h
    refine ⟨z, ?_⟩
    have : ((cs.drop i).take 1)[0]? = some (i64 z) := by rw [hz]; rfl
    rw [List.getElem?_take, if_pos (by omega), List.getElem?_drop] at this
    exact this
  refine ⟨(List.range k).map fun i => zOf cs[i]?, by simp, ?_, ?_⟩
  · apply List.ext_getElem?
    intro i
    by_cases hi : i < k
    · obtain ⟨z, hz⟩ := hget i hi
      rw [List.getElem?_take, if_pos hi, hz]
      rw [List.map_map, List.getElem?_map, List.getElem?_range hi]
      simp only [Option.map_some, Function.comp_apply, hz, zOf_i64]
    · rw [List.getElem?_eq_none (by simp; omega), List.getElem?_eq_none (by simp; omega)]
  · obtain ⟨f, hf⟩ : ∃ f, fs[k]? = some f := ⟨fs[k]'(by rw [hT.size]; omega), Array.getElem?_eq_getElem (by rw [hT.size]; omega)⟩
    obtain ⟨h1, h2⟩ := hT.last f hf
    have h := hx k f hf
    rw [h1, h2, hT.one] at h
    have ht : (cs.drop k).take 1 = cs.drop k := by rw [List.take_of_length_le]; simp [hl]
    rw [ht] at h
    obtain ⟨y, hy⟩ : ∃ y, xs[k]? = some y := ⟨xs[k]'(by rw [hxl, hT.size]; omega), List.getElem?_eq_getElem (by rw [hxl, hT.size]; omega)⟩
    exact ⟨y, by rw [h, hy]⟩
theorem node_out {base : Nat} {spare : Nat → Bool} {held : Bool} (hT : TreeTy P S E k fs) {fuel : Nat} (ih : ∀ nf, nf < fuel → ∀ n cs x, DataW.trod enc P w base spare held nf S cs = some x → SliceOut P w k n cs) {n : Nat} {cs : List Value} {x : DataW H × List MemPlace} (h : DataW.trod enc P w base spare held fuel E cs = some x) : NodeOut P w k n cs := by
  obtain ⟨xs, nf, rfl, _, hl, hxl, hx⟩ := DataW.trod_struct hT.ue h
  rw [hT.cells] at hl
  obtain ⟨zs, h1, h2, y, h3⟩ := ints_of hT hl hxl hx
  obtain ⟨v, hv, m, bs, φ0, l, a, c, rows, k1, k2, k3, k4⟩ := ih nf (Nat.lt_succ_self _) n _ _ h3
  have hcs : cs = zs.map i64 ++ [v] := by
    rw [← h2, ← hv, List.take_append_drop]
  refine ⟨m, bs, φ0, .mk zs l, zs.map i64 ++ [.slice a l.length c], k1, fun φ hφ => ?_, fun M hM => ?_⟩
  · rw [hcs]
    refine LRel.append (LRel.refl_flat φ _ ?_) (.cons (k2 φ hφ) .nil)
    clear hcs h2 h1
    induction zs with
    | nil => rfl
    | cons z zs ih2 => simp only [List.map_cons, flatL, ih2, Bool.and_true]; rfl
  · obtain ⟨q1, q2⟩ := k4 M hM
    simp only [NodeAt]
    exact ⟨_, rows, rfl, by rw [h1], q1, q2, k3⟩
theorem rows_out {k : Nat} : ∀ (css : List (List Value)) (n : Nat), (∀ cs ∈ css, ∀ n, NodeOut P w k n cs) → ∃ m bs φ0 l rows, Laid P w n m bs φ0 ∧ l.length = css.length ∧ (∀ φ : Emb, φ0.le φ → LRel φ (List.flatten rows) css.flatten) ∧ ∀ M, Has M bs → RowsAt (k + 1) M l rows
  | [], n, _ => ⟨n, [], fun _ => none, [], [], Laid.nil n, rfl, fun _ _ => .nil, fun _ _ => by simp [RowsAt]⟩
  | cs :: css, n, h => by
    obtain ⟨m1, b1, φ1, t, r, k1, k2, k3⟩ := h cs (List.mem_cons_self ..) n
    obtain ⟨m2, b2, φ2, l, rows, q1, q2, q3, q4⟩ := rows_out css m1 fun c hc => h c (List.mem_cons_of_mem _ hc)
    refine ⟨m2, b1 ++ b2, both φ1 φ2, t :: l, r :: rows, k1.join q1, by simp [q2], fun φ hφ => ?_, fun M hM => RowsAt.cons (k3 M hM.left) (q4 M hM.right)⟩
    simp only [List.flatten_cons]
    exact (k2 φ fun i e hi => hφ i e (both_l φ1 φ2 i e hi)).append (q3 φ fun i e hi => hφ i e (both_r k1 q1 i e hi))
theorem flat_at {c : Array Value} {d : Nat} : ∀ {css : List (List Value)} {o : Nat}, (∀ i cs, css[i]? = some cs → cs.length = d ∧ ∀ j, j < d → c[o + i * d + j]? = cs[j]?) → ∀ j v, css.flatten[j]? = some v → c[o + j]? = some v
  | [], o, _, j, v, hv => by simp at hv
  | cs :: css, o, h, j, v, hv => by
    obtain ⟨h1, h2⟩ := h 0 cs rfl
    simp only [List.flatten_cons] at hv
    by_cases hj : j < d
    · rw [List.getElem?_append_left (by omega)] at hv
      have := h2 j hj
      rw [Nat.zero_mul, Nat.add_zero] at this
      rw [this, hv]
    · rw [List.getElem?_append_right (by omega)] at hv
      have := flat_at (c := c) (d := d) (css := css) (o := o + d) (fun i cs' hi => by
        obtain ⟨k1, k2⟩ := h (i + 1) cs' (by simpa using hi)
        refine ⟨k1, fun j hj => ?_⟩
        rw [← k2 j hj]
        congr 1
        rw [Nat.succ_mul]
        omega) (j - cs.length) v hv
      rw [h1] at this
      rw [← this]
      congr 1
      omega
theorem add_none {a : Addr} (h : a.spot = none) (n : Nat) : a.add n = ⟨a.block, a.off + n, none⟩ := by
  cases a
  simp only at h
  subst h
  exact add_norm _ _ _
theorem slice_out {base : Nat} {held : Bool} (hT : TreeTy P S E k fs) : ∀ (fuel n : Nat) (cs : List Value) (x : DataW H × List MemPlace), DataW.trod enc P w base (fun _ => true) held fuel S cs = some x → SliceOut P w k n cs := by
  intro fuel
  induction fuel using Nat.strongRecOn with
  | _ fuel ih =>
    intro n cs x h
    rcases DataW.trod_slice hT.us h with ⟨rfl, _⟩ | ⟨a, len, cap, elems, rest, nf, rfl, rfl, _, hb, hl, hm, hlen, hel, hsp, _⟩
    · exact ⟨_, rfl, n, [], fun _ => none, [], none, 0, [], Laid.nil n, fun φ _ => .leaf rfl, by simp, fun M _ => ⟨by simp [RowsAt], .inl ⟨none, rfl, rfl⟩⟩⟩
    · refine ⟨_, rfl, ?_⟩
      by_cases hcap : cap = 0
      · subst hcap
        have h0 : len = 0 := by omega
        subst h0
        exact ⟨n, [], fun _ => none, [], some ⟨0, 0, some 0⟩, 0, [], Laid.nil n, fun φ _ => .hollow (by simp), by simp, fun M _ => ⟨by simp [RowsAt], .inl ⟨_, rfl, rfl⟩⟩⟩
      · obtain ⟨hrl, hr⟩ := hsp rfl
        -- every element up to the capacity is read
        have each : ∀ i, i < cap → ∃ cs' y, w.cells? base (a.add (i * (k + 1))) (k + 1) = some cs' ∧ DataW.trod enc P w base (fun _ => true) held nf E cs' = some y := fun i hi => by
          by_cases hil : i < len
          · have h1 := hel i hil
            rw [hT.cells] at h1
            rw [List.getElem?_eq_getElem (show i < elems.length by omega)] at h1
            obtain ⟨c', h2, h3⟩ := Option.bind_eq_some_iff.1 h1
            exact ⟨c', _, h2, h3⟩
          · have h1 := hr (i - len) (by omega)
            rw [hT.cells, show len + (i - len) = i by omega] at h1
            rw [List.getElem?_eq_getElem (show i - len < rest.length by omega)] at h1
            obtain ⟨c', h2, h3⟩ := Option.bind_eq_some_iff.1 h1
            exact ⟨c', _, h2, h3⟩
        obtain ⟨c0, y0, hc0, _⟩ := each 0 (by omega)
        obtain ⟨_, hc0l, hc0c⟩ := World.cells?_some hc0
        have hcell0 := hc0c 0 (by omega)
        rw [List.getElem?_eq_getElem (by omega)] at hcell0
        have hheap : ∃ c elem fr, w.heap[a.block]? = some (.cells c elem fr) ∧ a.spot = none := by
          unfold World.cell? at hcell0
          simp only [block_add] at hcell0
          split at hcell0
          · rename_i c elem fr hc
            refine ⟨c, elem, fr, hc, ?_⟩
            cases hs : a.spot with
            | none => rfl
            | some s =>
              exfalso
              have : ((a.add (0 * (k + 1))).add 0).spot.isSome = true := by
                simp [Addr.add, hs]
              rw [this] at hcell0
              simp at hcell0
          · cases hcell0
        obtain ⟨c, elem, fr, hc, hspot⟩ := hheap
        have hcell : ∀ i cs', w.cells? base (a.add (i * (k + 1))) (k + 1) = some cs' → cs'.length = k + 1 ∧ ∀ j, j < k + 1 → c[a.off + i * (k + 1) + j]? = cs'[j]? := fun i cs' hi => by
          obtain ⟨_, h1, h2⟩ := World.cells?_some hi
          refine ⟨h1, fun j hj => ?_⟩
          have := h2 j hj
          rw [add_none hspot, add_norm] at this
          unfold World.cell? at this
          simp only [hc] at this
          simpa using this
        -- the elements
        let css : List (List Value) := (List.range len).map fun i => (w.cells? base (a.add (i * (k + 1))) (k + 1)).getD []
        have hcss : ∀ i cs', css[i]? = some cs' → i < len ∧ w.cells? base (a.add (i * (k + 1))) (k + 1) = some cs' := fun i cs' hi => by
          have hil : i < len := by
            have := (List.getElem?_eq_some_iff.1 hi).1
            simpa [css] using this
          refine ⟨hil, ?_⟩
          obtain ⟨c', y, h1, h2⟩ := each i (by omega)
          simp only [css, List.getElem?_map, List.getElem?_range hil, Option.map_some, Option.some.injEq] at hi
          rw [h1] at hi ⊢
          simpa using hi
        obtain ⟨m, bs, φ0, l, rows, k1, k2, k3, k4⟩ := rows_out (P := P) (w := w) (k := k) css n fun cs' hcs' n' => by
          obtain ⟨i, hi⟩ := List.getElem?_of_mem hcs'
          obtain ⟨hil, h1⟩ := hcss i cs' hi
          obtain ⟨c', y, h2, h3⟩ := each i (by omega)
          rw [h1] at h2
          cases h2
          exact node_out hT (fun nf' hnf' n cs x h => ih nf' (by omega) n cs x h) h3
        have hll : l.length = len := by rw [k2]; simp [css]
        have hflat := flat_at (c := c) (d := k + 1) (css := css) (o := a.off) fun i cs' hi => hcell i cs' (hcss i cs' hi).2
        -- how far the block goes
        have hsz : a.off + cap * (k + 1) ≤ c.size := by
          obtain ⟨c', y, h1, _⟩ := each (cap - 1) (by omega)
          obtain ⟨h2, h3⟩ := hcell (cap - 1) c' h1
          have h4 := h3 k (by omega)
          rw [List.getElem?_eq_getElem (by omega)] at h4
          have h5 : a.off + (cap - 1) * (k + 1) + k < c.size := by
            by_cases hh : a.off + (cap - 1) * (k + 1) + k < c.size
            · exact hh
            · rw [Array.getElem?_eq_none (by omega)] at h4; cases h4
          have h6 : cap * (k + 1) = (cap - 1) * (k + 1) + (k + 1) := by
            have := Nat.succ_mul (cap - 1) (k + 1)
            rw [show (cap - 1).succ = cap by omega] at this
            exact this
          omega
        have hrl2 : ∀ φ : Emb, φ0.le φ → rows.flatten.length = css.flatten.length := fun φ hφ => ((k3 φ hφ).length).symm
        have hcl : css.flatten.length = len * (k + 1) := by
          have : ∀ (l : List (List Value)), (∀ r ∈ l, r.length = k + 1) → l.flatten.length = l.length * (k + 1) := by
            intro l
            induction l with
            | nil => intro _; simp
            | cons r l ih =>
              intro hr
              rw [List.flatten_cons, List.length_append, ih fun r h => hr r (List.mem_cons_of_mem _ h), hr r (List.mem_cons_self ..), List.length_cons, Nat.succ_mul]
              omega
          rw [this css fun r hr => by
            obtain ⟨i, hi⟩ := List.getElem?_of_mem hr
            exact (hcell i r (hcss i r hi).2).1]
          simp [css]
        let ent : Ent := ⟨a.block, a.off, c.size - a.off, k + 1⟩
        let φb : Emb := fun i => if i = m then some ent else none
        let blk : ABlk := ⟨rows.flatten, elem, k + 1, rows.flatten.length, false⟩
        have hle : ∀ φ : Emb, (both φ0 φb).le φ → φ0.le φ := fun φ h i e hi => h i e (both_l φ0 φb i e hi)
        have hself : ∀ φ : Emb, (both φ0 φb).le φ → φ m = some ent := fun φ h => h m ent (by
          simp only [both]
          cases hh : φ0 m with
          | none => simp [φb]
          | some e => have := k1.dom m e hh; omega)
        have hlm : len * (k + 1) ≤ cap * (k + 1) := Nat.mul_le_mul_right _ hl
        refine ⟨m + 1, bs ++ [(m, blk)], both φ0 φb, l, some ⟨m, 0, none⟩, len, rows, ?_, fun φ hφ => ?_, ?_, fun M hM => ?_⟩
        · refine ⟨Nat.le_succ_of_le k1.le, fun i e h => ?_, fun p hp => ?_, ?_, fun p hp => ?_, fun p hp => ?_⟩
          · simp only [both] at h
            cases hh : φ0 i with
            | none =>
              rw [hh] at h
              simp only [φb] at h
              split at h
              · have := k1.le; omega
              · cases h
            | some e' => have := k1.dom i e' hh; omega
          · rcases List.mem_append.1 hp with hp | hp
            · have := k1.ids p hp; omega
            · rw [List.mem_singleton.1 hp]; have := k1.le; simp only; omega
          · rw [List.map_append, List.nodup_append]
            refine ⟨k1.nodup, by simp, fun x hx y hy => ?_⟩
            obtain ⟨p, hp, rfl⟩ := List.mem_map.1 hx
            simp at hy
            have := k1.ids p hp
            omega
          · rcases List.mem_append.1 hp with hp | hp
            · exact k1.ro p hp
            · rw [List.mem_singleton.1 hp]; exact ⟨rfl, rfl⟩
          · rcases List.mem_append.1 hp with hp | hp
            · obtain ⟨e, q1, q2⟩ := k1.rel p hp
              exact ⟨e, both_l φ0 φb _ _ q1, fun φ h => q2 φ (hle φ h)⟩
            · rw [List.mem_singleton.1 hp]
              refine ⟨ent, hself _ (Emb.le_refl _), fun φ h => ?_⟩
              refine BRel.part hc ?_ (fun j v hv => ?_) (fun h0 => by omega)
              · rw [hrl2 φ (hle φ h), hcl]; omega
              · obtain ⟨v', h1, h2⟩ := (k3 φ (hle φ h)).get hv
                exact ⟨v', hflat j v' h1, h2⟩
        · rw [hll]
          refine .slice ⟨rfl, hspot, hl, .inl rfl, ent, hself φ hφ, .inr ⟨rfl, rfl, ?_⟩⟩
          show 0 + cap * (k + 1) ≤ c.size - a.off
          omega
        · rw [hll]
          have : maxLen = 9223372036854775807 ∨ maxLen ≤ 9223372036854775807 := by first | exact .inl rfl | exact .inr (by decide)
          rcases this with h1 | h1 <;> omega
        · refine ⟨k4 M hM.left, ?_⟩
          rw [hll]
          refine .inr ⟨m, 0, len, blk, [], [], rfl, hM _ (List.mem_append_right _ (List.mem_singleton.2 rfl)), by simp [blk], rfl, (k4 M hM.left).wide⟩
end
end Go.Am
end
