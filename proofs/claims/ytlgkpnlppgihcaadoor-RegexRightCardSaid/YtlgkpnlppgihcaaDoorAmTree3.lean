/-
  What is proved: RegexRight: whether any expression is right is what the document's own reading says, and so is one of which one thing was turned. For every argument; the tables are as the program lays them.
-/
import Derived.Test.YtlgkpnlppgihcaaDoorAmTree2
noncomputable section
namespace Go.Am
open Go
variable {P : Program} {GL : List Nat}
def Qh (w : Nat) : List Value → Mem → Value → Mem → Prop := fun args M v M' => ∀ H t x, args.head? = some x → (∀ id, hidden H id = true → id < M.next) → NodeAt w (hidx H M) t x → ∃ t', NodeAt w (hidx H M') t' v
theorem Con.qh5 {f : FuncId} {rest : List Value} {M : Mem} {v : Value} {M' : Mem} {k s lo hi : Int} {l : List DT} {a : Option Addr} {n c : Nat} {rows : List (List Value)}
    (h1 : Ev P GL f (.agg ⟨[i64 k, i64 s, i64 lo, i64 hi, .slice a n c]⟩ :: rest) M v M') (h2 : Go.Am.Ext M M') (hn : l.length = n) (hr : RowsAt 5 M l rows) (hs : SlAt M (.slice a n c) n rows) (hl : n ≤ 9223372036854775807)
    (h3 : ∀ H, (∀ id, hidden H id = true → id < M.next) → RowsAt 5 (hidx H M) l rows → SlAt (hidx H M) (.slice a n c) n rows → ∃ t', NodeAt 5 (hidx H M') t' v) :
    ∃ v M', Con P GL f (Qh 5) (.agg ⟨[i64 k, i64 s, i64 lo, i64 hi, .slice a n c]⟩ :: rest) M v M' := by
  subst hn
  refine ⟨v, M', h1, h2, fun H t x hx hH hN => h3 H hH ?_ ?_⟩
  all_goals
    simp only [List.head?_cons, Option.some.injEq] at hx
    subst hx
    have hN0 : NodeAt 5 M (.mk [k, s, lo, hi] l) (.agg ⟨[i64 k, i64 s, i64 lo, i64 hi, .slice a l.length c]⟩) := by
      simp only [NodeAt]
      exact ⟨_, rows, rfl, rfl, hr, hs, hl⟩
    obtain rfl := NodeAt.unique _ _ _ (NodeAt.ext (fun _ _ h => hidx_out h) _ _ hN) hN0
    simp only [NodeAt] at hN
    obtain ⟨L, rows', e1, _, r1, s1, _⟩ := hN
    simp only [List.map_cons, List.map_nil, List.cons_append, List.nil_append, Value.agg.injEq, Array.mk.injEq, List.cons.injEq, and_true, true_and] at e1
    subst e1
    have r2 := RowsAt.ext (fun _ _ h => hidx_out h) _ _ r1
    have s2 := s1.ext (fun _ _ h => hidx_out h)
    obtain ⟨_, rfl⟩ := SlAt.unique s2 hs r2.len hr.len r2.wide hr.wide
  · exact r1
  · exact s1
theorem qh_num {M M' : Mem} {H : List (Nat × Nat)} {l : List DT} {a : Option Addr} {n c : Nat} {rows : List (List Value)} (k s lo hi : Int) (X : Go.Am.Ext M M') (hn : l.length = n) (hr : RowsAt 5 (hidx H M) l rows) (hs : SlAt (hidx H M) (.slice a n c) n rows) (hl : n ≤ 9223372036854775807) : ∃ t', NodeAt 5 (hidx H M') t' (.agg ⟨[i64 k, i64 s, i64 lo, i64 hi, .slice a n c]⟩) := by
  subst hn
  exact ⟨.mk [k, s, lo, hi] l, by simp only [NodeAt]; exact ⟨_, rows, rfl, rfl, RowsAt.ext (fun _ _ h => hidx_ext X h) _ _ hr, hs.ext (fun _ _ h => hidx_ext X h), hl⟩⟩
theorem qh_row {M0 M : Mem} {H : List (Nat × Nat)} {l : List DT} {rows : List (List Value)} {b n c : Nat} {blk : ABlk} (k s lo hi : Int) (hH : ∀ id, hidden H id = true → id < M0.next) (hb : M0.next ≤ b) (hg : M.get b = some blk) (hc : blk.cs = rows.flatten) (he : blk.esz = 5) (hr : RowsAt 5 (hidx H M) l rows) (hn : l.length = n) (hl : n ≤ 9223372036854775807) :
    ∃ t', NodeAt 5 (hidx H M) t' (.agg ⟨[i64 k, i64 s, i64 lo, i64 hi, .slice (some ⟨b, 0, none⟩) n c]⟩) := by
  subst hn
  exact ⟨_, NodeAt.mk5 k s lo hi (hidx_get.2 ⟨fun h => by have := hH b h; omega, hg⟩) hc he hr hl⟩
theorem flat_row {M : Mem} (k s lo hi : Int) : RowsAt 5 M [.mk [k, s, lo, hi] []] [[i64 k, i64 s, i64 lo, i64 hi, .slice none 0 0]] := RowsAt.one (NodeAt.flat5 k s lo hi)
theorem Qh.five {M M' M1 : Mem} {x v : Value} {rest : List Value} {H : List (Nat × Nat)} {t : DT} (hQ : Qh 5 (x :: rest) M v M') (hG : ∀ id, M1.get id = M'.get id) (hH : ∀ id, hidden H id = true → id < M.next) (hN : NodeAt 5 (hidx H M) t x) : ∃ t', NodeAt 5 (hidx H M1) t' v := by
  obtain ⟨t', h⟩ := hQ H t x rfl hH hN
  exact ⟨t', NodeAt.ext (fun id b h => by rw [hidx_get] at h ⊢; rw [hG]; exact h) _ _ h⟩
theorem hidx_nil {M : Mem} {t : DT} {v : Value} (h : NodeAt 5 M t v) : NodeAt 5 (hidx [] M) t v := NodeAt.ext (fun _ _ h => hidx_get.2 ⟨by simp [hidden], h⟩) _ _ h
theorem qh_copied {M0 Mc Mr Mr' Mf : Mem} {H : List (Nat × Nat)} {l : List DT} {rows : List (List Value)} {e1 r1 : List Value} {K b b1 b2 n c : Nat} {t1 : DT} {rest : List Value} (k s lo hi : Int) (hH : ∀ id, hidden H id = true → id < M0.next)
    (X : Go.Am.Ext M0 Mc) (hQ : Qh 5 (.agg ⟨e1⟩ :: rest) { Mc with log := [] } (.agg ⟨r1⟩) Mr') (hG : ∀ id, Mr.get id = Mr'.get id) (kp : ∀ id, id ≠ b → id ≠ b1 → id ≠ b2 → Mf.get id = Mr.get id) (Xf : Go.Am.Ext M0 Mf)
    (nb : M0.next ≤ b) (nb1 : M0.next ≤ b1) (nb2 : M0.next ≤ b2) (lb : b < Mc.next) (lb1 : b1 < Mc.next) (lb2 : b2 < Mc.next)
    {blk : ABlk} (hg : Mf.get b = some blk) (hc : blk.cs = (rows.set K r1).flatten) (he : blk.esz = 5) (hr : RowsAt 5 (hidx H M0) l rows) (ht : l[K]? = some t1) (hk : rows[K]? = some e1) (hn : l.length = n) (hl : n ≤ 9223372036854775807) :
    ∃ t', NodeAt 5 (hidx H Mf) t' (.agg ⟨[i64 k, i64 s, i64 lo, i64 hi, .slice (some ⟨b, 0, none⟩) n c]⟩) := by
  obtain ⟨e, k1, k2⟩ := hr.at ht
  rw [hk] at k1
  cases k1
  have hH' : ∀ id, hidden ((b, b + 1) :: (b1, b1 + 1) :: (b2, b2 + 1) :: H) id = true → id < Mc.next := fun id h => by
    have hx := X.next
    simp only [hidden_cons] at h
    rcases h with h | h | h | h
    · omega
    · omega
    · omega
    · have := hH id h; omega
  have k3 : NodeAt 5 (hidx ((b, b + 1) :: (b1, b1 + 1) :: (b2, b2 + 1) :: H) { Mc with log := [] }) t1 (.agg ⟨e1⟩) := NodeAt.ext (fun id bb h => by
    rw [hidx_get] at h ⊢
    have hlt := Mem.lt_of_get h.2
    refine ⟨fun hh => ?_, X.old h.2⟩
    simp only [hidden_cons] at hh
    rcases hh with hh | hh | hh | hh
    · omega
    · omega
    · omega
    · exact h.1 hh) _ _ k2
  obtain ⟨t2, k4⟩ := Qh.five hQ hG hH' k3
  have k5 : NodeAt 5 (hidx H Mf) t2 (.agg ⟨r1⟩) := NodeAt.ext (fun id bb h => by
    rw [hidx_get] at h ⊢
    obtain ⟨h1, h2⟩ := h
    simp only [hidden_cons, not_or] at h1
    obtain ⟨q1, q2, q3, q4⟩ := h1
    exact ⟨q4, (kp id (by omega) (by omega) (by omega)).trans h2⟩) _ _ k4
  have k6 := RowsAt.set (k := K) (RowsAt.ext (fun _ _ h => hidx_ext Xf h) _ _ hr) k5
  exact qh_row k s lo hi hH nb hg hc he k6 (by simpa using hn) hl
theorem SlAt.rest {M : Mem} {b o n c w : Nat} {rows : List (List Value)} (h : SlAt M (.slice (some ⟨b, o, none⟩) n c) n rows) (h0 : 0 < n) (hw : ∀ r ∈ rows, r.length = w) (hrn : rows.length = n) (c' : Nat) : SlAt M (.slice (some ⟨b, o + w, none⟩) (n - 1) c') (n - 1) rows.tail := by
  rcases h with ⟨_, _, h⟩ | ⟨b', o', c'', blk, pre, post, h1, h2, h3, h4, h5⟩
  · omega
  · simp only [Value.slice.injEq, Option.some.injEq, Addr.mk.injEq] at h1
    obtain ⟨⟨rfl, rfl, _⟩, _, rfl⟩ := h1
    cases rows with
    | nil => simp at hrn; omega
    | cons r rows => exact .inr ⟨b, _, _, blk, pre ++ r, post, rfl, h2, by rw [h3]; simp [List.flatten_cons], by simp [h4, hw r (List.mem_cons_self ..)], fun x hx => h5 x (List.mem_cons_of_mem _ hx)⟩
theorem slice_rest {t elem : TypeId} {M : Mem} {b o n c w : Nat} {rows : List (List Value)} (ht : P.underlying t = some (.slice elem)) (he : (P.info? elem).map (·.size) = some w)
    (hl : SlAt M (.slice (some ⟨b, o, none⟩) n c) n rows) (h0 : 0 < n) (hw : ∀ r ∈ rows, r.length = w) (hrn : rows.length = n) :
    ∃ c', aslice P t (.slice (some ⟨b, o, none⟩) n c) (some (.int .i64 1)) none none M = some (.slice (some ⟨b, o + w, none⟩) (n - 1) c') := by
  cases n with
  | zero => omega
  | succ n =>
    cases rows with
    | nil => simp at hrn
    | cons r rows =>
      obtain ⟨c', h, _⟩ := slice_tail ht he hl (hw r (List.mem_cons_self ..))
      exact ⟨c', h⟩
theorem qh_rest {M M' : Mem} {H : List (Nat × Nat)} {l : List DT} {b o n c c' : Nat} {rows : List (List Value)} (k s lo hi : Int) (X : Go.Am.Ext M M') (hn : l.length = n) (h0 : 0 < n) (hr : RowsAt 5 (hidx H M) l rows) (hs : SlAt (hidx H M) (.slice (some ⟨b, o, none⟩) n c) n rows) (hl : n ≤ 9223372036854775807) : ∃ t', NodeAt 5 (hidx H M') t' (.agg ⟨[i64 k, i64 s, i64 lo, i64 hi, .slice (some ⟨b, o + 5, none⟩) (n - 1) c']⟩) := by
  cases l with
  | nil => simp at hn; omega
  | cons t l =>
    have hsr := hs.rest h0 hr.wide (by rw [hr.len]; exact hn) c'
    obtain ⟨r, rest, rfl, _, hr'⟩ := hr.tail
    exact qh_num k s lo hi X (by simp at hn; omega) hr' hsr (by omega)
theorem append_none {sT xT elem : TypeId} {M : Mem} {a0 w y c : Nat} {a : Option Addr} (hs : P.underlying sT = some (.slice elem)) (hx : P.underlying xT = some (.slice elem)) (he : elemOf P elem = some (w, y, true)) (hw : 0 < w) (hy : y ≤ 1024) (ha : M.get a0 = some ⟨[], elem, w, 0, true⟩) :
    aappend P [sT, xT] (.slice (some ⟨a0, 0, none⟩) 0 1) (.slice a 0 c) M = some (1, .val (.slice (some ⟨a0, 0, none⟩) 0 1), M) := by
  unfold elemOf at he
  cases hi : P.info? elem with
  | none => rw [hi] at he; cases he
  | some e =>
    rw [hi] at he
    simp only [Option.map_some, Option.some.injEq] at he
    have hr := roomy_of (n := 0 + 0) he hw hy (by omega)
    simp only [Prod.mk.injEq] at he
    obtain ⟨rfl, rfl, _⟩ := he
    have hf : firsts M e.size 0 (.slice a 0 c) = some [] := by
      cases a with
      | none => rfl
      | some a =>
        simp only [firsts]
        cases M.get a.block with
        | none => rfl
        | some b => simp [range, takeN]
    unfold aappend
    simp only [hs, hx, hi, lenV, isIntD, hf, ha, range, Nat.zero_mul, List.drop_nil, takeN, hr]
    simp
theorem append_lit {sT xT elem : TypeId} {M : Mem} {a0 bx w y c : Nat} {new : List Value} {blk : ABlk} (hs : P.underlying sT = some (.slice elem)) (hx : P.underlying xT = some (.slice elem)) (he : elemOf P elem = some (w, y, true)) (hw : 0 < w) (hy : y ≤ 1024) (ha : M.get a0 = some ⟨[], elem, w, 0, true⟩)
    (hg : M.get bx = some blk) (ht : takeN w (blk.cs.drop 0) = some new) (hc : new.all isCell = true) (hl : new.length = w) :
    aappend P [sT, xT] (.slice (some ⟨a0, 0, none⟩) 0 1) (.slice (some ⟨bx, 0, none⟩) 1 c) M = some (1, .val (.slice (some ⟨M.next, 0, none⟩) 1 1), M.alloc ⟨new, elem, w, 0, true⟩) := by
  unfold elemOf at he
  cases hi : P.info? elem with
  | none => rw [hi] at he; cases he
  | some e =>
    rw [hi] at he
    simp only [Option.map_some, Option.some.injEq] at he
    have hr := roomy_of (n := 0 + 1) he hw hy (by omega)
    simp only [Prod.mk.injEq] at he
    obtain ⟨rfl, rfl, _⟩ := he
    unfold aappend
    simp only [hs, hx, hi, lenV, isIntD, firsts, hg, range, Nat.one_mul, ht, ha, Nat.zero_mul, List.drop_nil, takeN, hr, hc, hl, List.nil_append]
    simp [made, anew]
    rfl
end Go.Am
end
